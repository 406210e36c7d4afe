/-
  OUR OWN. Several bases in one world: each lies by itself; a change of one keeps the others.
-/
import Derived.Test.YtpbfiffgcgnidaaGreatDoorXR13
import Derived.Test.YtpbfiffgcgnidaaGreatDoorXPf7
import Derived.Test.YtpbfiffgcgnidaaGreatDoorXY2
namespace Go.Proofs.YtpbfiffgcgnidaaGreatDoor
open Go.RowKit Go.WideMaps Go.Maps

/-- A pair: where its bases lie, their rows, what they hold. -/
structure PR where
  bb : Nat
  rb : Nat
  v : Value
  r : Value
  cs : List RC
  ds : List RC
structure PIs (w : World) (B bb : Nat) (v : Value) (cs : List RC) : Prop where
  blk : Blk w bb [v] 59
  row : ClausesIs w B v (cs.map RC.d)
  good : Fine cs
  up : B ≤ bb
structure RIs (w : World) (B rb : Nat) (v : Value) (cs : List RC) : Prop where
  blk : Blk w rb [v] 76
  row : ClRow w B v cs
  good : Fine cs
  up : B ≤ rb
/-- Two rows that do not meet. -/
def Off (v v' : Value) : Prop := ∀ k, v.ownBlock = some k → v'.ownBlock ≠ some k
theorem Off.symm {v v' : Value} (h : Off v v') : Off v' v := fun k h1 h2 => h k h2 h1
structure Apart (p q : PR) : Prop where
  bb : p.bb ≠ q.bb
  rb : p.rb ≠ q.rb
  v : Off p.v q.v
  r : Off p.r q.r
theorem Apart.symm {p q : PR} (h : Apart p q) : Apart q p := ⟨h.bb.symm, h.rb.symm, h.v.symm, h.r.symm⟩
structure Bases (w : World) (B : Nat) (ps : List PR) : Prop where
  prog : ∀ (i : Nat) (p : PR), ps[i]? = some p → PIs w B p.bb p.v p.cs
  ref : ∀ (i : Nat) (p : PR), ps[i]? = some p → RIs w B p.rb p.r p.ds
  apart : ∀ (i j : Nat) (p q : PR), i ≠ j → ps[i]? = some p → ps[j]? = some q → Apart p q

theorem typed_own {w : World} {base : Nat} {e t : TypeId} {size : Nat} {v : Value} {n : Nat} {xs : List Value} (h : w.ownsRow base e size v n xs) (hne : e ≠ t) : Typed w (fun k => v.ownBlock = some k) t := by
  intro k hk cur z hc
  rcases h.2 with ⟨rfl, _⟩ | ⟨g, cap, cur', rfl, _, hg, _⟩
  · simp [Value.ownBlock] at hk
  · simp only [Value.ownBlock, Option.some.injEq] at hk
    subst hk
    rw [hg] at hc
    simp at hc
    exact hne hc.2.1
theorem typed_or {w : World} {S S' : Nat → Prop} {t : TypeId} (h : Typed w S t) (h' : Typed w S' t) : Typed w (fun k => S k ∨ S' k) t := fun k hk => hk.elim (h k) (h' k)
theorem typed_ne {w : World} {S : Nat → Prop} {t : TypeId} {b : Nat} {cs : List Value} (ht : Typed w S t) (h : Blk w b cs t) : ¬ S b := fun hS => ht b hS _ _ h

/-- What a change of other kinds of blocks keeps. -/
theorem PIs.only {S : Nat → Prop} {w w' : World} {B bb : Nat} {v : Value} {cs : List RC} (h : PIs w B bb v cs) (ho : Only S w w') (ht : Typed w S 186) (hb : ¬ S bb) (hv : ∀ k, v.ownBlock = some k → ¬ S k) : PIs w' B bb v cs :=
  ⟨h.blk.only ho hb, h.row.only ho ht hv, h.good, h.up⟩
theorem RIs.only {S : Nat → Prop} {w w' : World} {B rb : Nat} {v : Value} {cs : List RC} (h : RIs w B rb v cs) (ho : Only S w w') (ht : Typed w S 130) (ha : Typed w S 69) (hb : ¬ S rb) (hv : ∀ k, v.ownBlock = some k → ¬ S k) : RIs w' B rb v cs :=
  ⟨h.blk.only ho hb, h.row.only ho ht ha hv, h.good, h.up⟩
theorem PIs.other {S : Nat → Prop} {w w' : World} {B bb : Nat} {v : Value} {cs : List RC} (h : PIs w B bb v cs) (ho : Only S w w') (h1 : Typed w S 186) (h2 : Typed w S 59) (h3 : Typed w S 86) : PIs w' B bb v cs := by
  obtain ⟨rows, hr, _, _⟩ := h.row
  exact h.only ho h1 (typed_ne h2 h.blk) (own_typed hr h3)
theorem RIs.other {S : Nat → Prop} {w w' : World} {B rb : Nat} {v : Value} {cs : List RC} (h : RIs w B rb v cs) (ho : Only S w w') (h1 : Typed w S 130) (h2 : Typed w S 69) (h3 : Typed w S 76) (h4 : Typed w S 71) : RIs w' B rb v cs := by
  obtain ⟨rows, hr, _, _⟩ := h.row
  exact h.only ho h1 h2 (typed_ne h3 h.blk) (own_typed hr h4)
/-- The blocks of one base of the program, of one of the document: their kinds. -/
theorem PIs.typed {w : World} {B bb : Nat} {v : Value} {cs : List RC} (h : PIs w B bb v cs) (t : TypeId) (h1 : 59 ≠ t) (h2 : 86 ≠ t) : Typed w (fun k => k = bb ∨ v.ownBlock = some k) t := by
  obtain ⟨rows, hr, _, _⟩ := h.row
  exact typed_or (typed_blk h.blk h1) (typed_own hr h2)
theorem RIs.typed {w : World} {B rb : Nat} {v : Value} {cs : List RC} (h : RIs w B rb v cs) (t : TypeId) (h1 : 76 ≠ t) (h2 : 71 ≠ t) : Typed w (fun k => k = rb ∨ v.ownBlock = some k) t := by
  obtain ⟨rows, hr, _, _⟩ := h.row
  exact typed_or (typed_blk h.blk h1) (typed_own hr h2)
theorem PIs.lt {w : World} {B bb : Nat} {v : Value} {cs : List RC} (h : PIs w B bb v cs) : ∀ k, v.ownBlock = some k → B ≤ k ∧ k < w.heap.size := by
  obtain ⟨rows, hr, _, _⟩ := h.row
  exact fun k hk => hr.lt k hk
theorem RIs.lt {w : World} {B rb : Nat} {v : Value} {cs : List RC} (h : RIs w B rb v cs) : ∀ k, v.ownBlock = some k → B ≤ k ∧ k < w.heap.size := by
  obtain ⟨rows, hr, _, _⟩ := h.row
  exact fun k hk => hr.lt k hk
theorem PIs.below {w w' : World} {B bb : Nat} {v : Value} {cs : List RC} (h : PIs w B bb v cs) (hb : Below w.heap.size w w') : PIs w' B bb v cs := ⟨h.blk.below hb, h.row.below hb, h.good, h.up⟩
theorem RIs.below {w w' : World} {B rb : Nat} {v : Value} {cs : List RC} (h : RIs w B rb v cs) (hb : Below w.heap.size w w') : RIs w' B rb v cs := ⟨h.blk.below hb, h.row.below hb, h.good, h.up⟩
theorem Bases.below {w w' : World} {B : Nat} {ps : List PR} (h : Bases w B ps) (hb : Below w.heap.size w w') : Bases w' B ps := ⟨fun i p hi => (h.prog i p hi).below hb, fun i p hi => (h.ref i p hi).below hb, h.apart⟩
/-- A change of blocks that are no base's. -/
theorem Bases.other {S : Nat → Prop} {w w' : World} {B : Nat} {ps : List PR} (h : Bases w B ps) (ho : Only S w w') (h1 : Typed w S 186) (h2 : Typed w S 59) (h3 : Typed w S 86) (h4 : Typed w S 130) (h5 : Typed w S 69) (h6 : Typed w S 76) (h7 : Typed w S 71) : Bases w' B ps :=
  ⟨fun i p hi => (h.prog i p hi).other ho h1 h2 h3, fun i p hi => (h.ref i p hi).other ho h4 h5 h6 h7, h.apart⟩
theorem off_where {w : World} {v v' u : Value} (h : v'.ownBlock = v.ownBlock ∨ ∀ k, v'.ownBlock = some k → w.heap.size ≤ k) (ho : Off v u) (hu : ∀ k, u.ownBlock = some k → k < w.heap.size) : Off v' u := by
  intro k h1 h2
  rcases h with h | h
  · exact ho k (h ▸ h1) h2
  · have := h k h1
    have := hu k h2
    omega
theorem set_get {α : Type} (l : List α) (i j : Nat) (x p : α) (h : (l.set i x)[j]? = some p) : (i = j ∧ p = x) ∨ (i ≠ j ∧ l[j]? = some p) := by
  rw [List.getElem?_set] at h
  by_cases hij : i = j
  · subst hij
    rw [if_pos rfl] at h
    split at h
    · exact .inl ⟨rfl, (Option.some.inj h).symm⟩
    · simp at h
  · rw [if_neg hij] at h
    exact .inr ⟨hij, h⟩
/-- The program's base number i is changed. -/
theorem Bases.pchange {w w' : World} {B : Nat} {ps : List PR} (h : Bases w B ps) {i : Nat} {x : PR} (hi : ps[i]? = some x) {r : (Nat × Nat) × List RC} {e : Ending} (hc : PChange w B x.bb x.v r e w') (hg : Fine r.2) :
    ∃ v', Bases w' B (ps.set i { x with v := v', cs := r.2 }) := by
  obtain ⟨_, ⟨v', hb', hr', hwh⟩, ho⟩ := hc
  have hx := h.prog i x hi
  refine ⟨v', ⟨?_, ?_, ?_⟩⟩
  · intro j p hj
    rcases set_get _ _ _ _ _ hj with ⟨rfl, rfl⟩ | ⟨hne, hj⟩
    · exact ⟨hb', hr', hg, hx.up⟩
    · have hp := h.prog j p hj
      have ha := h.apart i j x p hne hi hj
      obtain ⟨rx, hrx, _, _⟩ := hx.row
      obtain ⟨rp, hrp, _, _⟩ := hp.row
      refine hp.only ho (hx.typed _ (by decide) (by decide)) ?_ ?_
      · rintro (hk | hk)
        · exact ha.bb hk.symm
        · exact own_ne hrx hp.blk (by decide) hk
      · rintro k hk (rfl | hk')
        · exact own_ne hrp hx.blk (by decide) hk
        · exact ha.v k hk' hk
  · intro j p hj
    rcases set_get _ _ _ _ _ hj with ⟨rfl, rfl⟩ | ⟨hne, hj⟩
    · exact (h.ref _ x hi).other ho (hx.typed _ (by decide) (by decide)) (hx.typed _ (by decide) (by decide)) (hx.typed _ (by decide) (by decide)) (hx.typed _ (by decide) (by decide))
    · exact (h.ref j p hj).other ho (hx.typed _ (by decide) (by decide)) (hx.typed _ (by decide) (by decide)) (hx.typed _ (by decide) (by decide)) (hx.typed _ (by decide) (by decide))
  · have key : ∀ j q, i ≠ j → ps[j]? = some q → Apart { x with v := v', cs := r.2 } q := fun j q hne hj => by
      have ha := h.apart i j x q hne hi hj
      exact ⟨ha.bb, ha.rb, off_where hwh ha.v fun k hk => ((h.prog j q hj).lt k hk).2, ha.r⟩
    intro j k p q hjk hj hk
    rcases set_get _ _ _ _ _ hj with ⟨rfl, rfl⟩ | ⟨hnj, hj⟩
    · rcases set_get _ _ _ _ _ hk with ⟨rfl, rfl⟩ | ⟨hnk, hk⟩
      · exact absurd rfl hjk
      · exact key k q hnk hk
    · rcases set_get _ _ _ _ _ hk with ⟨rfl, rfl⟩ | ⟨hnk, hk⟩
      · exact (key j p hnj hj).symm
      · exact h.apart j k p q hjk hj hk
/-- The document's base number i is changed. -/
theorem Bases.rchange {w w' : World} {B : Nat} {ps : List PR} (h : Bases w B ps) {i : Nat} {x : PR} (hi : ps[i]? = some x) {r : (Nat × Nat) × List RC} {e : Ending} (hc : RChange w B x.rb x.r r e w') (hg : Fine r.2) :
    ∃ v', Bases w' B (ps.set i { x with r := v', ds := r.2 }) := by
  obtain ⟨_, ⟨v', hb', hr', hwh⟩, ho⟩ := hc
  have hx := h.ref i x hi
  refine ⟨v', ⟨?_, ?_, ?_⟩⟩
  · intro j p hj
    rcases set_get _ _ _ _ _ hj with ⟨rfl, rfl⟩ | ⟨hne, hj⟩
    · exact (h.prog _ x hi).other ho (hx.typed _ (by decide) (by decide)) (hx.typed _ (by decide) (by decide)) (hx.typed _ (by decide) (by decide))
    · exact (h.prog j p hj).other ho (hx.typed _ (by decide) (by decide)) (hx.typed _ (by decide) (by decide)) (hx.typed _ (by decide) (by decide))
  · intro j p hj
    rcases set_get _ _ _ _ _ hj with ⟨rfl, rfl⟩ | ⟨hne, hj⟩
    · exact ⟨hb', hr', hg, hx.up⟩
    · have hp := h.ref j p hj
      have ha := h.apart i j x p hne hi hj
      obtain ⟨rx, hrx, _, _⟩ := hx.row
      obtain ⟨rp, hrp, _, _⟩ := hp.row
      refine hp.only ho (hx.typed _ (by decide) (by decide)) (hx.typed _ (by decide) (by decide)) ?_ ?_
      · rintro (hk | hk)
        · exact ha.rb hk.symm
        · exact own_ne hrx hp.blk (by decide) hk
      · rintro k hk (rfl | hk')
        · exact own_ne hrp hx.blk (by decide) hk
        · exact ha.r k hk' hk
  · have key : ∀ j q, i ≠ j → ps[j]? = some q → Apart { x with r := v', ds := r.2 } q := fun j q hne hj => by
      have ha := h.apart i j x q hne hi hj
      exact ⟨ha.bb, ha.rb, ha.v, off_where hwh ha.r fun k hk => ((h.ref j q hj).lt k hk).2⟩
    intro j k p q hjk hj hk
    rcases set_get _ _ _ _ _ hj with ⟨rfl, rfl⟩ | ⟨hnj, hj⟩
    · rcases set_get _ _ _ _ _ hk with ⟨rfl, rfl⟩ | ⟨hnk, hk⟩
      · exact absurd rfl hjk
      · exact key k q hnk hk
    · rcases set_get _ _ _ _ _ hk with ⟨rfl, rfl⟩ | ⟨hnk, hk⟩
      · exact (key j p hnj hj).symm
      · exact h.apart j k p q hjk hj hk
/-- One pair more, of which both lie behind all others. -/
theorem Bases.more {w : World} {B n0 : Nat} {ps : List PR} (h : Bases w B ps) (x : PR) (h1 : PIs w B x.bb x.v x.cs) (h2 : RIs w B x.rb x.r x.ds) (hb : n0 ≤ x.bb) (hr : n0 ≤ x.rb) (hv : ∀ k, x.v.ownBlock = some k → n0 ≤ k) (hw : ∀ k, x.r.ownBlock = some k → n0 ≤ k)
    (old : ∀ (i : Nat) (p : PR), ps[i]? = some p → p.bb < n0 ∧ p.rb < n0 ∧ (∀ k, p.v.ownBlock = some k → k < n0) ∧ (∀ k, p.r.ownBlock = some k → k < n0)) : Bases w B (ps ++ [x]) := by
  have look : ∀ (i : Nat) (p : PR), (ps ++ [x])[i]? = some p → (ps[i]? = some p) ∨ (i = ps.length ∧ p = x) := by
    intro i p hp
    by_cases hi : i < ps.length
    · rw [List.getElem?_append_left hi] at hp
      exact .inl hp
    · rw [List.getElem?_append_right (by omega)] at hp
      by_cases he : i = ps.length
      · subst he
        simp at hp
        exact .inr ⟨rfl, hp.symm⟩
      · rw [List.getElem?_eq_none (by simp; omega)] at hp
        simp at hp
  have key : ∀ (i : Nat) (p : PR), ps[i]? = some p → Apart p x := by
    intro i p hp
    obtain ⟨a, b, c, d⟩ := old i p hp
    exact ⟨by omega, by omega, fun k h3 h4 => by have := c k h3; have := hv k h4; omega, fun k h3 h4 => by have := d k h3; have := hw k h4; omega⟩
  refine ⟨?_, ?_, ?_⟩
  · intro i p hp
    rcases look i p hp with hp | ⟨_, rfl⟩
    · exact h.prog i p hp
    · exact h1
  · intro i p hp
    rcases look i p hp with hp | ⟨_, rfl⟩
    · exact h.ref i p hp
    · exact h2
  · intro i j p q hij hp hq
    rcases look i p hp with hp' | ⟨hi, hpx⟩
    · rcases look j q hq with hq' | ⟨hj, hqx⟩
      · exact h.apart i j p q hij hp' hq'
      · rw [hqx]; exact key i p hp'
    · rcases look j q hq with hq' | ⟨hj, hqx⟩
      · rw [hpx]; exact (key j q hq').symm
      · omega

def PR.ptrs (p : PR) : List Value := [.pointer (some ⟨p.bb, 0, none⟩), .pointer (some ⟨p.rb, 0, none⟩)]
/-- The world of the laws: its row of pairs, what they hold; the same in both. -/
structure WorldIs (w : World) (B wb : Nat) (hv : Value) (ps : List PR) : Prop where
  ends : EndsIs w
  pos : 0 < B
  le : B ≤ w.heap.size
  up : B ≤ wb
  row : ∃ pv, Blk w wb [pv, hv] 29 ∧ w.ownsRow B 44 2 pv ps.length (ps.flatMap PR.ptrs)
  bases : Bases w B ps
  same : ∀ p ∈ ps, p.ds = p.cs
theorem WorldIs.below {w w' : World} {B wb : Nat} {hv : Value} {ps : List PR} (h : WorldIs w B wb hv ps) (hb : Below w.heap.size w w') : WorldIs w' B wb hv ps := by
  obtain ⟨pv, h1, h2⟩ := h.row
  exact ⟨h.ends.below hb (Nat.lt_of_lt_of_le h.pos h.le), h.pos, Nat.le_trans h.le hb.size, h.up, ⟨pv, h1.below hb, own_below h2 hb⟩, h.bases.below hb, h.same⟩
theorem set_ptrs (ps : List PR) (i : Nat) (x y : PR) (hi : ps[i]? = some x) (hb : y.bb = x.bb) (hr : y.rb = x.rb) : (ps.set i y).flatMap PR.ptrs = ps.flatMap PR.ptrs := by
  have hm : (ps.set i y).map PR.ptrs = ps.map PR.ptrs := by
    apply List.ext_getElem?
    intro k
    rw [List.getElem?_map, List.getElem?_map, List.getElem?_set]
    by_cases hk : i = k
    · subst hk
      rw [if_pos rfl, hi]
      rw [if_pos (List.getElem?_eq_some_iff.1 hi).1]
      simp [PR.ptrs, hb, hr]
    · rw [if_neg hk]
  rw [List.flatMap_def, List.flatMap_def, hm]
/-- Both bases of the pair number i are changed, one behind the other. -/
theorem WorldIs.change {w w1 w2 : World} {B wb : Nat} {hv : Value} {ps : List PR} (h : WorldIs w B wb hv ps) {i : Nat} {x : PR} (hi : ps[i]? = some x) {r : (Nat × Nat) × List RC} {e e' : Ending}
    (hc : PChange w B x.bb x.v r e w1) (hd : RChange w1 B x.rb x.r r e' w2) (hg : Fine r.2) : ∃ ps', ps'.length = ps.length ∧ WorldIs w2 B wb hv ps' ∧ Below B w w2 ∧ ∀ ob cs, Blk w ob cs 33 → Blk w2 ob cs 33 := by
  have hlt := (List.getElem?_eq_some_iff.1 hi).1
  have hx := h.bases.prog i x hi
  have hy := h.bases.ref i x hi
  obtain ⟨v', hb1⟩ := h.bases.pchange hi hc hg
  have hi1 : (ps.set i { x with v := v', cs := r.2 })[i]? = some { x with v := v', cs := r.2 } := by rw [List.getElem?_set, if_pos rfl, if_pos hlt]
  have hy1 := hb1.ref i _ hi1
  obtain ⟨r', hb2⟩ := hb1.rchange hi1 hd hg
  have ho1 := hc.2.2
  have ho2 := hd.2.2
  have hB1 : Below B w w1 := ho1.below h.le (by rintro k (rfl | hk); exact hx.up; exact (hx.lt k hk).1)
  have hB2 : Below B w1 w2 := ho2.below (Nat.le_trans h.le hB1.size) (by rintro k (rfl | hk); exact hy.up; exact (hy.lt k hk).1)
  obtain ⟨pv, hW, hP⟩ := h.row
  have hW1 := hW.only ho1 (typed_ne (hx.typed _ (by decide) (by decide)) hW)
  have hP1 := own_only hP ho1 (own_typed hP (hx.typed _ (by decide) (by decide)))
  have hW2 := hW1.only ho2 (typed_ne (hy1.typed _ (by decide) (by decide)) hW1)
  have hP2 := own_only hP1 ho2 (own_typed hP1 (hy1.typed _ (by decide) (by decide)))
  rw [List.set_set] at hb2
  refine ⟨_, by simp, ⟨(h.ends.below hB1 h.pos).below hB2 h.pos, h.pos, Nat.le_trans h.le (Nat.le_trans hB1.size hB2.size), h.up, ⟨pv, hW2, ?_⟩, hb2, ?_⟩, hB1.trans hB2, fun ob c hb => (hb.only ho1 (typed_ne (hx.typed _ (by decide) (by decide)) hb)).only ho2 (typed_ne (hy1.typed _ (by decide) (by decide)) (hb.only ho1 (typed_ne (hx.typed _ (by decide) (by decide)) hb)))⟩
  · show w2.ownsRow B 44 2 pv (ps.set i ⟨x.bb, x.rb, v', r', r.2, r.2⟩).length ((ps.set i ⟨x.bb, x.rb, v', r', r.2, r.2⟩).flatMap PR.ptrs)
    rw [set_ptrs ps i x ⟨x.bb, x.rb, v', r', r.2, r.2⟩ hi rfl rfl, List.length_set]
    exact hP2
  · intro p hp
    rcases List.mem_or_eq_of_mem_set hp with hp | rfl
    · exact h.same p hp
    · rfl

end Go.Proofs.YtpbfiffgcgnidaaGreatDoor

namespace Go.Proofs.YtpbfiffgcgnidaaGreatDoor
open Go.RowKit Go.WideMaps Go.Maps
attribute [local go_sem] drewN_alloc drewN_setCell

/-- Both loaded: the world behind. -/
theorem WorldIs.loaded {w w1 w2 w3 : World} {B wb : Nat} {hv pv : Value} {ps : List PR} (h : WorldIs w B wb hv ps) (hW2 : Blk w2 wb [pv, hv] 29) (hP2 : w2.ownsRow B 44 2 pv ps.length (ps.flatMap PR.ptrs)) {s : ByteArray} (hz : (refE s).1 = 0)
    (hB1 : Below w.heap.size w w1) (hB2 : Below w1.heap.size w1 w2) {bb rb : Nat} {cs : List RC} (hcs : (T s.size s.data.toList).bind (PP []) = some cs) (hbb : w.heap.size ≤ bb) (hI1 : BaseIs w1 w.heap.size bb (programR s).cls) (hrb : w1.heap.size ≤ rb) (hI2 : RBaseIs w2 w1.heap.size rb cs)
    (o : Obj) {g cap : Nat} (ho3 : w3.ownsRow B 44 2 (.slice (some ⟨g, 0, none⟩) (ps.length + 1) cap) (ps.length + 1) (ps.flatMap PR.ptrs ++ [.pointer (some ⟨bb, 0, none⟩), .pointer (some ⟨rb, 0, none⟩)])) (hg3 : (w2.alloc o).grownBy w3 pv.ownBlock)
    (hW3 : Blk w3 wb [pv, hv] 29) :
    (∃ ps', WorldIs (w3.setCell ⟨wb, 0, none⟩ (.slice (some ⟨g, 0, none⟩) (ps.length + 1) cap)) B wb hv ps' ∧ ps'.length = ps.length + 1) ∧ Below B w (w3.setCell ⟨wb, 0, none⟩ (.slice (some ⟨g, 0, none⟩) (ps.length + 1) cap)) ∧ (∀ ob cs, Blk w ob cs 33 → Blk (w3.setCell ⟨wb, 0, none⟩ (.slice (some ⟨g, 0, none⟩) (ps.length + 1) cap)) ob cs 33) := by
  have hs1 := hB1.size
  have hs2 := hB2.size
  have hle := h.le
  have hp := program_same s
  rw [hcs] at hp
  rw [hp.2] at hI1
  have hfine := fine_load s cs hcs hz
  obtain ⟨v, hv1, hv2⟩ := hI1
  obtain ⟨r, hr1, hr2⟩ := hI2
  have hB12 : Below w.heap.size w w2 := hB1.trans (hB2.mono hs1)
  obtain ⟨vr, hvr, hvl, hvi⟩ := hv2
  have hPI : PIs w1 B bb v cs := ⟨hv1, ⟨vr, own_mono hvr hle, hvl, fun i d c h1 h2 => by
    obtain ⟨bv, e1, e2⟩ := hvi i d c h1 h2
    exact ⟨bv, e1, own_mono e2 hle⟩⟩, hfine, by omega⟩
  have hRI : RIs w2 B rb r cs := ⟨hr1, hr2.mono (by omega), hfine, by omega⟩
  have hb2 := h.bases.below hB12
  obtain ⟨rr, hrr, _, _⟩ := hr2
  have hb3 : Bases w2 B (ps ++ [⟨bb, rb, v, r, cs, cs⟩]) := hb2.more (n0 := w.heap.size) ⟨bb, rb, v, r, cs, cs⟩ (hPI.below hB2) hRI hbb (by show w.heap.size ≤ rb; omega) (own_base hvr) (fun k hk => by have := own_base hrr k hk; omega)
    (fun i p hi => ⟨(h.bases.prog i p hi).blk.lt, (h.bases.ref i p hi).blk.lt, fun k hk => ((h.bases.prog i p hi).lt k hk).2, fun k hk => ((h.bases.ref i p hi).lt k hk).2⟩)
  have ho : Only (fun k => k = wb ∨ pv.ownBlock = some k) w2 (w3.setCell ⟨wb, 0, none⟩ (.slice (some ⟨g, 0, none⟩) (ps.length + 1) cap)) :=
    Only.setCell (S := fun k => k = wb ∨ pv.ownBlock = some k) (p := ⟨wb, 0, none⟩) (Only.trans (S := fun k => k = wb ∨ pv.ownBlock = some k) (S' := fun k => k = wb ∨ pv.ownBlock = some k) (Only.of_below (below_alloc w2 o)) (Only.of_grown hg3 (fun k hk => Or.inr hk)) (fun k _ hk => hk)) (.inl (.inl rfl)) _
  have ht : ∀ t, 29 ≠ t → 44 ≠ t → Typed w2 (fun k => k = wb ∨ pv.ownBlock = some k) t := fun t h1 h2 => typed_or (typed_blk hW2 h1) (typed_own hP2 h2)
  have hb4 := hb3.other ho (ht _ (by decide) (by decide)) (ht _ (by decide) (by decide)) (ht _ (by decide) (by decide)) (ht _ (by decide) (by decide)) (ht _ (by decide) (by decide)) (ht _ (by decide) (by decide)) (ht _ (by decide) (by decide))
  have hBb : Below B w (w3.setCell ⟨wb, 0, none⟩ (.slice (some ⟨g, 0, none⟩) (ps.length + 1) cap)) := (hB12.mono hle).trans (ho.below (by omega) (by
    rintro k (rfl | hk)
    · exact h.up
    · exact own_base hP2 k hk))
  refine ⟨⟨_, ⟨h.ends.below hBb h.pos, h.pos, Nat.le_trans hle hBb.size, h.up, ⟨_, hW3.setCell 0 _, ?_⟩, hb4, ?_⟩, by simp⟩, hBb, fun ob c hb => (hb.below hB12).only ho (typed_ne (ht _ (by decide) (by decide)) (hb.below hB12))⟩
  · have e1 : (ps ++ [(⟨bb, rb, v, r, cs, cs⟩ : PR)]).flatMap PR.ptrs = ps.flatMap PR.ptrs ++ [.pointer (some ⟨bb, 0, none⟩), .pointer (some ⟨rb, 0, none⟩)] := by simp [PR.ptrs]
    have e2 : (ps ++ [(⟨bb, rb, v, r, cs, cs⟩ : PR)]).length = ps.length + 1 := by simp
    rw [e1, e2]
    exact own_set ho3 ⟨wb, 0, none⟩ _ (own_ne ho3 hW3 (by decide))
  · intro p hp
    rw [List.mem_append, List.mem_singleton] at hp
    rcases hp with hp | rfl
    · exact h.same p hp
    · rfl

set_option maxHeartbeats 2000000 in
set_option maxRecDepth 100000 in
theorem wloads_c (w : World) (B wb : Nat) (hv : Value) (ps : List PR) (hI : WorldIs w B wb hv ps) (hn : ps.length ≤ 5000000000000) (s : ByteArray) (hs : s.size ≤ maxLen) :
    Calls Tryz.prog 9 #[.pointer (some ⟨wb, 0, none⟩), .string s] w fun e w' => e = .returned (.bool true) ∧ (∃ ps', WorldIs w' B wb hv ps' ∧ ps'.length = if (loadE s).1 = 0 then ps.length + 1 else ps.length) ∧ Below B w w' ∧ (∀ ob cs, Blk w ob cs 33 → Blk w' ob cs 33) := by
  obtain ⟨i1, hi1, hy0, hy1, hy2⟩ := info_parts infoPair
  obtain ⟨pv, hW, hP⟩ := hI.row
  obtain ⟨po, pcap, rfl⟩ := own_form hP
  have hE := hI.ends
  have hlw := hW.lt
  have hpos := hI.pos
  have hBw := hI.le
  by_cases hz : (loadE s).1 = 0
  · have HZ := hid hz
    have HR := hid (show (refE s).1 = 0 by rw [← load_ref]; exact hz)
    rw [if_pos hz]
    clear hz
    go_enter Tryz.func9, Tryz.ntmps9
    go_wp2_with (first
      | (go_at_call 12; refine (load_c _ s hs).mono ?_; rintro e w1 ⟨hx, hB1⟩; rw [if_pos HZ.out] at hx; obtain ⟨bb, rfl, hbb, hI1⟩ := hx)
      | (go_at_call 13; refine (rload_c _ (hE.below hB1 (by omega)) (by have := hB1.size; omega) s hs).mono ?_; rintro e w2 ⟨hx, hB2⟩; rw [if_pos HR.out] at hx; obtain ⟨rb, cs, hcs, rfl, hrb, hI2⟩ := hx; have hWs1 := hB1.size; have hWs2 := hB2.size; have hW2 := (hW.below hB1).below hB2; have hP2 := own_below (own_below hP hB1) hB2; have p0 := hW2.cell 0; have fW := hW2.frozen; have hlw2 := hW2.lt; simp at p0)
      | (at_builtin; refine wpList_append_ownS _ rfl _ _ 26 rfl B 44 i1 _ 2 16 Tryz.underlying26 hi1 hy0 hy1 hy2 rfl (by decide) _ ps.length (ps.flatMap PR.ptrs) rfl (hP2.alloc _) ⟨w2.heap.size, 0, none⟩ 1 [.pointer (some ⟨bb, 0, none⟩), .pointer (some ⟨rb, 0, none⟩)] rfl rfl (new_cells _ _ _) (by intro u hu; simp at hu; rcases hu with rfl | rfl <;> rfl) (by unfold maxLen; omega) (by omega) (by simp; omega) ?_; intro g cap w3 ho3 hg3; have hne := own_ne hP2 hW2 (by decide); have hW3 := (hW2.alloc _).grown hg3 hne; have d0 := hW3.cell 0; have fW3 := hW3.frozen; simp at d0))
    go_ret
    obtain ⟨h1, h2, h3⟩ := hI.loaded hW2 hP2 HR.out hB1 hB2 hcs hbb hI1 hrb hI2 _ ho3 hg3 hW3
    exact ⟨rfl, h1, h2, h3⟩
  · have HZ := hid hz
    have HR := hid (show ¬ (refE s).1 = 0 by rw [← load_ref]; exact hz)
    have HF := hid (load_ref s)
    rw [if_neg hz]
    clear hz
    obtain ⟨ea, HEA⟩ : ∃ ea, Hid ((loadE s).1 = ea) := ⟨_, rfl⟩
    obtain ⟨eb, HEB⟩ : ∃ eb, Hid ((loadE s).2 = eb) := ⟨_, rfl⟩
    go_enter Tryz.func9, Tryz.ntmps9
    go_wp2_with (first
      | (go_at_call 12; refine (load_c _ s hs).mono ?_; rintro e w1 ⟨hx, hB1⟩; rw [if_neg HZ.out, HEA.out, HEB.out] at hx; subst hx)
      | (go_at_call 13; refine (rload_c _ (hE.below hB1 (by omega)) (by have := hB1.size; omega) s hs).mono ?_; rintro e w2 ⟨hx, hB2⟩; rw [if_neg HR.out, ← HF.out, HEA.out, HEB.out] at hx; subst hx))
    go_ret
    have hWs1 := hB1.size
    have hB12 : Below w.heap.size w w2 := hB1.trans (hB2.mono hWs1)
    exact ⟨rfl, ⟨ps, hI.below hB12, rfl⟩, hB12.mono hBw, fun ob c hb => hb.below hB12⟩

end Go.Proofs.YtpbfiffgcgnidaaGreatDoor
