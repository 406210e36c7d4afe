/-
  OUR OWN. Frames: which old blocks may have turned. An append: its row is the old one or a new one.
-/
import Derived.Test.YtpbfiffgcgnidaaGreatDoorXR5
import Derived.Test.YtpbfiffgcgnidaaGreatDoorXM3
namespace Go.Proofs.YtpbfiffgcgnidaaGreatDoor
open Go.RowKit Go.WideMaps Go.Maps

/-- Of what was there, only the blocks of S may have turned. -/
structure Only (S : Nat → Prop) (w w' : World) : Prop where
  os : w'.os = w.os
  tape : w'.tape = w.tape
  output : w'.output = w.output
  size : w.heap.size ≤ w'.heap.size
  block : ∀ k, k < w.heap.size → ¬ S k → w'.heap[k]? = w.heap[k]?
theorem Only.of_below {S : Nat → Prop} {w w' : World} (h : Below w.heap.size w w') : Only S w w' := ⟨h.os, h.tape, h.output, h.size, fun k hk _ => h.block k hk⟩
theorem Only.of_grown {S : Nat → Prop} {w w' : World} {row : Option Nat} (h : w.grownBy w' row) (hS : ∀ k, row = some k → S k) : Only S w w' := ⟨h.os, h.tape, h.output, h.size, fun k hk hn => h.block k hk (fun e => hn (hS k e.symm))⟩
theorem Only.trans {S S' : Nat → Prop} {w w1 w2 : World} (h : Only S w w1) (h' : Only S' w1 w2) (hS : ∀ k, k < w.heap.size → S' k → S k) : Only S w w2 :=
  ⟨h'.os.trans h.os, h'.tape.trans h.tape, h'.output.trans h.output, Nat.le_trans h.size h'.size, fun k hk hn => (h'.block k (Nat.lt_of_lt_of_le hk h.size) (fun e => hn (hS k hk e))).trans (h.block k hk hn)⟩
theorem Only.mono {S S' : Nat → Prop} {w w' : World} (h : Only S w w') (hS : ∀ k, S k → S' k) : Only S' w w' := ⟨h.os, h.tape, h.output, h.size, fun k hk hn => h.block k hk (fun e => hn (hS k e))⟩
theorem Only.setCell {S : Nat → Prop} {w w' : World} (h : Only S w w') {p : Addr} (hp : S p.block ∨ w.heap.size ≤ p.block) (u : Value) : Only S w (w'.setCell p u) :=
  ⟨h.os, h.tape, h.output, by rw [show (w'.setCell p u).heap.size = w'.heap.size by simp [World.setCell]]; exact h.size, fun k hk hn => (Below.heap_setCell w' p u k (by
    rintro rfl
    rcases hp with hp | hp
    · exact hn hp
    · omega)).trans (h.block k hk hn)⟩
theorem Only.alloc {S : Nat → Prop} {w w' : World} (h : Only S w w') (o : Obj) : Only S w (w'.alloc o) :=
  ⟨h.os, h.tape, h.output, by have := h.size; simp; omega, fun k hk hn => (Below.heap_alloc w' o k (by have := h.size; omega)).trans (h.block k hk hn)⟩
theorem Only.drew {S : Nat → Prop} {w w' : World} (h : Only S w w') : Only S w w'.drew := ⟨h.os, h.tape, h.output, h.size, h.block⟩
theorem Only.below {S : Nat → Prop} {w w' : World} {B : Nat} (h : Only S w w') (hB : B ≤ w.heap.size) (hS : ∀ k, S k → B ≤ k) : Below B w w' := ⟨h.os, h.tape, h.output, h.size, fun k hk => h.block k (by omega) (fun e => by have := hS k e; omega)⟩
theorem Blk.only {S : Nat → Prop} {w w' : World} {b : Nat} {cs : List Value} {t : TypeId} (h : Blk w b cs t) (ho : Only S w w') (hn : ¬ S b) : Blk w' b cs t := by
  have hlt := h.lt
  unfold Blk at *
  rw [ho.block b hlt hn, h]
theorem own_only {S : Nat → Prop} {w w' : World} {base : Nat} {e : TypeId} {size : Nat} {v : Value} {n : Nat} {xs : List Value} (h : w.ownsRow base e size v n xs) (ho : Only S w w') (hn : ∀ k, v.ownBlock = some k → ¬ S k) : w'.ownsRow base e size v n xs := by
  refine ⟨h.1, ?_⟩
  rcases h.2 with hz | ⟨g, cap, cur, rfl, hb, hg, r⟩
  · exact .inl hz
  · refine .inr ⟨g, cap, cur, rfl, hb, ?_, r⟩
    rw [ho.block g (Array.getElem?_eq_some_iff.1 hg).1 (hn g rfl), hg]
/-- The blocks of S bear none of these kinds. -/
def Typed (w : World) (S : Nat → Prop) (e : TypeId) : Prop := ∀ k, S k → ∀ cur z, w.heap[k]? ≠ some (.cells cur e z)
theorem own_typed {S : Nat → Prop} {w : World} {base : Nat} {e : TypeId} {size : Nat} {v : Value} {n : Nat} {xs : List Value} (h : w.ownsRow base e size v n xs) (ht : Typed w S e) : ∀ k, v.ownBlock = some k → ¬ S k := by
  intro k hk hS
  rcases h.2 with ⟨rfl, _⟩ | ⟨g, cap, cur, rfl, _, hg, _⟩
  · simp [Value.ownBlock] at hk
  · simp only [Value.ownBlock, Option.some.injEq] at hk
    subst hk
    exact ht g hS _ _ hg
theorem AtomIs.only {S : Nat → Prop} {w w' : World} {base : Nat} {a : RA} {cs : List Value} (h : AtomIs w base a cs) (ho : Only S w w') (ht : Typed w S 130) : AtomIs w' base a cs := by
  obtain ⟨tv, hc, hl⟩ := h
  exact ⟨tv, hc, own_only hl ho (own_typed hl ht)⟩
theorem AtomRow.only {S : Nat → Prop} {w w' : World} {base : Nat} {v : Value} {b : List RA} (h : AtomRow w base v b) (ho : Only S w w') (ht : Typed w S 130) (ha : Typed w S 69) : AtomRow w' base v b := by
  obtain ⟨rows, hr, hl, hi⟩ := h
  exact ⟨rows, own_only hr ho (own_typed hr ha), hl, fun i a cs h1 h2 => (hi i a cs h1 h2).only ho ht⟩
theorem ClauseCs.only {S : Nat → Prop} {w w' : World} {base : Nat} {c : RC} {cs : List Value} (h : ClauseCs w base c cs) (ho : Only S w w') (ht : Typed w S 130) (ha : Typed w S 69) : ClauseCs w' base c cs := by
  obtain ⟨hc, bv, e, h1, h2⟩ := h
  exact ⟨hc, bv, e, h1.only ho ht, h2.only ho ht ha⟩
theorem ClRow.only {S : Nat → Prop} {w w' : World} {base : Nat} {v : Value} {l : List RC} (h : ClRow w base v l) (ho : Only S w w') (ht : Typed w S 130) (ha : Typed w S 69) (hn : ∀ k, v.ownBlock = some k → ¬ S k) : ClRow w' base v l := by
  obtain ⟨rows, hr, hl, hi⟩ := h
  exact ⟨rows, own_only hr ho hn, hl, fun i c cs h1 h2 => (hi i c cs h1 h2).only ho ht ha⟩

section
variable {P : Program} (w : World)
/-- Where an append's row lies: where it lay, or behind all that was there. -/
theorem append_where (t ty e : TypeId) (i : TypeInfo) (z : Value) (base bytes : Nat) (ht : P.underlying t = some (.slice e)) (hi : P.info? e = some i) (hz : i.zero = some z) (hby : i.bytes = bytes)
    (v : Value) (n : Nat) (xs : List Value) (hown : w.ownsRow base e i.size v n xs) (a : Addr) (m c : Nat) (news : List Value) (hm : 0 < m) (hl : news.length = m * i.size) (hnews : ∀ j u, news[j]? = some u → w.cell? (a.add j) = some u) (h1 : ∀ u ∈ news, u.oneCell' = true)
    (h63 : n + m ≤ maxLen) (hbytes : (n + m) * bytes ≤ 140737488355328) (v' : Value) (w' : World) (hr : (Builtin.append_ #[t, t] ty #[v, .slice (some a) m c]).run P w = .ok v' w') : v'.ownBlock = v.ownBlock ∨ v'.ownBlock = some w.heap.size := by
  subst hby
  have h64 := h63
  unfold maxLen at h64
  rcases hown.2 with ⟨rfl, rfl⟩ | ⟨g, cap, cur, rfl, _, hg, _, _, hcs, _⟩
  · rw [run_append_nil (P := P) w t ty e i z ht hi hz a m c news hl hnews hm (by omega) (by rw [Nat.zero_add] at hbytes; omega)] at hr
    injection hr with h2
    rw [← h2]
    exact .inr rfl
  · by_cases hroom : n + m ≤ cap
    · rw [run_append_room (P := P) w t ty e i ht hi g n cap cur hg a m c news hl hnews h1 hroom (by rw [hl, hcs, ← Nat.add_mul]; exact Nat.mul_le_mul_right _ hroom)] at hr
      injection hr with h2
      rw [← h2]
      exact .inl rfl
    · rw [run_append_grow (P := P) w t ty e i z ht hi hz ⟨g, 0, none⟩ n cap xs hown.1 (hown.cells (g := g) rfl) a m c news hl hnews (by omega) (by omega) (growslice_fits (by omega) hbytes)] at hr
      injection hr with h2
      rw [← h2]
      exact .inr rfl
/-- One append, its row's place told. -/
theorem wp_append_at {o : Oper} {a : Act} {K : Act → World → Prop} {Q : Exit → Act → World → Prop} (s x : Operand) (t : TypeId) (hop : o.op = .call { callee := .builtin .append, args := #[s, x], argTypes := #[t, t] })
    (base : Nat) (e : TypeId) (i : TypeInfo) (z : Value) (size bytes : Nat) (ht : P.underlying t = some (.slice e)) (hi : P.info? e = some i) (hz : i.zero = some z) (hsize : i.size = size) (hby : i.bytes = bytes) (hzs : z.cells.size = size) (hsz : 0 < size)
    (v : Value) (n : Nat) (xs : List Value) (hs : a.eval s = v) (hown : w.ownsRow base e size v n xs) (ad : Addr) (m c : Nat) (news : List Value) (hx : a.eval x = .slice (some ad) m c) (hm : 0 < m) (hl : news.length = m * size) (hnews : ∀ j u, news[j]? = some u → w.cell? (ad.add j) = some u) (h1 : ∀ u ∈ news, u.oneCell' = true)
    (h63 : n + m ≤ maxLen) (hbytes : (n + m) * bytes ≤ 140737488355328) (hbase : base ≤ w.heap.size)
    (hK : ∀ g cap w', w'.ownsRow base e size (.slice (some ⟨g, 0, none⟩) (n + m) cap) (n + m) (xs ++ news) → w.grownBy w' v.ownBlock → (some g = v.ownBlock ∨ g = w.heap.size) → K (a.put o.dst (.slice (some ⟨g, 0, none⟩) (n + m) cap)) w') : o.wp P a w K Q := by
  obtain ⟨v', w', hr, h2, h3, _⟩ := run_append_own (P := P) w base t o.type e i z size bytes ht hi hz hsize hby hzs hsz v n xs hown ad m c news hl hnews h1 h63 hbytes hbase
  subst hsize
  have hwh := append_where (P := P) w t o.type e i z base bytes ht hi hz hby v n xs hown ad m c news hm hl hnews h1 h63 hbytes v' w' hr
  unfold Oper.wp execOp
  simp only [hop, resolve, invoke, builtin, Sem.run_bind, Sem.run_pure, Result.andThen_ok, List.map_toArray, List.map_cons, List.map_nil, hs, hx, hr]
  rcases h2.2 with ⟨_, hn⟩ | ⟨g, cap, cur, rfl, _⟩
  · omega
  · exact hK g cap w' h2 h3 (by
      rcases hwh with h | h
      · exact .inl h
      · exact .inr (by simpa [Value.ownBlock] using h))
theorem step_append_at {ops : Array Oper} {o : Oper} {a : Act} {K : Act → World → Prop} {Q : Exit → Act → World → Prop} {E : Prop}
    (hgd : o.guard = none) (s x : Operand) (t : TypeId) (hop : o.op = .call { callee := .builtin .append, args := #[s, x], argTypes := #[t, t] })
    (base : Nat) (e : TypeId) (i : TypeInfo) (z : Value) (size bytes : Nat) (ht : P.underlying t = some (.slice e)) (hi : P.info? e = some i) (hz : i.zero = some z) (hsize : i.size = size) (hby : i.bytes = bytes) (hzs : z.cells.size = size) (hsz : 0 < size)
    (v : Value) (n : Nat) (xs : List Value) (hs : a.eval s = v) (hown : w.ownsRow base e size v n xs) (ad : Addr) (m c : Nat) (news : List Value) (hx : a.eval x = .slice (some ad) m c) (hm : 0 < m) (hl : news.length = m * size) (hnews : ∀ j u, news[j]? = some u → w.cell? (ad.add j) = some u) (h1 : ∀ u ∈ news, u.oneCell' = true)
    (h63 : n + m ≤ maxLen) (hbytes : (n + m) * bytes ≤ 140737488355328) (hbase : base ≤ w.heap.size)
    (hK : ∀ g cap w', w'.ownsRow base e size (.slice (some ⟨g, 0, none⟩) (n + m) cap) (n + m) (xs ++ news) → w.grownBy w' v.ownBlock → (some g = v.ownBlock ∨ g = w.heap.size) → K (a.put o.dst (.slice (some ⟨g, 0, none⟩) (n + m) cap)) w') :
    if Region.wanted o (yielded ops a.tmps) = true then Oper.wp P o a w K Q else E := by
  have hw : Region.wanted o (yielded ops a.tmps) = true := by simp [Region.wanted, hgd]
  rw [if_pos hw]
  exact wp_append_at w s x t hop base e i z size bytes ht hi hz hsize hby hzs hsz v n xs hs hown ad m c news hx hm hl hnews h1 h63 hbytes hbase hK
theorem wpList_append_at {ops : Array Oper} {rest : List Oper} {o : Oper} {a : Act} {Q : Exit → Act → World → Prop} (hgd : o.guard = none) (s x : Operand) (t : TypeId) (hop : o.op = .call { callee := .builtin .append, args := #[s, x], argTypes := #[t, t] })
    (base : Nat) (e : TypeId) (i : TypeInfo) (z : Value) (size bytes : Nat) (ht : P.underlying t = some (.slice e)) (hi : P.info? e = some i) (hz : i.zero = some z) (hsize : i.size = size) (hby : i.bytes = bytes) (hzs : z.cells.size = size) (hsz : 0 < size)
    (v : Value) (n : Nat) (xs : List Value) (hs : a.eval s = v) (hown : w.ownsRow base e size v n xs) (ad : Addr) (m c : Nat) (news : List Value) (hx : a.eval x = .slice (some ad) m c) (hm : 0 < m) (hl : news.length = m * size) (hnews : ∀ j u, news[j]? = some u → w.cell? (ad.add j) = some u) (h1 : ∀ u ∈ news, u.oneCell' = true)
    (h63 : n + m ≤ maxLen) (hbytes : (n + m) * bytes ≤ 140737488355328) (hbase : base ≤ w.heap.size)
    (h : ∀ g cap w', w'.ownsRow base e size (.slice (some ⟨g, 0, none⟩) (n + m) cap) (n + m) (xs ++ news) → w.grownBy w' v.ownBlock → (some g = v.ownBlock ∨ g = w.heap.size) → wpList P ops Q rest (a.put o.dst (.slice (some ⟨g, 0, none⟩) (n + m) cap)) w') : wpList P ops Q (o :: rest) a w :=
  wpList_plain hgd fun _ hK => wp_append_at w s x t hop base e i z size bytes ht hi hz hsize hby hzs hsz v n xs hs hown ad m c news hx hm hl hnews h1 h63 hbytes hbase fun g cap w' h2 h3 h4 => hK _ _ (h g cap w' h2 h3 h4)
end

end Go.Proofs.YtpbfiffgcgnidaaGreatDoor

namespace Go.Proofs.YtpbfiffgcgnidaaGreatDoor
open Go.RowKit Go.WideMaps Go.Maps
attribute [local go_sem] drewN_alloc drewN_setCell

def assertC (cs : List RC) (s : ByteArray) : (Nat × Nat) × List RC :=
  if (askE cs s).1 ≠ 0 then (askE cs s, cs)
  else match questT s with
    | none => ((0, 0), cs)
    | some a => match gvar a.ts with
      | some p => ((6, p), cs)
      | none => if 0 < factsN cs a.shown then ((7, 0), cs) else if 40 ≤ cs.length then ((1, 0), cs) else ((0, 0), cs ++ [⟨a, []⟩])
theorem assertC_bad {cs : List RC} {s : ByteArray} (h : (askE cs s).1 ≠ 0) : assertC cs s = (askE cs s, cs) := by unfold assertC; rw [if_pos h]
theorem assertC_of {cs : List RC} {s : ByteArray} {a : RA} (h : askE cs s = (0, 0)) (hq : questT s = some a) : assertC cs s = match gvar a.ts with
      | some p => ((6, p), cs)
      | none => if 0 < factsN cs a.shown then ((7, 0), cs) else if 40 ≤ cs.length then ((1, 0), cs) else ((0, 0), cs ++ [⟨a, []⟩]) := by
  unfold assertC
  rw [h, if_neg (by simp), hq]
/-- What a change of the document's base leaves. -/
def RChange (w : World) (base rb : Nat) (v : Value) (r : (Nat × Nat) × List RC) (e : Ending) (w' : World) : Prop :=
  e = .returned (.tuple #[.int .i64 (r.1.1 : Nat), .int .i64 (r.1.2 : Nat)]) ∧ (∃ v', Blk w' rb [v'] 76 ∧ ClRow w' base v' r.2 ∧ (v'.ownBlock = v.ownBlock ∨ ∀ k, v'.ownBlock = some k → w.heap.size ≤ k)) ∧ Only (fun k => k = rb ∨ v.ownBlock = some k) w w'
theorem change_none {w w' : World} {base rb : Nat} {v : Value} {cs : List RC} {r : (Nat × Nat) × List RC} {x y : Nat} (hV : Blk w rb [v] 76) (hL : ClRow w base v cs) (h : r = ((x, y), cs)) (hB : Below w.heap.size w w') : RChange w base rb v r (.returned (.tuple #[.int .i64 (x : Nat), .int .i64 (y : Nat)])) w' := by
  subst h
  exact ⟨rfl, ⟨v, hV.below hB, hL.below hB, .inl rfl⟩, Only.of_below hB⟩
theorem Only.refl {S : Nat → Prop} (w : World) : Only S w w := ⟨rfl, rfl, rfl, Nat.le_refl _, fun _ _ _ => rfl⟩
theorem typed_blk {w : World} {b : Nat} {cs : List Value} {t e : TypeId} (h : Blk w b cs t) (hne : t ≠ e) : Typed w (fun k => k = b) e := by
  rintro k rfl cur z hk
  unfold Blk at h
  rw [h] at hk
  simp at hk
  exact hne hk.2.1
theorem ClRow.set {w : World} {base : Nat} {v : Value} {l : List RC} (h : ClRow w base v l) {b : Nat} {bcs : List Value} {t : TypeId} (hb : Blk w b bcs t) (h1 : t ≠ 130) (h2 : t ≠ 69) (h3 : t ≠ 71) (o : Nat) (x : Value) : ClRow (w.setCell ⟨b, o, none⟩ x) base v l := by
  have h' := h
  obtain ⟨rows, hr, _, _⟩ := h'
  exact h.only (S := fun k => k = b) (Only.setCell (S := fun k => k = b) (Only.refl w) (p := ⟨b, o, none⟩) (.inl rfl) x) (typed_blk hb h1) (typed_blk hb h2) (fun k hk e => own_ne hr hb h3 (by rw [hk, e]))
theorem quest_small {s : ByteArray} {a : RA} (h : questT s = some a) : a.Small := by
  have hq := question_same s
  rw [h] at hq
  obtain ⟨_, ⟨r, hr⟩, _⟩ := hq
  have hw := atomR_wf s s.data.toList
  rw [hr] at hw
  exact ⟨hw.name, by simpa using hw.ts, fun t ht => hw.words t.s (List.mem_map_of_mem ht)⟩

set_option maxHeartbeats 1000000 in
set_option maxRecDepth 100000 in
theorem rassert_bad (w : World) (hE : EndsIs w) (hw : 0 < w.heap.size) (base rb : Nat) (v : Value) (cs : List RC) (hV : Blk w rb [v] 76) (hL : ClRow w base v cs) (hn : cs.length ≤ 40) (hb : ∀ c ∈ cs, c.body.length ≤ 4) (s : ByteArray) (hs : s.size ≤ maxLen) (hbad : (askE cs s).1 ≠ 0) :
    Calls Tryz.prog 17 #[.pointer (some ⟨rb, 0, none⟩), .string s] w fun e w' => RChange w base rb v (assertC cs s) e w' := by
  have hI : RBaseIs w base rb cs := ⟨v, hV, hL⟩
  obtain ⟨x, HXX⟩ : ∃ x, Hid ((askE cs s).1 = x) := ⟨_, rfl⟩
  obtain ⟨y, HYY⟩ : ∃ y, Hid ((askE cs s).2 = y) := ⟨_, rfl⟩
  have HC := hid (show assertC cs s = ((x, y), cs) by rw [assertC_bad hbad, ← HXX.out, ← HYY.out])
  rw [HXX.out] at hbad
  have hxb : (((x : Nat) : Int) != 0) = true := by rw [bne_iff_ne]; omega
  go_enter Tryz.func17, Tryz.ntmps17
  go_wp2_with (go_at_call 40; refine (asked_c _ hE hw base rb cs hI hn hb s hs).mono ?_; rintro e w1 ⟨c5, he, hF, hB1, hm⟩; clear hm; obtain ⟨nm, tq, tl, tcap, pl, bg, ng, rfl⟩ := hF; rw [HXX.out, HYY.out] at he; subst he)
  go_ret2
  exact change_none hV hL HC.out (hB1.alloc hB1.size _)

set_option maxHeartbeats 4000000 in
set_option maxRecDepth 100000 in
theorem rassert_stay (w : World) (hE : EndsIs w) (hw : 0 < w.heap.size) (base rb : Nat) (v : Value) (cs : List RC) (hV : Blk w rb [v] 76) (hL : ClRow w base v cs) (hn : cs.length ≤ 40) (hb : ∀ c ∈ cs, c.body.length ≤ 4) (hcs : ∀ c ∈ cs, c.Small) (s : ByteArray) (hs : s.size ≤ maxLen) (hok : askE cs s = (0, 0)) (a : RA) (hq : questT s = some a) (hst : gvar a.ts ≠ none ∨ 0 < factsN cs a.shown ∨ 40 ≤ cs.length) :
    Calls Tryz.prog 17 #[.pointer (some ⟨rb, 0, none⟩), .string s] w fun e w' => RChange w base rb v (assertC cs s) e w' := by
  have hI : RBaseIs w base rb cs := ⟨v, hV, hL⟩
  have hsm := quest_small hq
  have HC0 := hid (assertC_of hok hq)
  have HE := hid hok
  have HQ := hid hq
  obtain ⟨fn, HFN⟩ : ∃ fn, Hid (factsN cs a.shown = fn) := ⟨_, rfl⟩
  rw [HFN.out] at hst HC0
  clear hok hq
  cases hg : gvar a.ts with
  | some p =>
    have HG := hid hg
    have HC := hid (show assertC cs s = ((6, p), cs) by rw [HC0.out, hg])
    clear hg hst HC0
    go_enter Tryz.func17, Tryz.ntmps17
    go_wp2_with (first
      | (go_at_call 40; refine (asked_c _ hE hw base rb cs hI hn hb s hs).mono ?_; rintro e w1 ⟨c5, he, hF, hB1, hm⟩; clear hF; rw [HE.out] at he hm; obtain ⟨a', hq', tv, rfl, hTm⟩ := hm rfl; rw [HQ.out] at hq'; obtain rfl := Option.some.inj hq'; clear hq'; obtain ⟨tq, tcap, rfl⟩ := own_form hTm; subst he; have hBa := below_alloc w1 (.cells #[.string a.w, .slice tq a.ts.length tcap, .int .i64 (a.pl : Nat), .int .i64 (a.bang : Nat), .bool a.neg] 69); have hA1 := Blk.new w1 [.string a.w, .slice tq a.ts.length tcap, .int .i64 (a.pl : Nat), .int .i64 (a.bang : Nat), .bool a.neg] 69; have hT1 := own_below hTm hBa; have hz1 := hB1.size; have hza := hBa.size; have hI1 := (RBaseIs.below hI hB1).below hBa; have hcw1 := hA1.lt)
      | (go_at_call 41; refine (ground_c _ w.heap.size a tq tcap a.neg (by exact hT1) (by have := hsm.few; omega)).mono ?_; rintro e w2 ⟨he, hB2⟩; rw [HG.out] at he; simp only [] at he; subst he; have hA2 := hA1.below hB2; have hT2 := own_below hT1 hB2; have hI2 := hI1.below hB2; have hz2 := hB2.size; obtain ⟨a0, a1, a2, a3, a4⟩ := hA2.c5; have hcw2 := hA2.lt)
      | (go_at_call 43; refine (shownA_c _ w.heap.size a tq tcap (by exact hT2) hsm).mono ?_; rintro e w3 ⟨rfl, hB3⟩; have hI3 := hI2.below hB3; have hA3 := hA2.below hB3; have hT3 := own_below hT2 hB3; have hz3 := hB3.size)
      | (go_at_call 42; refine (facts_c _ base rb cs (by exact hI3) hcs hn a.shown (by have := a.shown_len hsm; omega)).mono ?_; rintro e w4 ⟨he, hB4⟩; rw [HFN.out] at he; subst he; have hI4 := hI3.below hB4; have hA4 := hA3.below hB4; have hT4 := own_below hT3 hB4; have hz4 := hB4.size))
    have hBw : Below w.heap.size w w4 := (((hB1.trans (hBa.mono hz1)).trans (hB2.mono (by omega))).trans (hB3.mono (by omega))).trans (hB4.mono (by omega))
    go_ret2
    exact change_none hV hL HC.out hBw
  | none =>
    have HG := hid hg
    by_cases hf : 0 < fn
    · have HC := hid (show assertC cs s = ((7, 0), cs) by rw [HC0.out, hg]; simp only []; rw [if_pos hf])
      have hfi : (0 : Int) < (fn : Int) := by omega
      clear hg hst HC0
      go_enter Tryz.func17, Tryz.ntmps17
      go_wp2_with (first
        | (go_at_call 40; refine (asked_c _ hE hw base rb cs hI hn hb s hs).mono ?_; rintro e w1 ⟨c5, he, hF, hB1, hm⟩; clear hF; rw [HE.out] at he hm; obtain ⟨a', hq', tv, rfl, hTm⟩ := hm rfl; rw [HQ.out] at hq'; obtain rfl := Option.some.inj hq'; clear hq'; obtain ⟨tq, tcap, rfl⟩ := own_form hTm; subst he; have hBa := below_alloc w1 (.cells #[.string a.w, .slice tq a.ts.length tcap, .int .i64 (a.pl : Nat), .int .i64 (a.bang : Nat), .bool a.neg] 69); have hA1 := Blk.new w1 [.string a.w, .slice tq a.ts.length tcap, .int .i64 (a.pl : Nat), .int .i64 (a.bang : Nat), .bool a.neg] 69; have hT1 := own_below hTm hBa; have hz1 := hB1.size; have hza := hBa.size; have hI1 := (RBaseIs.below hI hB1).below hBa; have hcw1 := hA1.lt)
        | (go_at_call 41; refine (ground_c _ w.heap.size a tq tcap a.neg (by exact hT1) (by have := hsm.few; omega)).mono ?_; rintro e w2 ⟨he, hB2⟩; rw [HG.out] at he; simp only [] at he; subst he; have hA2 := hA1.below hB2; have hT2 := own_below hT1 hB2; have hI2 := hI1.below hB2; have hz2 := hB2.size; obtain ⟨a0, a1, a2, a3, a4⟩ := hA2.c5; have hcw2 := hA2.lt)
        | (go_at_call 43; refine (shownA_c _ w.heap.size a tq tcap (by exact hT2) hsm).mono ?_; rintro e w3 ⟨rfl, hB3⟩; have hI3 := hI2.below hB3; have hA3 := hA2.below hB3; have hT3 := own_below hT2 hB3; have hz3 := hB3.size)
        | (go_at_call 42; refine (facts_c _ base rb cs (by exact hI3) hcs hn a.shown (by have := a.shown_len hsm; omega)).mono ?_; rintro e w4 ⟨he, hB4⟩; rw [HFN.out] at he; subst he; have hI4 := hI3.below hB4; have hA4 := hA3.below hB4; have hT4 := own_below hT3 hB4; have hz4 := hB4.size))
      have hBw : Below w.heap.size w w4 := (((hB1.trans (hBa.mono hz1)).trans (hB2.mono (by omega))).trans (hB3.mono (by omega))).trans (hB4.mono (by omega))
      go_ret2
      exact change_none hV hL HC.out hBw
    · have hl40 : 40 ≤ cs.length := by
        rcases hst with h | h | h
        · exact absurd hg h
        · exact absurd h hf
        · exact h
      have HC := hid (show assertC cs s = ((1, 0), cs) by rw [HC0.out, hg]; simp only []; rw [if_neg hf, if_pos hl40])
      have hfi : ¬ (0 : Int) < (fn : Int) := by omega
      have hl40i : (40 : Int) ≤ (cs.length : Int) := by omega
      clear hg hst HC0
      go_enter Tryz.func17, Tryz.ntmps17
      go_wp2_with (first
        | (go_at_call 40; refine (asked_c _ hE hw base rb cs hI hn hb s hs).mono ?_; rintro e w1 ⟨c5, he, hF, hB1, hm⟩; clear hF; rw [HE.out] at he hm; obtain ⟨a', hq', tv, rfl, hTm⟩ := hm rfl; rw [HQ.out] at hq'; obtain rfl := Option.some.inj hq'; clear hq'; obtain ⟨tq, tcap, rfl⟩ := own_form hTm; subst he; have hBa := below_alloc w1 (.cells #[.string a.w, .slice tq a.ts.length tcap, .int .i64 (a.pl : Nat), .int .i64 (a.bang : Nat), .bool a.neg] 69); have hA1 := Blk.new w1 [.string a.w, .slice tq a.ts.length tcap, .int .i64 (a.pl : Nat), .int .i64 (a.bang : Nat), .bool a.neg] 69; have hT1 := own_below hTm hBa; have hz1 := hB1.size; have hza := hBa.size; have hI1 := (RBaseIs.below hI hB1).below hBa; have hcw1 := hA1.lt)
        | (go_at_call 41; refine (ground_c _ w.heap.size a tq tcap a.neg (by exact hT1) (by have := hsm.few; omega)).mono ?_; rintro e w2 ⟨he, hB2⟩; rw [HG.out] at he; simp only [] at he; subst he; have hA2 := hA1.below hB2; have hT2 := own_below hT1 hB2; have hI2 := hI1.below hB2; have hz2 := hB2.size; obtain ⟨a0, a1, a2, a3, a4⟩ := hA2.c5; have hcw2 := hA2.lt)
        | (go_at_call 43; refine (shownA_c _ w.heap.size a tq tcap (by exact hT2) hsm).mono ?_; rintro e w3 ⟨rfl, hB3⟩; have hI3 := hI2.below hB3; have hA3 := hA2.below hB3; have hT3 := own_below hT2 hB3; have hz3 := hB3.size)
        | (go_at_call 42; refine (facts_c _ base rb cs (by exact hI3) hcs hn a.shown (by have := a.shown_len hsm; omega)).mono ?_; rintro e w4 ⟨he, hB4⟩; rw [HFN.out] at he; subst he; have hI4 := hI3.below hB4; have hA4 := hA3.below hB4; have hT4 := own_below hT3 hB4; have hz4 := hB4.size; obtain ⟨v4, hV4, hL4⟩ := hI4; obtain ⟨ao, cap, rfl⟩ := hL4.form; have v40 := hV4.cell 0; simp at v40))
      have hBw : Below w.heap.size w w4 := (((hB1.trans (hBa.mono hz1)).trans (hB2.mono (by omega))).trans (hB3.mono (by omega))).trans (hB4.mono (by omega))
      go_ret2
      exact change_none hV hL HC.out hBw

end Go.Proofs.YtpbfiffgcgnidaaGreatDoor

namespace Go.Proofs.YtpbfiffgcgnidaaGreatDoor
open Go.RowKit Go.WideMaps Go.Maps
attribute [local go_sem] drewN_alloc drewN_setCell

theorem ask_ok {cs : List RC} {s : ByteArray} (h : (askE cs s).1 = 0) : ∃ a, questT s = some a ∧ askE cs s = (0, 0) := by
  unfold askE at h ⊢
  split at h
  · simp at h
  · rename_i hl
    rw [if_neg hl]
    cases hq : questT s with
    | none => rw [hq] at h; simp at h
    | some a =>
      refine ⟨a, rfl, ?_⟩
      rw [hq] at h
      simp only [] at h ⊢
      split at h
      · simp at h
      · rename_i hc
        rw [if_neg hc]

set_option maxHeartbeats 8000000 in
set_option maxRecDepth 100000 in
theorem rassert_more (w : World) (hE : EndsIs w) (hw : 0 < w.heap.size) (base rb : Nat) (v : Value) (cs : List RC) (hbw : base ≤ w.heap.size) (hV : Blk w rb [v] 76) (hL : ClRow w base v cs) (hb : ∀ c ∈ cs, c.body.length ≤ 4) (hcs : ∀ c ∈ cs, c.Small) (s : ByteArray) (hs : s.size ≤ maxLen) (hok : askE cs s = (0, 0)) (a : RA) (hq : questT s = some a) (hg : gvar a.ts = none) (hf : ¬ 0 < factsN cs a.shown) (hl40 : cs.length < 40) :
    Calls Tryz.prog 17 #[.pointer (some ⟨rb, 0, none⟩), .string s] w fun e w' => RChange w base rb v (assertC cs s) e w' := by
  obtain ⟨i1, hi1, hy0, hy1, hy2⟩ := info_parts infoRClause
  have hn : cs.length ≤ 40 := by omega
  obtain ⟨ao, cap, rfl⟩ := hL.form
  have hI : RBaseIs w base rb cs := ⟨_, hV, hL⟩
  have hsm := quest_small hq
  have HC := hid (show assertC cs s = ((0, 0), cs ++ [⟨a, []⟩]) by rw [assertC_of hok hq, hg]; simp only []; rw [if_neg hf, if_neg (by omega)])
  have HE := hid hok
  have HQ := hid hq
  have HG := hid hg
  obtain ⟨fn, HFN⟩ : ∃ fn, Hid (factsN cs a.shown = fn) := ⟨_, rfl⟩
  rw [HFN.out] at hf
  have hfi : ¬ (0 : Int) < (fn : Int) := by omega
  have hl40i : ¬ (40 : Int) ≤ (cs.length : Int) := by omega
  clear hok hq hg
  go_enter Tryz.func17, Tryz.ntmps17
  go_wp2_with (first
    | (go_at_call 40; refine (asked_c _ hE hw base rb cs hI hn hb s hs).mono ?_; rintro e w1 ⟨c5, he, hF, hB1, hm⟩; clear hF; rw [HE.out] at he hm; obtain ⟨a', hq', tv, rfl, hTm⟩ := hm rfl; rw [HQ.out] at hq'; obtain rfl := Option.some.inj hq'; clear hq'; obtain ⟨tq, tcap, rfl⟩ := own_form hTm; subst he; have hBa := below_alloc w1 (.cells #[.string a.w, .slice tq a.ts.length tcap, .int .i64 (a.pl : Nat), .int .i64 (a.bang : Nat), .bool a.neg] 69); have hA1 := Blk.new w1 [.string a.w, .slice tq a.ts.length tcap, .int .i64 (a.pl : Nat), .int .i64 (a.bang : Nat), .bool a.neg] 69; have hT1 := own_below hTm hBa; have hz1 := hB1.size; have hza := hBa.size; have hV1 := (hV.below hB1).below hBa; have hL1 := (hL.below hB1).below hBa; have hI1 : RBaseIs _ base rb cs := ⟨_, hV1, hL1⟩; have hcw1 := hA1.lt)
    | (go_at_call 41; refine (ground_c _ w.heap.size a tq tcap a.neg (by exact hT1) (by have := hsm.few; omega)).mono ?_; rintro e w2 ⟨he, hB2⟩; rw [HG.out] at he; simp only [] at he; subst he; have hA2 := hA1.below hB2; have hT2 := own_below hT1 hB2; have hV2 := hV1.below hB2; have hL2 := hL1.below hB2; have hI2 : RBaseIs _ base rb cs := ⟨_, hV2, hL2⟩; have hz2 := hB2.size; obtain ⟨a0, a1, a2, a3, a4⟩ := hA2.c5; have hcw2 := hA2.lt)
    | (go_at_call 43; refine (shownA_c _ w.heap.size a tq tcap (by exact hT2) hsm).mono ?_; rintro e w3 ⟨rfl, hB3⟩; have hV3 := hV2.below hB3; have hL3 := hL2.below hB3; have hI3 : RBaseIs _ base rb cs := ⟨_, hV3, hL3⟩; have hA3 := hA2.below hB3; have hT3 := own_below hT2 hB3; have hz3 := hB3.size)
    | (go_at_call 42; refine (facts_c _ base rb cs (by exact hI3) hcs hn a.shown (by have := a.shown_len hsm; omega)).mono ?_; rintro e w4 ⟨he, hB4⟩; rw [HFN.out] at he; subst he; have hV4 := hV3.below hB4; have hL4 := hL3.below hB4; have v40 := hV4.cell 0; have fV4 := hV4.frozen; have hlv4 := hV4.lt; simp at v40; have hA4 := hA3.below hB4; have hT4 := own_below hT3 hB4; have hz4 := hB4.size; obtain ⟨a0, a1, a2, a3, a4⟩ := hA4.c5; have hcw4 := hA4.lt))
  have hBw : Below w.heap.size w w4 := (((hB1.trans (hBa.mono hz1)).trans (hB2.mono (by omega))).trans (hB3.mono (by omega))).trans (hB4.mono (by omega))
  have hzz := hBw.size
  have hAt : AtomIs w4 base a [.string a.w, .slice tq a.ts.length tcap, .int .i64 (a.pl : Nat), .int .i64 (a.bang : Nat), .bool a.neg] := ⟨_, rfl, own_mono hT4 hbw⟩
  clear hA1 hA2 hA3 hT1 hT2 hT3 hV1 hV2 hV3 hL1 hL2 hL3 hI1 hI2 hI3 hB1 hBa hB2 hB3 hB4 hTm
  obtain ⟨rows, ho, hl, hr⟩ := hL4
  have hown : ∀ o2, ((w4.alloc o2).drew).ownsRow base 71 6 (.slice ao cs.length cap) cs.length rows.flatten := fun o2 => ho.alloc o2
  have hnews : ∀ j u, [Value.string a.w, .slice tq a.ts.length tcap, .int .i64 (a.pl : Nat), .int .i64 (a.bang : Nat), .bool a.neg, .slice none 0 0][j]? = some u → ((w4.alloc (.cells #[Value.string a.w, .slice tq a.ts.length tcap, .int .i64 (a.pl : Nat), .int .i64 (a.bang : Nat), .bool a.neg, .slice none 0 0] 71)).drew).cell? ((⟨w4.heap.size, 0, none⟩ : Addr).add j) = some u := fun j u h => new_cells w4 [Value.string a.w, .slice tq a.ts.length tcap, .int .i64 (a.pl : Nat), .int .i64 (a.bang : Nat), .bool a.neg, .slice none 0 0] 71 j u h
  have hone : ∀ u ∈ [Value.string a.w, .slice tq a.ts.length tcap, .int .i64 (a.pl : Nat), .int .i64 (a.bang : Nat), .bool a.neg, .slice none 0 0], u.oneCell' = true := by
    intro u hu; simp at hu; rcases hu with rfl | rfl | rfl | rfl | rfl | rfl <;> rfl
  have hlm : cs.length + 1 ≤ maxLen := by unfold maxLen; omega
  have hlb : (cs.length + 1) * 88 ≤ 140737488355328 := by omega
  have hBB : ∀ o2, base ≤ ((w4.alloc o2).drew).heap.size := by intro o2; simp; omega
  have hne1 := own_ne ho hV4 (by decide)
  go_region_law (refine step_append_at _ rfl (.tmp 50) (.tmp 53) 60 rfl base 71 i1 _ 6 88 Tryz.underlying60 hi1 hy0 hy1 hy2 rfl (by decide) (.slice ao cs.length cap) cs.length rows.flatten (by simp [Act.eval]) (hown _) ⟨w4.heap.size, 0, none⟩ 1 1 [.string a.w, .slice tq a.ts.length tcap, .int .i64 (a.pl : Nat), .int .i64 (a.bang : Nat), .bool a.neg, .slice none 0 0] (by simp [Act.eval]) (by decide) rfl hnews hone hlm hlb (hBB _) ?_; intro g5 cap5 w5 ho5 hg5 hw5; have hV5 := (hV4.alloc _).drew.grown hg5 hne1; have d0 := hV5.cell 0; have fV5 := hV5.frozen; simp at d0)
  all_goals go_wp2_with fail
  all_goals go_ret2
  all_goals
    rw [HC.out]
    have h2 : Below w4.heap.size w4 (w4.alloc (.cells #[.string a.w, .slice tq a.ts.length tcap, .int .i64 (a.pl : Nat), .int .i64 (a.bang : Nat), .bool a.neg, .slice none 0 0] 71)).drew := (below_alloc w4 _).drew
    have hmore := ClRow.more (w := (w4.alloc (.cells #[.string a.w, .slice tq a.ts.length tcap, .int .i64 (a.pl : Nat), .int .i64 (a.bang : Nat), .bool a.neg, .slice none 0 0] 71)).drew) (w' := w5) (base := base) (l := cs) (c := ⟨a, []⟩) (fun i c cs h1 h3 => (hr i c cs h1 h3).below h2) hl (hown _) (ClauseCs.below (w := w4) ⟨[.string a.w, .slice tq a.ts.length tcap, .int .i64 (a.pl : Nat), .int .i64 (a.bang : Nat), .bool a.neg], .slice none 0 0, rfl, hAt, ⟨[], World.ownsRow_nil _ _ _ _, rfl, by simp⟩⟩ h2) ho5 hg5
    refine ⟨rfl, ⟨_, hV5.setCell 0 _, hmore.set hV5 (by decide) (by decide) (by decide) 0 _, ?_⟩, ?_⟩
    · rcases hw5 with h | h
      · exact .inl h
      · refine .inr (fun k hk => ?_)
        simp [Value.ownBlock] at hk
        simp at h
        omega
    · refine Only.setCell ?_ (.inl (.inl rfl)) _
      have h4 : Only (fun k => k = rb ∨ (Value.slice ao cs.length cap).ownBlock = some k) w (w4.alloc (.cells #[.string a.w, .slice tq a.ts.length tcap, .int .i64 (a.pl : Nat), .int .i64 (a.bang : Nat), .bool a.neg, .slice none 0 0] 71)).drew := Only.drew (Only.alloc (Only.of_below hBw) _)
      exact h4.trans (Only.of_grown (S := fun k => k = rb ∨ (Value.slice ao cs.length cap).ownBlock = some k) hg5 (fun k hk => .inr hk)) (fun k _ hk => hk)

theorem rassert_c (w : World) (hE : EndsIs w) (hw : 0 < w.heap.size) (base rb : Nat) (v : Value) (cs : List RC) (hbw : base ≤ w.heap.size) (hV : Blk w rb [v] 76) (hL : ClRow w base v cs) (hn : cs.length ≤ 40) (hb : ∀ c ∈ cs, c.body.length ≤ 4) (hcs : ∀ c ∈ cs, c.Small) (s : ByteArray) (hs : s.size ≤ maxLen) :
    Calls Tryz.prog 17 #[.pointer (some ⟨rb, 0, none⟩), .string s] w fun e w' => RChange w base rb v (assertC cs s) e w' := by
  by_cases hbad : (askE cs s).1 ≠ 0
  · exact rassert_bad w hE hw base rb v cs hV hL hn hb s hs hbad
  · obtain ⟨a, hq, hok⟩ := ask_ok (by simpa using hbad)
    by_cases hst : gvar a.ts ≠ none ∨ 0 < factsN cs a.shown ∨ 40 ≤ cs.length
    · exact rassert_stay w hE hw base rb v cs hV hL hn hb hcs s hs hok a hq hst
    · simp only [not_or, Decidable.not_not] at hst
      exact rassert_more w hE hw base rb v cs hbw hV hL hb hcs s hs hok a hq hst.1 hst.2.1 (by omega)

end Go.Proofs.YtpbfiffgcgnidaaGreatDoor
