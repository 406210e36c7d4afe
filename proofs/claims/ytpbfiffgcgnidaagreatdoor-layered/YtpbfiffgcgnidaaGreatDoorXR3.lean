/-
  OUR OWN. The document's answer: an atom out of pieces.
-/
import Derived.Test.YtpbfiffgcgnidaaGreatDoorXR1
import Derived.Deep.RegionHeld3
import Derived.Deep.CutRange
import Derived.Deep.CutBlock
namespace Go.Proofs.YtpbfiffgcgnidaaGreatDoor
open Go.RowKit Go.WideMaps Go.Maps
attribute [local go_sem] drewN_alloc drewN_setCell

def RT.w (t : RT) : ByteArray := bs t.s
def RT.cells (t : RT) : List Value := [.string t.w, .bool t.var, .int .i64 (t.pl : Nat)]
theorem infoTerm : (Tryz.prog.info? 130).map (fun i => (i.zero, i.size, i.bytes)) = some (some (.agg #[.string ⟨#[]⟩, .bool false, .int .i64 0]), 3, 32) := by kernel_rfl
/-- The pieces, as they lie. -/
def Pieces (w : World) (base : Nat) (ao : Option Addr) (cap : Nat) (ps : List Pc) : Prop := w.ownsRow base 189 3 (.slice ao ps.length cap) ps.length (ps.flatMap Pc.cells)
theorem piece_at {w : World} {base : Nat} {ao : Option Addr} {cap : Nat} {ps : List Pc} (h : Pieces w base ao cap ps) (i : Nat) (hi : i < ps.length) :
    ∃ g, ao = some ⟨g, 0, none⟩ ∧ g < w.heap.size ∧ w.cell? ⟨g, i * 3, none⟩ = some (.int .u8 ps[i].m) ∧ w.cell? ⟨g, i * 3 + 1, none⟩ = some (.string ps[i].w) ∧ w.cell? ⟨g, i * 3 + 2, none⟩ = some (.int .i64 (ps[i].pl : Nat)) := by
  have h' := h
  unfold Pieces at h'
  rw [flat_map] at h'
  obtain ⟨g, rfl, hb, hc⟩ := own_at h' (by intro r hr; simp at hr; obtain ⟨a, _, rfl⟩ := hr; rfl) (by simp) i hi
  have e : (ps.map Pc.cells).getD i [] = ps[i].cells := by simp [hi]
  rw [e] at hc
  exact ⟨g, rfl, (h'.lt g rfl).2, hc 0 (by decide), hc 1 (by decide), hc 2 (by decide)⟩
theorem Pieces.below {w w' : World} {base : Nat} {ao : Option Addr} {cap : Nat} {ps : List Pc} (h : Pieces w base ao cap ps) (hb : Below w.heap.size w w') : Pieces w' base ao cap ps := own_below h hb
def RA.w (a : RA) : ByteArray := bs a.name
/-- An atom in its five cells. -/
def AtomIs (w : World) (base : Nat) (a : RA) (cs : List Value) : Prop := ∃ tv, cs = [.string a.w, tv, .int .i64 (a.pl : Nat), .int .i64 (a.bang : Nat), .bool a.neg] ∧ w.ownsRow base 130 3 tv a.ts.length (a.ts.flatMap RT.cells)
def zRA : List Value := [.string ⟨#[]⟩, .slice none 0 0, .int .i64 0, .int .i64 0, .bool false]
/-- Five cells of an atom's kinds. -/
def Five (cs : List Value) : Prop := ∃ (nm : ByteArray) (tq : Option Addr) (tl tcap : Nat) (pl bg : Int) (ng : Bool), cs = [.string nm, .slice tq tl tcap, .int .i64 pl, .int .i64 bg, .bool ng]
theorem AtomIs.five {w : World} {base : Nat} {a : RA} {cs : List Value} (h : AtomIs w base a cs) : Five cs := by
  obtain ⟨tv, rfl, ho⟩ := h
  obtain ⟨tq, tcap, rfl⟩ := own_form ho
  exact ⟨_, _, _, _, _, _, _, rfl⟩
def AtomPost (w : World) (ps : List Pc) (i : Nat) (e : Ending) (w' : World) : Prop :=
  ∃ (cs : List Value) (nx : Int) (ok : Bool), e = .returned (.tuple #[.agg cs.toArray, .int .i64 nx, .bool ok]) ∧ Five cs ∧ Below w.heap.size w w' ∧
    match atomP (ps.drop i) with
    | none => ok = false
    | some (a, r) => ok = true ∧ AtomIs w' w.heap.size a cs ∧ ∃ k : Nat, nx = (k : Nat) ∧ r = ps.drop k ∧ k ≤ ps.length

theorem mark_ne (p : Pc) (m : UInt8) (mi : Int) (hi : (m.toNat : Int) = mi) (h : (p.mark == m) = false) : (p.m == mi) = false := by
  rw [beq_eq_false_iff_ne] at h ⊢
  intro e
  exact h (UInt8.toNat_inj.1 (by unfold Pc.m at e; omega))
theorem mark_eq (p : Pc) (m : UInt8) (mi : Int) (hi : (m.toNat : Int) = mi) (h : (p.mark == m) = true) : (p.m == mi) = true := by
  rw [beq_iff_eq] at h ⊢
  unfold Pc.m
  rw [h, hi]
theorem atomP_plain (p : Pc) (r : List Pc) (h : (p.mark == 33) = false) : atomP (p :: r) = coreP false 0 (p :: r) := by rw [atomP, if_neg (by rw [h]; simp)]
theorem coreP_no (neg : Bool) (bang : Nat) (p : Pc) (r : List Pc) (h : (p.mark == 110) = false) : coreP neg bang (p :: r) = none := by cases r <;> simp [coreP, h]
theorem coreP_end (neg : Bool) (bang : Nat) (p : Pc) (h : (p.mark == 110) = true) : coreP neg bang [p] = some (⟨p.s, [], p.pl, bang, neg⟩, []) := by rw [coreP, if_pos h]
theorem coreP_bare (neg : Bool) (bang : Nat) (p q : Pc) (r : List Pc) (h : (p.mark == 110) = true) (h2 : (q.mark == 40) = false) : coreP neg bang (p :: q :: r) = some (⟨p.s, [], p.pl, bang, neg⟩, q :: r) := by rw [coreP, if_pos h]; simp [h2]
theorem coreP_open (neg : Bool) (bang : Nat) (p q : Pc) (r : List Pc) (h : (p.mark == 110) = true) (h2 : (q.mark == 40) = true) : coreP neg bang (p :: q :: r) = (termsP [] r).bind (closeP fun ts r'' => some (⟨p.s, ts, p.pl, bang, neg⟩, r'')) := by
  rw [coreP, if_pos h]
  simp only [h2, if_true]
theorem atom_fail {w w' : World} {ps : List Pc} {i : Nat} {cs : List Value} {nx : Int} (hB : Below w.heap.size w w') (h : atomP (ps.drop i) = none) (hF : Five cs := by exact ⟨_, _, _, _, _, _, _, rfl⟩) : AtomPost w ps i (.returned (.tuple #[.agg cs.toArray, .int .i64 nx, .bool false])) w' := ⟨cs, nx, false, rfl, hF, hB, by rw [h]⟩
theorem atom_good {w w' : World} {ps : List Pc} {i k : Nat} {cs : List Value} {a : RA} (hB : Below w.heap.size w w') (h : atomP (ps.drop i) = some (a, ps.drop k)) (hk : k ≤ ps.length) (hA : AtomIs w' w.heap.size a cs) : AtomPost w ps i (.returned (.tuple #[.agg cs.toArray, .int .i64 (k : Nat), .bool true])) w' := ⟨cs, _, true, rfl, hA.five, hB, by rw [h]; exact ⟨rfl, hA, k, rfl, rfl, hk⟩⟩

/-- Where the terms' loop stands. -/
def loopR (ps : List Pc) (acc : List RT) (q : Nat) : Option (List RT × List Pc) :=
  if (acc.isEmpty || front 44 (fun _ => some true) (fun _ => some false) (ps.drop q) == some true) = true then termsP acc (ps.drop (q + 1)) else some (acc, ps.drop q)
set_option maxHeartbeats 4000000 in
set_option maxRecDepth 100000 in
theorem atom_short (w : World) (base : Nat) (ao : Option Addr) (cap : Nat) (ps : List Pc) (hP : Pieces w base ao cap ps) (hn : ps.length ≤ 3000) (i : Nat) (hi : i ≤ ps.length) (hb : ∀ p r, ps.drop i = p :: r → (p.mark == 33) = false) (hs : ∀ p q r, ps.drop i = p :: q :: r → (p.mark == 110) = true → (q.mark == 40) = false) :
    Calls Tryz.prog 100 #[.slice ao ps.length cap, .int .i64 (i : Nat)] w fun e w' => AtomPost w ps i e w' := by
  by_cases hlt : i < ps.length
  · obtain ⟨g, rfl, hg, p0, p1, p2⟩ := piece_at hP i hlt
    have hg1 : g < w.heap.size + 1 := by omega
    have hdrop : ps.drop i = ps[i] :: ps.drop (i + 1) := List.drop_eq_getElem_cons hlt
    have hbp := hb _ _ hdrop
    have h33 := mark_ne _ 33 33 rfl hbp
    have HC := hid (show atomP (ps.drop i) = coreP false 0 (ps.drop i) by rw [hdrop, atomP_plain _ _ hbp])
    clear hb hdrop hbp
    by_cases hjl : i < ps.length
    · obtain ⟨g', hgg, hg', n0, n1, n2⟩ := piece_at hP (i) hjl
      simp only [Option.some.injEq, Addr.mk.injEq, and_true] at hgg
      subst hgg
      have hdj : ps.drop (i) = ps[i] :: ps.drop (i + 1) := List.drop_eq_getElem_cons hjl
      cases h110 : (ps[i].mark == 110)
      · have HA := hid (show atomP (ps.drop i) = none by rw [HC.out, hdj, coreP_no _ _ _ _ h110])
        have h110' := mark_ne _ 110 110 rfl h110
        have h110n : (ps[i].m != 110) = true := by rw [bne, h110']; rfl
        have h110e : ¬ ps[i].m = 110 := by simpa using h110'
        clear hdj h110 HC hs
        go_enter Tryz.func100, Tryz.ntmps100
        go_wp2_with fail
        exact bodyPost_ret (v := .tuple #[.agg #[.string ⟨#[]⟩, .slice none 0 0, .int .i64 0, .int .i64 0, .bool false], .int .i64 (i : Nat), .bool false]) (by simp [results, Tryz.results100, go_sem]) rfl (atom_fail (cs := [.string ⟨#[]⟩, .slice none 0 0, .int .i64 0, .int .i64 0, .bool false]) (((Below.refl _ w).alloc (Nat.le_refl _) _).alloc (by simp) _) HA.out)
      · have h110' := mark_eq _ 110 110 rfl h110
        have h110e : ps[i].m = 110 := by simpa using h110'
        have h110n : (ps[i].m != 110) = false := by rw [bne, h110']; rfl
        by_cases hjl2 : i + 1 < ps.length
        · obtain ⟨g', hgg, hg', o0, o1, o2⟩ := piece_at hP (i + 1) hjl2
          simp only [Option.some.injEq, Addr.mk.injEq, and_true] at hgg
          subst hgg
          have hdj2 : ps.drop (i + 1) = ps[i + 1] :: ps.drop (i + 2) := List.drop_eq_getElem_cons hjl2
          have h40 := hs _ _ _ (by rw [hdj, hdj2]) h110
          have HA := hid (show atomP (ps.drop i) = some (⟨ps[i].s, [], ps[i].pl, 0, false⟩, ps.drop (i + 1)) by rw [HC.out, hdj, hdj2, coreP_bare _ _ _ _ _ h110 h40])
          have h40' := mark_ne _ 40 40 rfl h40
          have h40n : (ps[i + 1].m != 40) = true := by rw [bne, h40']; rfl
          have h40e : ¬ ps[i + 1].m = 40 := by simpa using h40'
          clear hdj hdj2 h110 HC h40 hs
          go_enter Tryz.func100, Tryz.ntmps100
          go_wp2_with fail
          exact bodyPost_ret (v := .tuple #[.agg #[.string ps[i].w, .slice none 0 0, .int .i64 (ps[i].pl : Nat), .int .i64 0, .bool false], .int .i64 (i + 1 : Nat), .bool true]) (by simp [results, Tryz.results100, go_sem]) rfl (atom_good (cs := [.string ps[i].w, .slice none 0 0, .int .i64 (ps[i].pl : Nat), .int .i64 0, .bool false]) (((Below.refl _ w).alloc (Nat.le_refl _) _).alloc (by simp) _) HA.out (by omega) ⟨_, rfl, World.ownsRow_nil _ _ _ _⟩)
        · have hde : ps.drop (i + 1) = [] := List.drop_eq_nil_of_le (by omega)
          have HA := hid (show atomP (ps.drop i) = some (⟨ps[i].s, [], ps[i].pl, 0, false⟩, ps.drop (i + 1)) by rw [HC.out, hdj, hde, coreP_end _ _ _ h110])
          clear hdj hde h110 HC hs
          go_enter Tryz.func100, Tryz.ntmps100
          go_wp2_with fail
          exact bodyPost_ret (v := .tuple #[.agg #[.string ps[i].w, .slice none 0 0, .int .i64 (ps[i].pl : Nat), .int .i64 0, .bool false], .int .i64 (i + 1 : Nat), .bool true]) (by simp [results, Tryz.results100, go_sem]) rfl (atom_good (cs := [.string ps[i].w, .slice none 0 0, .int .i64 (ps[i].pl : Nat), .int .i64 0, .bool false]) (((Below.refl _ w).alloc (Nat.le_refl _) _).alloc (by simp) _) HA.out (by omega) ⟨_, rfl, World.ownsRow_nil _ _ _ _⟩)
    · omega
  · have HA := hid (show atomP (ps.drop i) = none by rw [List.drop_eq_nil_of_le (by omega)]; rfl)
    clear hb hs
    go_enter Tryz.func100, Tryz.ntmps100
    go_wp2_with fail
    exact bodyPost_ret (v := .tuple #[.agg #[.string ⟨#[]⟩, .slice none 0 0, .int .i64 0, .int .i64 0, .bool false], .int .i64 (i : Nat), .bool false]) (by simp [results, Tryz.results100, go_sem]) rfl (atom_fail (cs := [.string ⟨#[]⟩, .slice none 0 0, .int .i64 0, .int .i64 0, .bool false]) (((Below.refl _ w).alloc (Nat.le_refl _) _).alloc (by simp) _) HA.out)

set_option maxHeartbeats 4000000 in
set_option maxRecDepth 100000 in
theorem atom_shortn (w : World) (base : Nat) (g cap : Nat) (ps : List Pc) (hP : Pieces w base (some ⟨g, 0, none⟩) cap ps) (hn : ps.length ≤ 3000) (i : Nat) (hlt : i < ps.length) (hb : (ps[i].mark == 33) = true) (hs : ∀ p q r, ps.drop (i + 1) = p :: q :: r → (p.mark == 110) = true → (q.mark == 40) = false) :
    Calls Tryz.prog 100 #[.slice (some ⟨g, 0, none⟩) ps.length cap, .int .i64 (i : Nat)] w fun e w' => AtomPost w ps i e w' := by
  obtain ⟨g', hgg, hg, p0, p1, p2⟩ := piece_at hP i hlt
  simp only [Option.some.injEq, Addr.mk.injEq, and_true] at hgg
  subst hgg
  have hg1 : g < w.heap.size + 1 := by omega
  have hdrop : ps.drop i = ps[i] :: ps.drop (i + 1) := List.drop_eq_getElem_cons hlt
  have h33 := mark_eq _ 33 33 rfl hb
  have HC := hid (show atomP (ps.drop i) = coreP true ps[i].pl (ps.drop (i + 1)) by rw [hdrop, atomP, if_pos hb])
  clear hb hdrop
  by_cases hjl : i + 1 < ps.length
  · obtain ⟨g', hgg, hg', n0, n1, n2⟩ := piece_at hP (i + 1) hjl
    simp only [Option.some.injEq, Addr.mk.injEq, and_true] at hgg
    subst hgg
    have hdj : ps.drop (i + 1) = ps[i + 1] :: ps.drop (i + 1 + 1) := List.drop_eq_getElem_cons hjl
    cases h110 : (ps[i + 1].mark == 110)
    · have HA := hid (show atomP (ps.drop i) = none by rw [HC.out, hdj, coreP_no _ _ _ _ h110])
      have h110' := mark_ne _ 110 110 rfl h110
      have h110n : (ps[i + 1].m != 110) = true := by rw [bne, h110']; rfl
      have h110e : ¬ ps[i + 1].m = 110 := by simpa using h110'
      clear hdj h110 HC hs
      go_enter Tryz.func100, Tryz.ntmps100
      go_wp2_with fail
      exact bodyPost_ret (v := .tuple #[.agg #[.string ⟨#[]⟩, .slice none 0 0, .int .i64 0, .int .i64 (ps[i].pl : Nat), .bool true], .int .i64 (i + 1 : Nat), .bool false]) (by simp [results, Tryz.results100, go_sem]) rfl (atom_fail (cs := [.string ⟨#[]⟩, .slice none 0 0, .int .i64 0, .int .i64 (ps[i].pl : Nat), .bool true]) (((Below.refl _ w).alloc (Nat.le_refl _) _).alloc (by simp) _) HA.out)
    · have h110' := mark_eq _ 110 110 rfl h110
      have h110e : ps[i + 1].m = 110 := by simpa using h110'
      have h110n : (ps[i + 1].m != 110) = false := by rw [bne, h110']; rfl
      by_cases hjl2 : i + 1 + 1 < ps.length
      · obtain ⟨g', hgg, hg', o0, o1, o2⟩ := piece_at hP (i + 1 + 1) hjl2
        simp only [Option.some.injEq, Addr.mk.injEq, and_true] at hgg
        subst hgg
        have hdj2 : ps.drop (i + 1 + 1) = ps[i + 1 + 1] :: ps.drop (i + 1 + 2) := List.drop_eq_getElem_cons hjl2
        have h40 := hs _ _ _ (by rw [hdj, hdj2]) h110
        have HA := hid (show atomP (ps.drop i) = some (⟨ps[i + 1].s, [], ps[i + 1].pl, (ps[i].pl : Nat), true⟩, ps.drop (i + 1 + 1)) by rw [HC.out, hdj, hdj2, coreP_bare _ _ _ _ _ h110 h40])
        have h40' := mark_ne _ 40 40 rfl h40
        have h40n : (ps[i + 1 + 1].m != 40) = true := by rw [bne, h40']; rfl
        have h40e : ¬ ps[i + 1 + 1].m = 40 := by simpa using h40'
        clear hdj hdj2 h110 HC h40 hs
        go_enter Tryz.func100, Tryz.ntmps100
        go_wp2_with fail
        exact bodyPost_ret (v := .tuple #[.agg #[.string ps[i + 1].w, .slice none 0 0, .int .i64 (ps[i + 1].pl : Nat), .int .i64 (ps[i].pl : Nat), .bool true], .int .i64 (i + 1 + 1 : Nat), .bool true]) (by simp [results, Tryz.results100, go_sem]) rfl (atom_good (cs := [.string ps[i + 1].w, .slice none 0 0, .int .i64 (ps[i + 1].pl : Nat), .int .i64 (ps[i].pl : Nat), .bool true]) (((Below.refl _ w).alloc (Nat.le_refl _) _).alloc (by simp) _) HA.out (by omega) ⟨_, rfl, World.ownsRow_nil _ _ _ _⟩)
      · have hde : ps.drop (i + 1 + 1) = [] := List.drop_eq_nil_of_le (by omega)
        have HA := hid (show atomP (ps.drop i) = some (⟨ps[i + 1].s, [], ps[i + 1].pl, (ps[i].pl : Nat), true⟩, ps.drop (i + 1 + 1)) by rw [HC.out, hdj, hde, coreP_end _ _ _ h110])
        clear hdj hde h110 HC hs
        go_enter Tryz.func100, Tryz.ntmps100
        go_wp2_with fail
        exact bodyPost_ret (v := .tuple #[.agg #[.string ps[i + 1].w, .slice none 0 0, .int .i64 (ps[i + 1].pl : Nat), .int .i64 (ps[i].pl : Nat), .bool true], .int .i64 (i + 1 + 1 : Nat), .bool true]) (by simp [results, Tryz.results100, go_sem]) rfl (atom_good (cs := [.string ps[i + 1].w, .slice none 0 0, .int .i64 (ps[i + 1].pl : Nat), .int .i64 (ps[i].pl : Nat), .bool true]) (((Below.refl _ w).alloc (Nat.le_refl _) _).alloc (by simp) _) HA.out (by omega) ⟨_, rfl, World.ownsRow_nil _ _ _ _⟩)
  · have HA := hid (show atomP (ps.drop i) = none by rw [HC.out, List.drop_eq_nil_of_le (by omega)]; rfl)
    clear hs HC
    go_enter Tryz.func100, Tryz.ntmps100
    go_wp2_with fail
    exact bodyPost_ret (v := .tuple #[.agg #[.string ⟨#[]⟩, .slice none 0 0, .int .i64 0, .int .i64 (ps[i].pl : Nat), .bool true], .int .i64 (i + 1 : Nat), .bool false]) (by simp [results, Tryz.results100, go_sem]) rfl (atom_fail (cs := [.string ⟨#[]⟩, .slice none 0 0, .int .i64 0, .int .i64 (ps[i].pl : Nat), .bool true]) (((Below.refl _ w).alloc (Nat.le_refl _) _).alloc (by simp) _) HA.out)

end Go.Proofs.YtpbfiffgcgnidaaGreatDoor

namespace Go.Proofs.YtpbfiffgcgnidaaGreatDoor
open Go.RowKit Go.WideMaps Go.Maps
attribute [local go_sem] drewN_alloc drewN_setCell

theorem loopR_go (ps : List Pc) (acc : List RT) (q : Nat) (h : acc = [] ∨ ∃ hq : q < ps.length, (ps[q].mark == 44) = true) : loopR ps acc q = termsP acc (ps.drop (q + 1)) := by
  unfold loopR
  rcases h with rfl | ⟨hq, h⟩
  · simp
  · rw [if_pos]
    rw [List.drop_eq_getElem_cons hq, front, if_pos h]
    simp
theorem loopR_stop (ps : List Pc) (acc : List RT) (q : Nat) (hne : acc ≠ []) (h : ∀ hq : q < ps.length, (ps[q].mark == 44) = false) : loopR ps acc q = some (acc, ps.drop q) := by
  unfold loopR
  rw [if_neg]
  have h1 : acc.isEmpty = false := by cases acc with
    | nil => exact absurd rfl hne
    | cons a b => rfl
  rw [h1, Bool.false_or]
  by_cases hq : q < ps.length
  · rw [List.drop_eq_getElem_cons hq, front, if_neg (by rw [h hq]; simp)]; decide
  · rw [List.drop_eq_nil_of_le (by omega), front]; decide
theorem loopR_step (ps : List Pc) (acc : List RT) (q : Nat) (hq : q + 1 < ps.length) (hw : wordy ps[q + 1] = true) : termsP acc (ps.drop (q + 1)) = loopR ps (acc ++ [ps[q + 1].rt]) (q + 2) := by
  rw [List.drop_eq_getElem_cons hq]
  by_cases h2 : q + 2 < ps.length
  · rw [List.drop_eq_getElem_cons h2]
    cases h44 : (ps[q + 2].mark == 44)
    · rw [loopR_stop ps _ (q + 2) (by simp) (fun _ => h44), List.drop_eq_getElem_cons h2]
      simp [termsP, hw, h44]
    · rw [loopR_go ps _ (q + 2) (.inr ⟨h2, h44⟩)]
      simp [termsP, hw, h44]
  · rw [loopR_stop ps _ (q + 2) (by simp) (fun h => absurd h h2), List.drop_eq_nil_of_le (by omega)]
    simp [termsP, hw]
theorem termsP_no (acc : List RT) (p : Pc) (r : List Pc) (h : wordy p = false) : termsP acc (p :: r) = none := by cases r <;> simp [termsP, h]
theorem closeP_cons {A : Type} (K : List RT → List Pc → Option A) (ts : List RT) (c : Pc) (r : List Pc) : closeP K (ts, c :: r) = if (c.mark == 41 && decide (ts.length ≤ 3)) = true then K ts r else none := rfl
theorem RT_row_more {w : World} {base g cap : Nat} {acc : List RT} {t : RT} {cs : List Value} (h : w.ownsRow base 130 3 (.slice (some ⟨g, 0, none⟩) (acc.length + 1) cap) (acc.length + 1) (acc.flatMap RT.cells ++ cs)) (hc : t.cells = cs) : w.ownsRow base 130 3 (.slice (some ⟨g, 0, none⟩) (acc.length + 1) cap) (acc ++ [t]).length ((acc ++ [t]).flatMap RT.cells) := by
  rw [List.length_append, List.length_singleton, List.flatMap_append, List.flatMap_singleton, hc]
  exact h

def goB (ps : List Pc) (acc : List RT) (q : Nat) : Bool := acc.isEmpty || front 44 (fun _ => some true) (fun _ => some false) (ps.drop q) == some true
def stopB (ps : List Pc) (k : Nat) : Bool := !(wordly (fun _ _ => some true) (ps.drop k) == some true)
theorem goB_nil (ps : List Pc) (q : Nat) : goB ps [] q = true := rfl
theorem nil_no {acc : List RT} (h : acc ≠ []) : acc.isEmpty = false := by cases acc with
  | nil => exact absurd rfl h
  | cons a b => rfl
theorem goB_at (ps : List Pc) (acc : List RT) (q : Nat) (hne : acc ≠ []) (hq : q < ps.length) : goB ps acc q = (ps[q].mark == 44) := by
  unfold goB
  rw [nil_no hne, Bool.false_or, List.drop_eq_getElem_cons hq, front]
  cases h : (ps[q].mark == 44) <;> simp
theorem goB_end (ps : List Pc) (acc : List RT) (q : Nat) (hne : acc ≠ []) (hq : ¬ q < ps.length) : goB ps acc q = false := by
  unfold goB
  rw [nil_no hne, Bool.false_or, List.drop_eq_nil_of_le (by omega), front]
  decide
theorem goB_go (ps : List Pc) (acc : List RT) (q : Nat) (h : goB ps acc q = true) : loopR ps acc q = termsP acc (ps.drop (q + 1)) := by
  unfold loopR
  exact if_pos h
theorem goB_no (ps : List Pc) (acc : List RT) (q : Nat) (h : goB ps acc q = false) : loopR ps acc q = some (acc, ps.drop q) := by
  unfold loopR
  rw [if_neg (by rw [show (acc.isEmpty || front 44 (fun _ => some true) (fun _ => some false) (ps.drop q) == some true) = goB ps acc q from rfl, h]; simp)]
theorem goB_ne (ps : List Pc) (acc : List RT) (q : Nat) (h : goB ps acc q = false) : acc ≠ [] := by
  rintro rfl
  rw [goB_nil] at h
  exact absurd h (by simp)
theorem stopB_at (ps : List Pc) (k : Nat) (hk : k < ps.length) : stopB ps k = !wordy ps[k] := by
  unfold stopB
  rw [List.drop_eq_getElem_cons hk, wordly]
  cases h : wordy ps[k] <;> simp
theorem stopB_end (ps : List Pc) (k : Nat) (hk : ¬ k < ps.length) : stopB ps k = true := by
  unfold stopB
  rw [List.drop_eq_nil_of_le (by omega), wordly]
  decide
theorem stopB_yes (ps : List Pc) (k : Nat) (acc : List RT) (h : stopB ps k = true) : termsP acc (ps.drop k) = none := by
  by_cases hk : k < ps.length
  · rw [stopB_at ps k hk] at h
    rw [List.drop_eq_getElem_cons hk]
    exact termsP_no _ _ _ (by simpa using h)
  · rw [List.drop_eq_nil_of_le (by omega), termsP]
theorem stopB_not (ps : List Pc) (k : Nat) (h : stopB ps k = false) : ∃ hk : k < ps.length, wordy ps[k] = true := by
  by_cases hk : k < ps.length
  · refine ⟨hk, ?_⟩
    rw [stopB_at ps k hk] at h
    simpa using h
  · rw [stopB_end ps k hk] at h; exact absurd h (by simp)
theorem mark_is (p : Pc) (m : UInt8) (mi : Int) (hi : (m.toNat : Int) = mi) : (p.m == mi) = (p.mark == m) := by
  cases h : (p.mark == m)
  · exact mark_ne p m mi hi h
  · exact mark_eq p m mi hi h
theorem wrap_nat1 (q : Nat) (h : q ≤ 3000) : IntKind.i64.wrap ((q : Int) + 1) = (q : Int) + 1 := by
  simp [IntKind.wrap, IntKind.bits, IntKind.signed]
  omega
theorem rt_cells (p : Pc) : p.rt.cells = [.string p.w, .bool (p.m == 118), .int .i64 (p.pl : Nat)] := by
  unfold Pc.rt RT.cells
  rw [mark_is p 118 118 rfl]; rfl

end Go.Proofs.YtpbfiffgcgnidaaGreatDoor
