/-
  OUR OWN. The document's answer: an atom with terms: what is plain in it.
-/
import Derived.Test.YtpbfiffgcgnidaaDoorRef3
import Derived.Deep.RegionHeld3
import Derived.Deep.CutRange
import Derived.Deep.CutBlock
namespace Go.Proofs.YtpbfiffgcgnidaaDoor
open Go.RowKit Go.WideMaps Go.Maps
attribute [local go_sem] drewN_alloc drewN_setCell

theorem loopR_go (ps : List Pc) (acc : List RT) (q : Nat) (h : acc = [] ∨ ∃ hq : q < ps.length, (ps[q].mark == 44) = true) : loopR ps acc q = termsP acc (ps.drop (q + 1)) := by
  unfold loopR
  rcases h with rfl | ⟨hq, h⟩
  · simp
  · rw [if_pos]
    rw [List.drop_eq_getElem_cons hq, front, if_pos h]
    simp
theorem loopR_stop (ps : List Pc) (acc : List RT) (q : Nat) (hne : acc ≠ []) (h : ∀ hq : q < ps.length, (ps[q].mark == 44) = false) : loopR ps acc q = some (acc, ps.drop q) := by
  unfold loopR
  rw [if_neg]
  have h1 : acc.isEmpty = false := by cases acc with
    | nil => exact absurd rfl hne
    | cons a b => rfl
  rw [h1, Bool.false_or]
  by_cases hq : q < ps.length
  · rw [List.drop_eq_getElem_cons hq, front, if_neg (by rw [h hq]; simp)]; decide
  · rw [List.drop_eq_nil_of_le (by omega), front]; decide
theorem loopR_step (ps : List Pc) (acc : List RT) (q : Nat) (hq : q + 1 < ps.length) (hw : wordy ps[q + 1] = true) : termsP acc (ps.drop (q + 1)) = loopR ps (acc ++ [ps[q + 1].rt]) (q + 2) := by
  rw [List.drop_eq_getElem_cons hq]
  by_cases h2 : q + 2 < ps.length
  · rw [List.drop_eq_getElem_cons h2]
    cases h44 : (ps[q + 2].mark == 44)
    · rw [loopR_stop ps _ (q + 2) (by simp) (fun _ => h44), List.drop_eq_getElem_cons h2]
      simp [termsP, hw, h44]
    · rw [loopR_go ps _ (q + 2) (.inr ⟨h2, h44⟩)]
      simp [termsP, hw, h44]
  · rw [loopR_stop ps _ (q + 2) (by simp) (fun h => absurd h h2), List.drop_eq_nil_of_le (by omega)]
    simp [termsP, hw]
theorem termsP_no (acc : List RT) (p : Pc) (r : List Pc) (h : wordy p = false) : termsP acc (p :: r) = none := by cases r <;> simp [termsP, h]
theorem closeP_cons {A : Type} (K : List RT → List Pc → Option A) (ts : List RT) (c : Pc) (r : List Pc) : closeP K (ts, c :: r) = if (c.mark == 41 && decide (ts.length ≤ 3)) = true then K ts r else none := rfl
theorem RT_row_more {w : World} {base g cap : Nat} {acc : List RT} {t : RT} {cs : List Value} (h : w.ownsRow base 88 3 (.slice (some ⟨g, 0, none⟩) (acc.length + 1) cap) (acc.length + 1) (acc.flatMap RT.cells ++ cs)) (hc : t.cells = cs) : w.ownsRow base 88 3 (.slice (some ⟨g, 0, none⟩) (acc.length + 1) cap) (acc ++ [t]).length ((acc ++ [t]).flatMap RT.cells) := by
  rw [List.length_append, List.length_singleton, List.flatMap_append, List.flatMap_singleton, hc]
  exact h

def goB (ps : List Pc) (acc : List RT) (q : Nat) : Bool := acc.isEmpty || front 44 (fun _ => some true) (fun _ => some false) (ps.drop q) == some true
def stopB (ps : List Pc) (k : Nat) : Bool := !(wordly (fun _ _ => some true) (ps.drop k) == some true)
theorem goB_nil (ps : List Pc) (q : Nat) : goB ps [] q = true := rfl
theorem nil_no {acc : List RT} (h : acc ≠ []) : acc.isEmpty = false := by cases acc with
  | nil => exact absurd rfl h
  | cons a b => rfl
theorem goB_at (ps : List Pc) (acc : List RT) (q : Nat) (hne : acc ≠ []) (hq : q < ps.length) : goB ps acc q = (ps[q].mark == 44) := by
  unfold goB
  rw [nil_no hne, Bool.false_or, List.drop_eq_getElem_cons hq, front]
  cases h : (ps[q].mark == 44) <;> simp
theorem goB_end (ps : List Pc) (acc : List RT) (q : Nat) (hne : acc ≠ []) (hq : ¬ q < ps.length) : goB ps acc q = false := by
  unfold goB
  rw [nil_no hne, Bool.false_or, List.drop_eq_nil_of_le (by omega), front]
  decide
theorem goB_go (ps : List Pc) (acc : List RT) (q : Nat) (h : goB ps acc q = true) : loopR ps acc q = termsP acc (ps.drop (q + 1)) := by
  unfold loopR
  exact if_pos h
theorem goB_no (ps : List Pc) (acc : List RT) (q : Nat) (h : goB ps acc q = false) : loopR ps acc q = some (acc, ps.drop q) := by
  unfold loopR
  rw [if_neg (by rw [show (acc.isEmpty || front 44 (fun _ => some true) (fun _ => some false) (ps.drop q) == some true) = goB ps acc q from rfl, h]; simp)]
theorem goB_ne (ps : List Pc) (acc : List RT) (q : Nat) (h : goB ps acc q = false) : acc ≠ [] := by
  rintro rfl
  rw [goB_nil] at h
  exact absurd h (by simp)
theorem stopB_at (ps : List Pc) (k : Nat) (hk : k < ps.length) : stopB ps k = !wordy ps[k] := by
  unfold stopB
  rw [List.drop_eq_getElem_cons hk, wordly]
  cases h : wordy ps[k] <;> simp
theorem stopB_end (ps : List Pc) (k : Nat) (hk : ¬ k < ps.length) : stopB ps k = true := by
  unfold stopB
  rw [List.drop_eq_nil_of_le (by omega), wordly]
  decide
theorem stopB_yes (ps : List Pc) (k : Nat) (acc : List RT) (h : stopB ps k = true) : termsP acc (ps.drop k) = none := by
  by_cases hk : k < ps.length
  · rw [stopB_at ps k hk] at h
    rw [List.drop_eq_getElem_cons hk]
    exact termsP_no _ _ _ (by simpa using h)
  · rw [List.drop_eq_nil_of_le (by omega), termsP]
theorem stopB_not (ps : List Pc) (k : Nat) (h : stopB ps k = false) : ∃ hk : k < ps.length, wordy ps[k] = true := by
  by_cases hk : k < ps.length
  · refine ⟨hk, ?_⟩
    rw [stopB_at ps k hk] at h
    simpa using h
  · rw [stopB_end ps k hk] at h; exact absurd h (by simp)
theorem mark_is (p : Pc) (m : UInt8) (mi : Int) (hi : (m.toNat : Int) = mi) : (p.m == mi) = (p.mark == m) := by
  cases h : (p.mark == m)
  · exact mark_ne p m mi hi h
  · exact mark_eq p m mi hi h
theorem wrap_nat1 (q : Nat) (h : q ≤ 3000) : IntKind.i64.wrap ((q : Int) + 1) = (q : Int) + 1 := by
  simp [IntKind.wrap, IntKind.bits, IntKind.signed]
  omega
theorem rt_cells (p : Pc) : p.rt.cells = [.string p.w, .bool (p.m == 118), .int .i64 (p.pl : Nat)] := by
  unfold Pc.rt RT.cells
  rw [mark_is p 118 118 rfl]; rfl

end Go.Proofs.YtpbfiffgcgnidaaDoor
