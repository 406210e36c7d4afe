/-
  OUR OWN. Facts: the first variable of an atom.
-/
import Derived.Test.YtpbfiffgcgnidaaPos
namespace Go.Proofs.Ytpbfiffgcgnidaa
open Go.RowKit Go.WideMaps Go.Maps
attribute [local go_sem] drewN_alloc drewN_setCell

/-- The first variable's place, from k on; -1: none. -/
def fvGo : Nat → List (List UInt8) → Int
  | _, [] => -1
  | k, t :: r => if isVar t = true then (k : Int) else fvGo (k + 1) r
def fv (ts : List (List UInt8)) : Int := fvGo 0 ts
theorem fvGo_drop (ts : List (List UInt8)) (k : Nat) (h : k < ts.length) : fvGo k (ts.drop k) = if isVar ts[k] = true then (k : Int) else fvGo (k + 1) (ts.drop (k + 1)) := by
  rw [List.drop_eq_getElem_cons h, fvGo]

set_option maxHeartbeats 1000000 in
set_option maxRecDepth 100000 in
theorem indexStr_c (w : World) (b o cap : Nat) (ts : List (List UInt8)) (hn : ts.length ≤ 3) (hc : ∀ (j : Nat) (h : j < ts.length), w.cell? ⟨b, o + j, none⟩ = some (.string (bs ts[j]))) :
    Calls Try.prog 43 #[.slice (some ⟨b, o, none⟩) ts.length cap, .func (.func 44) #[] #[]] w fun e w' => e = .returned (.int .i64 (fv ts)) ∧ w' = w := by
  go_enter Try.func43, Try.ntmps43
  go_wp2
  go_loopw [8] (fun iv wr => ∃ (i : Nat), i ≤ ts.length ∧ iv = .int .i64 i ∧ Hid (fvGo i (ts.drop i) = fv ts) ∧ wr = w) (fun iv _ => ts.length - (intOf iv).toNat)
  case atStart => exact ⟨0, by omega, rfl, rfl, rfl⟩
  case round =>
    obtain ⟨i, hi, rfl, HX, rfl⟩ := hrel
    by_cases hlt : i < ts.length
    · have hci := hc i hlt
      have HD := hid (fvGo_drop ts i hlt)
      generalize ts[i] = t at *
      clear hc
      cases hv : isVar t
      · go_wp2_with (go_at_call 44; refine (isVariable_c _ _).mono ?_; rintro e w' ⟨rfl, rfl⟩)
        exact ⟨⟨i + 1, hlt, by go_num, by show _ = _; rw [← HX.out, HD.out, hv]; rfl, trivial⟩, by simp [intOf]; omega⟩
      · have HE := hid (show fv ts = (i : Int) by rw [← HX.out, HD.out, hv]; rfl)
        go_wp2_with (go_at_call 44; refine (isVariable_c _ _).mono ?_; rintro e w' ⟨rfl, rfl⟩)
        go_ret
        rw [HE.out]
        exact ⟨rfl, rfl⟩
    · have hie : i = ts.length := by omega
      have HE := hid (show fv ts = -1 by rw [← HX.out, hie, List.drop_length]; rfl)
      clear hc hie
      go_wp2
      go_ret
      rw [HE.out]
      exact ⟨rfl, rfl⟩

set_option maxHeartbeats 1000000 in
set_option maxRecDepth 100000 in
theorem firstVariable_c (w : World) (nm : ByteArray) (ts : List (List UInt8)) (h3 : ts.length ≤ 3) :
    Calls Try.prog 28 #[.agg #[.string nm, .int .i64 (ts.length : Nat), .string (bs (ts.getD 0 [])), .string (bs (ts.getD 1 [])), .string (bs (ts.getD 2 []))]] w fun e w' => e = .returned (.int .i64 (fv ts)) ∧ Below w.heap.size w w' := by
  obtain ⟨y0, Y0⟩ : ∃ y0, Hid (y0 = bs (ts.getD 0 [])) := ⟨_, rfl⟩
  obtain ⟨y1, Y1⟩ : ∃ y1, Hid (y1 = bs (ts.getD 1 [])) := ⟨_, rfl⟩
  obtain ⟨y2, Y2⟩ : ∃ y2, Hid (y2 = bs (ts.getD 2 [])) := ⟨_, rfl⟩
  rw [← Y0.out, ← Y1.out, ← Y2.out]
  have hbx := Blk.new w [Value.string nm, .int .i64 (ts.length : Nat), .string y0, .string y1, .string y2] 48
  have hcells : ∀ (j : Nat) (h : j < ts.length), (w.alloc (.cells #[Value.string nm, .int .i64 (ts.length : Nat), .string y0, .string y1, .string y2] 48)).cell? ⟨w.heap.size, 2 + j, none⟩ = some (.string (bs ts[j])) := by
    intro j hj
    rw [hbx.cell]
    have h : j = 0 ∨ j = 1 ∨ j = 2 := by omega
    rcases h with rfl | rfl | rfl
    · simp [Y0.out, hj]
    · simp [Y1.out, hj]
    · simp [Y2.out, hj]
  have HC := hid hcells
  clear hcells
  have hsl := fun W : World => sliceN ts.length h3 w.heap.size 2 W
  go_enter Try.func28, Try.ntmps28
  go_wp2_with (go_at_call 43; refine (indexStr_c _ w.heap.size 2 3 ts h3 HC.out).mono ?_; rintro e w' ⟨rfl, rfl⟩)
  go_ret
  exact ⟨rfl, below_alloc _ _⟩

end Go.Proofs.Ytpbfiffgcgnidaa
