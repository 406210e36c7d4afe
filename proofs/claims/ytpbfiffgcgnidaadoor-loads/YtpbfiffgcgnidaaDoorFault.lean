/-
  OUR OWN. What a text that has the form may still do wrong.
-/
import Derived.Test.YtpbfiffgcgnidaaDoorLayers
namespace Go.Proofs.YtpbfiffgcgnidaaDoor
open Go.RowKit Go.WideMaps Go.Maps

/-- The error and its place. -/
def faultR (ds : List ClD) : Nat × Nat :=
  match arityR ds with
  | some p => (3, p)
  | none => match openR ds with
    | some p => (4, p)
    | none => match layersR ds with
      | some p => (5, p)
      | none => (0, 0)

set_option maxHeartbeats 1000000 in
theorem findFault_c (w : World) (base : Nat) (ao : Option Addr) (cap : Nat) (ds : List ClD) (hP : ProgIs w base (.slice ao ds.length cap) ds) (hW : ∀ d ∈ ds, d.WF) (hn : ds.length ≤ 40) :
    Calls Tryd.prog 8 #[.slice ao ds.length cap] w fun e w' => e = .returned (.tuple #[.int .i64 (faultR ds).1, .int .i64 (faultR ds).2]) ∧ Below w.heap.size w w' := by
  cases h1 : arityR ds with
  | some p =>
    have HE := hid (show faultR ds = (3, p) by simp [faultR, h1])
    go_enter Tryd.func8, Tryd.ntmps8
    go_wp2_with (go_at_call 19; refine (arity_c _ base ao cap ds (by exact hP) hW hn).mono ?_; rintro e w1 ⟨he, hB1⟩; rw [h1] at he; simp only [foundV] at he; subst he)
    go_ret2
    rw [HE.out]
    exact ⟨rfl, hB1⟩
  | none =>
    cases h2 : openR ds with
    | some p =>
      have HE := hid (show faultR ds = (4, p) by simp [faultR, h1, h2])
      go_enter Tryd.func8, Tryd.ntmps8
      go_wp2_with (first
        | (go_at_call 19; refine (arity_c _ base ao cap ds (by exact hP) hW hn).mono ?_; rintro e w1 ⟨he, hB1⟩; rw [h1] at he; simp only [foundV] at he; subst he)
        | (go_at_call 20; refine (open_c _ base ao cap ds (by exact hP.below hB1) hW hn).mono ?_; rintro e w2 ⟨he, hB2⟩; rw [h2] at he; simp only [foundV] at he; subst he))
      go_ret2
      rw [HE.out]
      exact ⟨rfl, hB1.trans (hB2.mono hB1.size)⟩
    | none =>
      cases h3 : layersR ds with
      | some p =>
        have HE := hid (show faultR ds = (5, p) by simp [faultR, h1, h2, h3])
        go_enter Tryd.func8, Tryd.ntmps8
        go_wp2_with (first
          | (go_at_call 19; refine (arity_c _ base ao cap ds (by exact hP) hW hn).mono ?_; rintro e w1 ⟨he, hB1⟩; rw [h1] at he; simp only [foundV] at he; subst he)
          | (go_at_call 20; refine (open_c _ base ao cap ds (by exact hP.below hB1) hW hn).mono ?_; rintro e w2 ⟨he, hB2⟩; rw [h2] at he; simp only [foundV] at he; subst he)
          | (go_at_call 21; refine (layers_c _ base ao cap ds (by exact (hP.below hB1).below hB2) hW hn).mono ?_; rintro e w3 ⟨he, hB3⟩; rw [h3] at he; simp only [foundV] at he; subst he))
        go_ret2
        rw [HE.out]
        exact ⟨rfl, (hB1.trans (hB2.mono hB1.size)).trans (hB3.mono (Nat.le_trans hB1.size hB2.size))⟩
      | none =>
        have HE := hid (show faultR ds = (0, 0) by simp [faultR, h1, h2, h3])
        go_enter Tryd.func8, Tryd.ntmps8
        go_wp2_with (first
          | (go_at_call 19; refine (arity_c _ base ao cap ds (by exact hP) hW hn).mono ?_; rintro e w1 ⟨he, hB1⟩; rw [h1] at he; simp only [foundV] at he; subst he)
          | (go_at_call 20; refine (open_c _ base ao cap ds (by exact hP.below hB1) hW hn).mono ?_; rintro e w2 ⟨he, hB2⟩; rw [h2] at he; simp only [foundV] at he; subst he)
          | (go_at_call 21; refine (layers_c _ base ao cap ds (by exact (hP.below hB1).below hB2) hW hn).mono ?_; rintro e w3 ⟨he, hB3⟩; rw [h3] at he; simp only [foundV] at he; subst he))
        go_ret2
        rw [HE.out]
        exact ⟨rfl, (hB1.trans (hB2.mono hB1.size)).trans (hB3.mono (Nat.le_trans hB1.size hB2.size))⟩

end Go.Proofs.YtpbfiffgcgnidaaDoor
