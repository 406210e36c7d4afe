/-
  OUR OWN. Retract: a fact that is there.
-/
import Derived.Test.YtpbfiffgcgnidaaFact8
import Derived.Test.YtpbfiffgcgnidaaFact11
namespace Go.Proofs.Ytpbfiffgcgnidaa
open Go.RowKit Go.WideMaps Go.Maps
attribute [local go_sem] drewN_alloc drewN_setCell

set_option maxHeartbeats 1000000 in
set_option maxRecDepth 100000 in
theorem retract_some (w : World) (base bb : Nat) (D ds : List ClD) (hI : BaseIs w base bb D) (s : ByteArray) (x y0 y1 y2 : ByteArray) (n : Int) (hbb : base ≤ bb) (hA : Asked base bb D s true x y0 y1 y2 n)
    (hD : ∀ (W : World) (ao : Option Addr) (cap B : Nat), ClausesIs W base (.slice ao D.length cap) D → Blk W B [.string x, .int .i64 n, .string y0, .string y1, .string y2] 48 → Calls Try.prog 20 #[.slice ao D.length cap, .func (.func 30) #[] #[.pointer (some ⟨B, 0, none⟩)]] W fun e w' => e = .returned (.slice ao ds.length cap) ∧ ClausesIs w' base (.slice ao ds.length cap) ds ∧ W.grownBy w' (Value.slice ao D.length cap).ownBlock) :
    Calls Try.prog 14 #[.pointer (some ⟨bb, 0, none⟩), .string s] w fun e w' => e = .returned (.tuple #[.int .i64 0, .int .i64 0]) ∧ BaseIs w' base bb ds ∧ Below base w w' := by
  have hw0 : bb < w.heap.size := by
    obtain ⟨v, h, _⟩ := hI
    exact h.lt
  have HR := hid (hA.reads w hI)
  have HF := hid hA.factOf
  have HD := hid hD
  clear hD
  have HH := hid hA.has
  have HI := hid hI
  clear hA hI
  go_enter Try.func14, Try.ntmps14
  go_wp2_with fail
  refine (HR.out).mono ?_
  rintro e w1 ⟨rfl, hB1⟩
  have HIx := hid ((HI.out.below hB1).below (below_alloc w1 (.cells #[.string x, .int .i64 n, .string y0, .string y1, .string y2] 48)))
  have HBx := hid (hB1.trans ((below_alloc w1 (.cells #[.string x, .int .i64 n, .string y0, .string y1, .string y2] 48)).mono hB1.size))
  have hzz := HBx.out.size
  obtain ⟨v, h1, h2⟩ := HIx.out
  obtain ⟨ao, cap, rfl⟩ := h2.form
  have hlt := (HI.out.below hB1)
  obtain ⟨v', k1, k2⟩ := hlt
  have hlt := k1.lt
  have hne : bb ≠ w1.heap.size := by omega
  have c0 := h1.cell 0
  have H1 := hid h1
  have H2 := hid (h2.below (Below.refl _ _).drew)
  clear h1 h2 HI HR HIx k1 k2
  have hsize : (w1.alloc (.cells #[.string x, .int .i64 n, .string y0, .string y1, .string y2] 48)).heap.size = w1.heap.size + 1 := by simp
  obtain ⟨q0, q1, q2, q3, q4⟩ := (Blk.new w1 [.string x, .int .i64 n, .string y0, .string y1, .string y2] 48).c5
  have HQ := hid (Blk.new w1 [.string x, .int .i64 n, .string y0, .string y1, .string y2] 48)
  go_wp2_with fail
  generalize hw : (w1.alloc (.cells #[.string x, .int .i64 n, .string y0, .string y1, .string y2] 48)) = u at *
  generalize w1.heap.size = B1 at *
  clear hw hB1
  go_region_with (first
    | (go_at_call 19; refine (HF.out _).mono ?_; rintro e w2 ⟨rfl, hA2, hB2⟩; have c02 := (H1.out.drew.below hB2).cell 0)
    | (go_at_call 18; refine (HH.out w2 ao cap (B1 + 1) (H2.out.below hB2) (by rw [← hsize]; exact hA2)).mono ?_; rintro e w3 ⟨rfl, hB3⟩))
  all_goals
    have hB23 := hB2.trans (hB3.mono hB2.size)
    have hB := HBx.out.drew.trans (hB23.mono (by simp; omega))
    have hC := H1.out.drew.below hB23
    have c03 := hC.cell 0
    have fC := hC.frozen
    have HP := hid ((H2.out.below hB23).below (Below.refl _ _).drew)
    have hnb : (Value.slice ao D.length cap).ownBlock ≠ some bb ∧ ∀ k, (Value.slice ao D.length cap).ownBlock = some k → base ≤ k := by
      obtain ⟨rows, ho, _, _⟩ := H2.out.below hB23
      exact ⟨own_ne ho hC (by decide), own_base ho⟩
    have HN := hid hnb
    have hq := (HQ.out.drew.below hB23)
    obtain ⟨p0, p1, p2, p3, p4⟩ := hq.c5
    have hbw : bb < w3.heap.size := hC.lt
    have hbq : B1 < w3.heap.size := hq.lt
    have HC := hid hC
    clear H1 H2 HQ HH HBx q0 q1 q2 q3 q4 c0 c02 hA2 hB2 hB3 hB23 hq hC hnb
    go_wp2_with fail
    go_region_with (first
      | (go_at_call 19; refine (HF.out _).mono ?_; rintro e w4 ⟨rfl, hA4, hB4⟩; have c04 := (HC.out.drew.below hB4).cell 0)
      | (go_at_call 20; refine (HD.out w4 ao cap w3.heap.size (HP.out.below hB4) (by exact hA4)).mono ?_; rintro e w5 ⟨rfl, hP5, hg5⟩; have hC5 := (HC.out.drew.below hB4).grown hg5 HN.out.1; have c05 := hC5.cell 0; have fC5 := hC5.frozen))
    all_goals
      have hB4b : Below base w w4 := (hB.mono (by omega)).drew.trans (hB4.mono (by simp; omega))
      have hB5 : Below base w w5 := hB4b.grown hg5 (by have := hB4.size; simp at this; omega) HN.out.2
      go_wp2_with fail
      go_ret2
      exact ⟨rfl, ⟨_, hC5.setCell 0 _, hP5.set hC5 (by decide) (by decide) 0 _⟩, hB5.setCell (p := ⟨bb, 0, none⟩) hbb _⟩

end Go.Proofs.Ytpbfiffgcgnidaa
