/-
  OUR OWN. A fact's text, good, ground, and of a name that the base knows.
-/
import Derived.Test.YtpbfiffgcgnidaaFact6
namespace Go.Proofs.Ytpbfiffgcgnidaa
open Go.RowKit Go.WideMaps Go.Maps
attribute [local go_sem] drewN_alloc drewN_setCell

set_option maxHeartbeats 1000000 in
set_option maxRecDepth 100000 in
theorem readFact_ok (w : World) (base bb : Nat) (ds : List ClD) (hI : BaseIs w base bb ds) (hW : ∀ d ∈ ds, d.WF) (hn : ds.length ≤ 40) (s : ByteArray) (hs : s.size ≤ 2000) (hok : (qAtom s).ok = true) (hend : (skipL (qAtom s).rest).isEmpty = true)
    (hknow : hasW (countsR ds).1 (qAtom s).name = true) (hfit : nAt (countsR ds).2 (posIn (countsR ds).1 (qAtom s).name) = ((qAtom s).ts.length : Nat)) (hnl : (qAtom s).name.length ≤ 12) (hgr : fv (qAtom s).ts = -1) (h3 : (qAtom s).ts.length ≤ 3) :
    Calls Try.prog 17 #[.pointer (some ⟨bb, 0, none⟩), .string s] w fun e w' => e = .returned (.tuple #[.agg (atomCells (qAtom s).name (qAtom s).ts).toArray, .int .i64 0, .int .i64 0]) ∧ Below w.heap.size w w' := by
  have HQ := hid (fun (W : World) (h : BaseIs W base bb ds) => question_ok W base bb ds h hW hn s hs hok hend hknow hfit hnl)
  have HI := hid hI
  have hP0 := Blk.new w zA 48
  have hB0 : Below w.heap.size w (w.alloc (.cells zA.toArray 48)) := below_alloc _ _
  have HP0 := hid hP0
  have HB0 := hid hB0
  clear hP0 hI
  obtain ⟨A, HA⟩ : ∃ A, Hid (A = qAtom s) := ⟨_, rfl⟩
  rw [← HA.out] at hgr h3 ⊢
  have HV : Hid (∀ W : World, BaseIs W base bb ds → Calls Try.prog 27 #[.pointer (some ⟨bb, 0, none⟩), .string s] W fun e w' => e = .returned (.tuple #[.agg #[.string A.nm, .int .i64 A.cn, .string (A.t 0), .string (A.t 1), .string (A.t 2)], .agg #[.int .i64 0, .int .i64 A.np', .int .i64 (A.p 0), .int .i64 (A.p 1), .int .i64 (A.p 2)], .int .i64 0, .int .i64 0]) ∧ Below W.heap.size W w') := by
    intro W h
    rw [HA.out]
    exact HQ.out W h
  have HG : Hid (∀ W : World, Calls Try.prog 28 #[.agg #[.string A.nm, .int .i64 A.cn, .string (A.t 0), .string (A.t 1), .string (A.t 2)]] W fun e w' => e = .returned (.int .i64 (-1)) ∧ Below W.heap.size W w') := by
    intro W
    have := firstVariable_c W A.nm A.ts h3
    rw [hgr] at this
    exact this
  clear HQ hok hend hknow hfit hnl hgr h3 HA hB0
  go_enter Try.func17, Try.ntmps17
  go_wp2_with fail
  refine (HV.out _ (by exact HI.out.below HB0.out)).mono ?_
  rintro e w1 ⟨rfl, hB1⟩
  have hP1 := HP0.out.below hB1
  have hBw1 : Below w.heap.size w w1 := HB0.out.trans (hB1.mono (by simp))
  have hC1 := new_one w1 [.string A.nm, .int .i64 A.cn, .string (A.t 0), .string (A.t 1), .string (A.t 2)] 48 [.int .i64 0, .int .i64 A.np', .int .i64 (A.p 0), .int .i64 (A.p 1), .int .i64 (A.p 2)] 73
  go_wp2_with fail
  refine (HG.out _).mono ?_
  rintro e w2 ⟨rfl, hB2⟩
  have hBx : Below w1.heap.size w1 ((w1.alloc (.cells #[.string A.nm, .int .i64 A.cn, .string (A.t 0), .string (A.t 1), .string (A.t 2)] 48)).alloc (.cells #[.int .i64 0, .int .i64 A.np', .int .i64 (A.p 0), .int .i64 (A.p 1), .int .i64 (A.p 2)] 73)) := ((Below.refl _ w1).alloc (Nat.le_refl _) _).alloc (by simp) _
  have hP2 := (hP1.below hBx).below hB2
  have hC2 := hC1.below hB2
  have hz1 : w.heap.size < w1.heap.size := hP1.lt
  have hz2 : w1.heap.size < w2.heap.size := hC2.lt
  have hz3 : w.heap.size < w1.heap.size + 1 := by omega
  have HB2 := hid ((hBw1.trans (hBx.mono (by omega))).trans (hB2.mono (by simp; omega)))
  have fP := hP2.frozen
  obtain ⟨a0, a1, a2, a3, a4⟩ := hP2.c5
  obtain ⟨c0, c1, c2, c3, c4⟩ := hC2.c5
  clear hP2 hC2 hP1 hC1 hBx hB1 hBw1 hB2 HV HG HI HP0 HB0
  go_wp2_with fail
  · refine bodyPost_ret (v := .tuple #[.agg #[.string A.nm, .int .i64 A.cn, .string (A.t 0), .string (A.t 1), .string (A.t 2)], .int .i64 0, .int .i64 0]) (by simp [results, Try.results17, go_sem, a0, a1, a2, a3, a4]) rfl ⟨rfl, ?_⟩
    repeat (refine Below.setCell ?_ (by simp only []; omega) _)
    exact HB2.out

end Go.Proofs.Ytpbfiffgcgnidaa

namespace Go.Proofs.Ytpbfiffgcgnidaa
open Go.RowKit Go.WideMaps Go.Maps
attribute [local go_sem] drewN_alloc drewN_setCell

/-- A text that a base reads as a fact. -/
def Reads (base bb : Nat) (ds : List ClD) (s : ByteArray) (an : List UInt8) (ats : List (List UInt8)) : Prop :=
  ∀ W : World, BaseIs W base bb ds → Calls Try.prog 17 #[.pointer (some ⟨bb, 0, none⟩), .string s] W fun e w' => e = .returned (.tuple #[.agg (atomCells an ats).toArray, .int .i64 0, .int .i64 0]) ∧ Below W.heap.size W w'

/-- What a base's calls ask of a fact's text. -/
structure Asked (base bb : Nat) (ds : List ClD) (s : ByteArray) (found : Bool) (x y0 y1 y2 : ByteArray) (n : Int) : Prop where
  reads : ∀ W : World, BaseIs W base bb ds → Calls Try.prog 17 #[.pointer (some ⟨bb, 0, none⟩), .string s] W fun e w' => e = .returned (.tuple #[.agg #[.string x, .int .i64 n, .string y0, .string y1, .string y2], .int .i64 0, .int .i64 0]) ∧ Below W.heap.size W w'
  factOf : ∀ W : World, Calls Try.prog 19 #[.agg #[.string x, .int .i64 n, .string y0, .string y1, .string y2]] W fun e w' => e = .returned (.func (.func 30) #[] #[.pointer (some ⟨W.heap.size, 0, none⟩)]) ∧ Blk w' W.heap.size [.string x, .int .i64 n, .string y0, .string y1, .string y2] 48 ∧ Below W.heap.size W w'
  has : ∀ (W : World) (ao : Option Addr) (cap B : Nat), ClausesIs W base (.slice ao ds.length cap) ds → Blk W B [.string x, .int .i64 n, .string y0, .string y1, .string y2] 48 → Calls Try.prog 18 #[.slice ao ds.length cap, .func (.func 30) #[] #[.pointer (some ⟨B, 0, none⟩)]] W fun e w' => e = .returned (.bool found) ∧ Below W.heap.size W w'
theorem asked (base bb : Nat) (ds : List ClD) (hW : ∀ d ∈ ds, d.WF) (hn : ds.length ≤ 40) (s : ByteArray) (an : List UInt8) (ats : List (List UInt8)) (hR : Reads base bb ds s an ats) :
    Asked base bb ds s (decide (0 ≤ idx an ats ds)) (bs an) (bs (ats.getD 0 [])) (bs (ats.getD 1 [])) (bs (ats.getD 2 [])) (ats.length : Nat) := by
  refine ⟨hR, ?_, fun W ao cap B hC hA => containsCl_c W base ao cap ds hC hW hn B an ats hA⟩
  intro W
  refine (isFactOf_c W an ats).mono ?_
  rintro e w' ⟨rfl, rfl⟩
  exact ⟨rfl, Blk.new W (atomCells an ats) 48, below_alloc _ _⟩

set_option maxHeartbeats 1000000 in
set_option maxRecDepth 100000 in
theorem assert_twice (w : World) (base bb : Nat) (ds : List ClD) (hI : BaseIs w base bb ds) (s : ByteArray) (x y0 y1 y2 : ByteArray) (n : Int) (hA : Asked base bb ds s true x y0 y1 y2 n) :
    Calls Try.prog 13 #[.pointer (some ⟨bb, 0, none⟩), .string s] w fun e w' => e = .returned (.tuple #[.int .i64 7, .int .i64 0]) ∧ Below w.heap.size w w' := by
  have HR := hid (hA.reads w hI)
  have HF := hid hA.factOf
  have HH := hid hA.has
  have HI := hid hI
  clear hA hI
  go_enter Try.func13, Try.ntmps13
  go_wp2_with fail
  refine (HR.out).mono ?_
  rintro e w1 ⟨rfl, hB1⟩
  have HIx := hid ((HI.out.below hB1).below (below_alloc w1 (.cells #[.string x, .int .i64 n, .string y0, .string y1, .string y2] 48)))
  have HBx := hid (hB1.trans ((below_alloc w1 (.cells #[.string x, .int .i64 n, .string y0, .string y1, .string y2] 48)).mono hB1.size))
  have hzz := HBx.out.size
  obtain ⟨v, h1, h2⟩ := HIx.out
  obtain ⟨ao, cap, rfl⟩ := h2.form
  have hlt := (HI.out.below hB1)
  obtain ⟨v', k1, k2⟩ := hlt
  have hlt := k1.lt
  have hne : bb ≠ w1.heap.size := by omega
  have c0 := h1.cell 0
  have H1 := hid h1
  have H2 := hid (h2.below (Below.refl _ _).drew)
  clear h1 h2 HI HR HIx k1 k2
  have hsize : (w1.alloc (.cells #[.string x, .int .i64 n, .string y0, .string y1, .string y2] 48)).heap.size = w1.heap.size + 1 := by simp
  obtain ⟨q0, q1, q2, q3, q4⟩ := (Blk.new w1 [.string x, .int .i64 n, .string y0, .string y1, .string y2] 48).c5
  go_wp2_with fail
  generalize hw : (w1.alloc (.cells #[.string x, .int .i64 n, .string y0, .string y1, .string y2] 48)) = u at *
  generalize w1.heap.size = B1 at *
  clear hw hB1
  go_region_with (first
    | (go_at_call 19; refine (HF.out _).mono ?_; rintro e w2 ⟨rfl, hA2, hB2⟩; have c02 := (H1.out.drew.below hB2).cell 0)
    | (go_at_call 18; refine (HH.out w2 ao cap (B1 + 1) (H2.out.below hB2) (by rw [← hsize]; exact hA2)).mono ?_; rintro e w3 ⟨rfl, hB3⟩))
  all_goals
    have hB := HBx.out.drew.trans ((hB2.trans (hB3.mono hB2.size)).mono (by simp; omega))
    go_wp2_with fail
    go_ret2
    exact ⟨rfl, hB⟩

end Go.Proofs.Ytpbfiffgcgnidaa

namespace Go.Proofs.Ytpbfiffgcgnidaa
open Go.RowKit Go.WideMaps Go.Maps
attribute [local go_sem] drewN_alloc drewN_setCell

set_option maxHeartbeats 1000000 in
set_option maxRecDepth 100000 in
theorem retract_none (w : World) (base bb : Nat) (ds : List ClD) (hI : BaseIs w base bb ds) (s : ByteArray) (x y0 y1 y2 : ByteArray) (n : Int) (hA : Asked base bb ds s false x y0 y1 y2 n) :
    Calls Try.prog 14 #[.pointer (some ⟨bb, 0, none⟩), .string s] w fun e w' => e = .returned (.tuple #[.int .i64 8, .int .i64 0]) ∧ Below w.heap.size w w' := by
  have HR := hid (hA.reads w hI)
  have HF := hid hA.factOf
  have HH := hid hA.has
  have HI := hid hI
  clear hA hI
  go_enter Try.func14, Try.ntmps14
  go_wp2_with fail
  refine (HR.out).mono ?_
  rintro e w1 ⟨rfl, hB1⟩
  have HIx := hid ((HI.out.below hB1).below (below_alloc w1 (.cells #[.string x, .int .i64 n, .string y0, .string y1, .string y2] 48)))
  have HBx := hid (hB1.trans ((below_alloc w1 (.cells #[.string x, .int .i64 n, .string y0, .string y1, .string y2] 48)).mono hB1.size))
  have hzz := HBx.out.size
  obtain ⟨v, h1, h2⟩ := HIx.out
  obtain ⟨ao, cap, rfl⟩ := h2.form
  have hlt := (HI.out.below hB1)
  obtain ⟨v', k1, k2⟩ := hlt
  have hlt := k1.lt
  have hne : bb ≠ w1.heap.size := by omega
  have c0 := h1.cell 0
  have H1 := hid h1
  have H2 := hid (h2.below (Below.refl _ _).drew)
  clear h1 h2 HI HR HIx k1 k2
  have hsize : (w1.alloc (.cells #[.string x, .int .i64 n, .string y0, .string y1, .string y2] 48)).heap.size = w1.heap.size + 1 := by simp
  obtain ⟨q0, q1, q2, q3, q4⟩ := (Blk.new w1 [.string x, .int .i64 n, .string y0, .string y1, .string y2] 48).c5
  go_wp2_with fail
  generalize hw : (w1.alloc (.cells #[.string x, .int .i64 n, .string y0, .string y1, .string y2] 48)) = u at *
  generalize w1.heap.size = B1 at *
  clear hw hB1
  go_region_with (first
    | (go_at_call 19; refine (HF.out _).mono ?_; rintro e w2 ⟨rfl, hA2, hB2⟩; have c02 := (H1.out.drew.below hB2).cell 0)
    | (go_at_call 18; refine (HH.out w2 ao cap (B1 + 1) (H2.out.below hB2) (by rw [← hsize]; exact hA2)).mono ?_; rintro e w3 ⟨rfl, hB3⟩))
  all_goals
    have hB := HBx.out.drew.trans ((hB2.trans (hB3.mono hB2.size)).mono (by simp; omega))
    go_wp2_with fail
    go_ret2
    exact ⟨rfl, hB⟩

end Go.Proofs.Ytpbfiffgcgnidaa
