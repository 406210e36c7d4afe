/-
  OUR OWN. A base's question, good and of a name that it knows.
-/
import Derived.Test.YtpbfiffgcgnidaaGreatDoorXF4
namespace Go.Proofs.YtpbfiffgcgnidaaGreatDoor
open Go.RowKit Go.WideMaps Go.Maps
attribute [local go_sem] drewN_alloc drewN_setCell

set_option maxHeartbeats 1000000 in
set_option maxRecDepth 100000 in
theorem question_ok (w : World) (base bb : Nat) (ds : List ClD) (hI : BaseIs w base bb ds) (hW : ∀ d ∈ ds, d.WF) (hn : ds.length ≤ 40) (s : ByteArray) (hs : s.size ≤ 2000) (hok : (qAtom s).ok = true) (hend : (skipL (qAtom s).rest).isEmpty = true)
    (hknow : hasW (countsR ds).1 (qAtom s).name = true) (hfit : nAt (countsR ds).2 (posIn (countsR ds).1 (qAtom s).name) = ((qAtom s).ts.length : Nat)) (hnl : (qAtom s).name.length ≤ 12) :
    Calls Tryz.prog 68 #[.pointer (some ⟨bb, 0, none⟩), .string s] w fun e w' => e = .returned (.tuple #[.agg (atomCells (qAtom s).name (qAtom s).ts).toArray, .agg (spotCells 0 (qAtom s).np (qAtom s).ps).toArray, .int .i64 0, .int .i64 0]) ∧ Below w.heap.size w w' := by
  obtain ⟨v, h1, h2⟩ := hI
  obtain ⟨ao, cap, rfl⟩ := h2.form
  have HRQ := hid (fun W => readQuestion_ok W s hs hok hend)
  have hq : ¬ ((2000 : Int) < (s.size : Int)) := by omega
  have c0 : w.cell? ⟨bb, 0, none⟩ = some (.slice ao ds.length cap) := h1.cell 0
  have hP0 := new_one w zA 80 zS 141
  have hQ0 := new_two w (.cells zA.toArray 80) zS 141
  have hB0 : Below w.heap.size w ((w.alloc (.cells zA.toArray 80)).alloc (.cells zS.toArray 141)) := ((Below.refl _ w).alloc (Nat.le_refl _) _).alloc (by simp) _
  have HP0 := hid hP0
  have HQ0 := hid hQ0
  have HB0 := hid hB0
  clear hP0 hQ0 hB0
  obtain ⟨A, HA⟩ : ∃ A, Hid (A = qAtom s) := ⟨_, rfl⟩
  rw [← HA.out] at hok hend hknow hfit hnl ⊢
  have HV : Hid (∀ W : World, Calls Tryz.prog 104 #[.string s] W fun e w' => e = .returned (.tuple #[.agg #[.string A.nm, .int .i64 A.cn, .string (A.t 0), .string (A.t 1), .string (A.t 2)], .agg #[.int .i64 0, .int .i64 A.np', .int .i64 (A.p 0), .int .i64 (A.p 1), .int .i64 (A.p 2)], .int .i64 0, .bool true]) ∧ Below W.heap.size W w') := by
    intro W
    rw [HA.out]
    exact HRQ.out W
  have HK := hid hknow
  have HT : Hid ((nAt (countsR ds).2 (posIn (countsR ds).1 A.name) == A.cn) = true) := by
    show _ = true
    rw [hfit]
    simp [AtR.cn]
  have hsz := h1.lt
  clear HRQ hok hend hknow hfit HA
  go_enter Tryz.func68, Tryz.ntmps68
  go_wp2_with fail
  refine (HV.out _).mono ?_
  rintro e w1 ⟨rfl, hB1⟩
  have hP1 := HP0.out.below hB1
  have hQ1 := HQ0.out.below hB1
  have hBw1 : Below w.heap.size w w1 := HB0.out.trans (hB1.mono (by simp; omega))
  have c1 : w1.cell? ⟨bb, 0, none⟩ = some (.slice ao ds.length cap) := by rw [hBw1.cell (p := ⟨bb, 0, none⟩) hsz]; exact c0
  clear c0 HP0 HQ0 HB0 hB1 HV
  have hC1 := new_one w1 [.string A.nm, .int .i64 A.cn, .string (A.t 0), .string (A.t 1), .string (A.t 2)] 80 [.int .i64 0, .int .i64 A.np', .int .i64 (A.p 0), .int .i64 (A.p 1), .int .i64 (A.p 2)] 141
  have hS1 := new_two w1 (.cells #[.string A.nm, .int .i64 A.cn, .string (A.t 0), .string (A.t 1), .string (A.t 2)] 80) [.int .i64 0, .int .i64 A.np', .int .i64 (A.p 0), .int .i64 (A.p 1), .int .i64 (A.p 2)] 141
  have hBx : Below w1.heap.size w1 ((w1.alloc (.cells #[.string A.nm, .int .i64 A.cn, .string (A.t 0), .string (A.t 1), .string (A.t 2)] 80)).alloc (.cells #[.int .i64 0, .int .i64 A.np', .int .i64 (A.p 0), .int .i64 (A.p 1), .int .i64 (A.p 2)] 141)) := ((Below.refl _ w1).alloc (Nat.le_refl _) _).alloc (by simp) _
  have hz1 := hBw1.size
  have hz2 := hQ1.lt
  have hD1 := ((h2.below (hBw1.mono (Nat.le_refl _))).below hBx)
  have hP2 := hP1.below hBx
  have hQ2 := hQ1.below hBx
  have HCO := hid (countsOf_c _ base ao cap ds hD1 hW hn)
  have HC1 := hid hC1
  have HS1 := hid hS1
  have HP2 := hid hP2
  have HQ2 := hid hQ2
  have HB := hid (hBw1.trans (hBx.mono hz1))
  obtain ⟨q0, q1, q2, q3, q4⟩ := hC1.c5
  have hsz2 : bb < w1.heap.size := by omega
  have hsz3 : bb < w1.heap.size + 1 := by omega
  go_wp2_with fail
  clear hP1 hQ1 hP2 hQ2 hBw1 hBx h1 h2
  go_region_with (first
    | (go_at_call 105; refine (countsOf_c _ base ao cap ds (by exact hD1) hW hn).mono ?_; rintro e w2 ⟨mv, lv, cv, rfl, hCb, hCI, hlen, hB2⟩; obtain ⟨r0, r1, r2, r3, r4⟩ := (HC1.out.drew.below hB2).c5)
    | (go_at_call 92; refine (fits_old _ (w1.heap.size + 1 + 1) (w1.heap.size + 1 + 1) mv lv cv (countsR ds).1 (countsR ds).2 A.name A.cn _ _ _ (by simpa using hCb) (by simpa using hCI) (by unfold maxLen; omega) HK.out).mono ?_; rintro e w3 ⟨he, hB3⟩; rw [HT.out] at he; subst he))
  all_goals
    have hB23 := hB2.trans (hB3.mono hB2.size)
    have HB3 := hid (HB.out.drew.trans (hB23.mono (by simp; omega)))
    obtain ⟨c0, c1, c2, c3, c4⟩ := (HC1.out.drew.below hB23).c5
    have hS3 := HS1.out.drew.below hB23
    obtain ⟨d0, d1, d2, d3, d4⟩ := hS3.c5
    have hb3 : w1.heap.size + 1 < w3.heap.size := hS3.lt
    have hP3 := HP2.out.drew.below hB23
    have hQ3 := HQ2.out.drew.below hB23
    have fP := hP3.frozen
    have fQ := hQ3.frozen
    obtain ⟨a0, a1, a2, a3, a4⟩ := hP3.c5
    obtain ⟨s0, s1, s2, s3, s4⟩ := hQ3.c5
    clear hP3 hQ3 hS3 hB23 HC1 HS1 HP2 HQ2 HB HCO r0 r1 r2 r3 r4 hB2 hB3 hCb hCI hD1 q0 q1 q2 q3 q4 hC1 hS1 HT HK
    have hz3 : w.heap.size < w1.heap.size := by omega
    have hz4 : w.heap.size + 1 < w1.heap.size := by omega
    have hz5 : w.heap.size < w1.heap.size + 1 := by omega
    have hz6 : w.heap.size + 1 < w1.heap.size + 1 := by omega
    go_wp2_with fail
    go_region
    all_goals
      go_wp2
      refine bodyPost_ret (v := .tuple #[.agg #[.string A.nm, .int .i64 A.cn, .string (A.t 0), .string (A.t 1), .string (A.t 2)], .agg #[.int .i64 0, .int .i64 A.np', .int .i64 (A.p 0), .int .i64 (A.p 1), .int .i64 (A.p 2)], .int .i64 0, .int .i64 0]) (by simp [results, Tryz.results68, go_sem, a0, a1, a2, a3, a4, s0, s1, s2, s3, s4]) rfl ⟨rfl, ?_⟩
      refine Below.drew ?_
      repeat (refine Below.setCell ?_ (by simp only []; omega) _)
      exact HB3.out

end Go.Proofs.YtpbfiffgcgnidaaGreatDoor

namespace Go.Proofs.YtpbfiffgcgnidaaGreatDoor
open Go.RowKit Go.WideMaps Go.Maps
attribute [local go_sem] drewN_alloc drewN_setCell

set_option maxHeartbeats 1000000 in
set_option maxRecDepth 100000 in
theorem readFact_ok (w : World) (base bb : Nat) (ds : List ClD) (hI : BaseIs w base bb ds) (hW : ∀ d ∈ ds, d.WF) (hn : ds.length ≤ 40) (s : ByteArray) (hs : s.size ≤ 2000) (hok : (qAtom s).ok = true) (hend : (skipL (qAtom s).rest).isEmpty = true)
    (hknow : hasW (countsR ds).1 (qAtom s).name = true) (hfit : nAt (countsR ds).2 (posIn (countsR ds).1 (qAtom s).name) = ((qAtom s).ts.length : Nat)) (hnl : (qAtom s).name.length ≤ 12) (hgr : fv (qAtom s).ts = -1) (h3 : (qAtom s).ts.length ≤ 3) :
    Calls Tryz.prog 37 #[.pointer (some ⟨bb, 0, none⟩), .string s] w fun e w' => e = .returned (.tuple #[.agg (atomCells (qAtom s).name (qAtom s).ts).toArray, .int .i64 0, .int .i64 0]) ∧ Below w.heap.size w w' := by
  have HQ := hid (fun (W : World) (h : BaseIs W base bb ds) => question_ok W base bb ds h hW hn s hs hok hend hknow hfit hnl)
  have HI := hid hI
  have hP0 := Blk.new w zA 80
  have hB0 : Below w.heap.size w (w.alloc (.cells zA.toArray 80)) := below_alloc _ _
  have HP0 := hid hP0
  have HB0 := hid hB0
  clear hP0 hI
  obtain ⟨A, HA⟩ : ∃ A, Hid (A = qAtom s) := ⟨_, rfl⟩
  rw [← HA.out] at hgr h3 ⊢
  have HV : Hid (∀ W : World, BaseIs W base bb ds → Calls Tryz.prog 68 #[.pointer (some ⟨bb, 0, none⟩), .string s] W fun e w' => e = .returned (.tuple #[.agg #[.string A.nm, .int .i64 A.cn, .string (A.t 0), .string (A.t 1), .string (A.t 2)], .agg #[.int .i64 0, .int .i64 A.np', .int .i64 (A.p 0), .int .i64 (A.p 1), .int .i64 (A.p 2)], .int .i64 0, .int .i64 0]) ∧ Below W.heap.size W w') := by
    intro W h
    rw [HA.out]
    exact HQ.out W h
  have HG : Hid (∀ W : World, Calls Tryz.prog 69 #[.agg #[.string A.nm, .int .i64 A.cn, .string (A.t 0), .string (A.t 1), .string (A.t 2)]] W fun e w' => e = .returned (.int .i64 (-1)) ∧ Below W.heap.size W w') := by
    intro W
    have := firstVariable_c W A.nm A.ts h3
    rw [hgr] at this
    exact this
  clear HQ hok hend hknow hfit hnl hgr h3 HA hB0
  go_enter Tryz.func37, Tryz.ntmps37
  go_wp2_with fail
  refine (HV.out _ (by exact HI.out.below HB0.out)).mono ?_
  rintro e w1 ⟨rfl, hB1⟩
  have hP1 := HP0.out.below hB1
  have hBw1 : Below w.heap.size w w1 := HB0.out.trans (hB1.mono (by simp))
  have hC1 := new_one w1 [.string A.nm, .int .i64 A.cn, .string (A.t 0), .string (A.t 1), .string (A.t 2)] 80 [.int .i64 0, .int .i64 A.np', .int .i64 (A.p 0), .int .i64 (A.p 1), .int .i64 (A.p 2)] 141
  go_wp2_with fail
  refine (HG.out _).mono ?_
  rintro e w2 ⟨rfl, hB2⟩
  have hBx : Below w1.heap.size w1 ((w1.alloc (.cells #[.string A.nm, .int .i64 A.cn, .string (A.t 0), .string (A.t 1), .string (A.t 2)] 80)).alloc (.cells #[.int .i64 0, .int .i64 A.np', .int .i64 (A.p 0), .int .i64 (A.p 1), .int .i64 (A.p 2)] 141)) := ((Below.refl _ w1).alloc (Nat.le_refl _) _).alloc (by simp) _
  have hP2 := (hP1.below hBx).below hB2
  have hC2 := hC1.below hB2
  have hz1 : w.heap.size < w1.heap.size := hP1.lt
  have hz2 : w1.heap.size < w2.heap.size := hC2.lt
  have hz3 : w.heap.size < w1.heap.size + 1 := by omega
  have HB2 := hid ((hBw1.trans (hBx.mono (by omega))).trans (hB2.mono (by simp; omega)))
  have fP := hP2.frozen
  obtain ⟨a0, a1, a2, a3, a4⟩ := hP2.c5
  obtain ⟨c0, c1, c2, c3, c4⟩ := hC2.c5
  clear hP2 hC2 hP1 hC1 hBx hB1 hBw1 hB2 HV HG HI HP0 HB0
  go_wp2_with fail
  · refine bodyPost_ret (v := .tuple #[.agg #[.string A.nm, .int .i64 A.cn, .string (A.t 0), .string (A.t 1), .string (A.t 2)], .int .i64 0, .int .i64 0]) (by simp [results, Tryz.results37, go_sem, a0, a1, a2, a3, a4]) rfl ⟨rfl, ?_⟩
    repeat (refine Below.setCell ?_ (by simp only []; omega) _)
    exact HB2.out

end Go.Proofs.YtpbfiffgcgnidaaGreatDoor

namespace Go.Proofs.YtpbfiffgcgnidaaGreatDoor
open Go.RowKit Go.WideMaps Go.Maps
attribute [local go_sem] drewN_alloc drewN_setCell

/-- A text that a base reads as a fact. -/
def Reads (base bb : Nat) (ds : List ClD) (s : ByteArray) (an : List UInt8) (ats : List (List UInt8)) : Prop :=
  ∀ W : World, BaseIs W base bb ds → Calls Tryz.prog 37 #[.pointer (some ⟨bb, 0, none⟩), .string s] W fun e w' => e = .returned (.tuple #[.agg (atomCells an ats).toArray, .int .i64 0, .int .i64 0]) ∧ Below W.heap.size W w'

/-- What a base's calls ask of a fact's text. -/
structure Asked (base bb : Nat) (ds : List ClD) (s : ByteArray) (found : Bool) (x y0 y1 y2 : ByteArray) (n : Int) : Prop where
  reads : ∀ W : World, BaseIs W base bb ds → Calls Tryz.prog 37 #[.pointer (some ⟨bb, 0, none⟩), .string s] W fun e w' => e = .returned (.tuple #[.agg #[.string x, .int .i64 n, .string y0, .string y1, .string y2], .int .i64 0, .int .i64 0]) ∧ Below W.heap.size W w'
  factOf : ∀ W : World, Calls Tryz.prog 39 #[.agg #[.string x, .int .i64 n, .string y0, .string y1, .string y2]] W fun e w' => e = .returned (.func (.func 71) #[] #[.pointer (some ⟨W.heap.size, 0, none⟩)]) ∧ Blk w' W.heap.size [.string x, .int .i64 n, .string y0, .string y1, .string y2] 80 ∧ Below W.heap.size W w'
  has : ∀ (W : World) (ao : Option Addr) (cap B : Nat), ClausesIs W base (.slice ao ds.length cap) ds → Blk W B [.string x, .int .i64 n, .string y0, .string y1, .string y2] 80 → Calls Tryz.prog 38 #[.slice ao ds.length cap, .func (.func 71) #[] #[.pointer (some ⟨B, 0, none⟩)]] W fun e w' => e = .returned (.bool found) ∧ Below W.heap.size W w'
theorem asked (base bb : Nat) (ds : List ClD) (hW : ∀ d ∈ ds, d.WF) (hn : ds.length ≤ 40) (s : ByteArray) (an : List UInt8) (ats : List (List UInt8)) (hR : Reads base bb ds s an ats) :
    Asked base bb ds s (decide (0 ≤ idx an ats ds)) (bs an) (bs (ats.getD 0 [])) (bs (ats.getD 1 [])) (bs (ats.getD 2 [])) (ats.length : Nat) := by
  refine ⟨hR, ?_, fun W ao cap B hC hA => containsCl_c W base ao cap ds hC hW hn B an ats hA⟩
  intro W
  refine (isFactOf_c W an ats).mono ?_
  rintro e w' ⟨rfl, rfl⟩
  exact ⟨rfl, Blk.new W (atomCells an ats) 80, below_alloc _ _⟩

set_option maxHeartbeats 1000000 in
set_option maxRecDepth 100000 in
theorem assert_twice (w : World) (base bb : Nat) (ds : List ClD) (hI : BaseIs w base bb ds) (s : ByteArray) (x y0 y1 y2 : ByteArray) (n : Int) (hA : Asked base bb ds s true x y0 y1 y2 n) :
    Calls Tryz.prog 16 #[.pointer (some ⟨bb, 0, none⟩), .string s] w fun e w' => e = .returned (.tuple #[.int .i64 7, .int .i64 0]) ∧ Below w.heap.size w w' := by
  have HR := hid (hA.reads w hI)
  have HF := hid hA.factOf
  have HH := hid hA.has
  have HI := hid hI
  clear hA hI
  go_enter Tryz.func16, Tryz.ntmps16
  go_wp2_with fail
  refine (HR.out).mono ?_
  rintro e w1 ⟨rfl, hB1⟩
  have HIx := hid ((HI.out.below hB1).below (below_alloc w1 (.cells #[.string x, .int .i64 n, .string y0, .string y1, .string y2] 80)))
  have HBx := hid (hB1.trans ((below_alloc w1 (.cells #[.string x, .int .i64 n, .string y0, .string y1, .string y2] 80)).mono hB1.size))
  have hzz := HBx.out.size
  obtain ⟨v, h1, h2⟩ := HIx.out
  obtain ⟨ao, cap, rfl⟩ := h2.form
  have hlt := (HI.out.below hB1)
  obtain ⟨v', k1, k2⟩ := hlt
  have hlt := k1.lt
  have hne : bb ≠ w1.heap.size := by omega
  have c0 := h1.cell 0
  have H1 := hid h1
  have H2 := hid (h2.below (Below.refl _ _).drew)
  clear h1 h2 HI HR HIx k1 k2
  have hsize : (w1.alloc (.cells #[.string x, .int .i64 n, .string y0, .string y1, .string y2] 80)).heap.size = w1.heap.size + 1 := by simp
  obtain ⟨q0, q1, q2, q3, q4⟩ := (Blk.new w1 [.string x, .int .i64 n, .string y0, .string y1, .string y2] 80).c5
  go_wp2_with fail
  generalize hw : (w1.alloc (.cells #[.string x, .int .i64 n, .string y0, .string y1, .string y2] 80)) = u at *
  generalize w1.heap.size = B1 at *
  clear hw hB1
  go_region_with (first
    | (go_at_call 39; refine (HF.out _).mono ?_; rintro e w2 ⟨rfl, hA2, hB2⟩; have c02 := (H1.out.drew.below hB2).cell 0)
    | (go_at_call 38; refine (HH.out w2 ao cap (B1 + 1) (H2.out.below hB2) (by rw [← hsize]; exact hA2)).mono ?_; rintro e w3 ⟨rfl, hB3⟩))
  all_goals
    have hB := HBx.out.drew.trans ((hB2.trans (hB3.mono hB2.size)).mono (by simp; omega))
    go_wp2_with fail
    go_ret2
    exact ⟨rfl, hB⟩

end Go.Proofs.YtpbfiffgcgnidaaGreatDoor

namespace Go.Proofs.YtpbfiffgcgnidaaGreatDoor
open Go.RowKit Go.WideMaps Go.Maps
attribute [local go_sem] drewN_alloc drewN_setCell

set_option maxHeartbeats 1000000 in
set_option maxRecDepth 100000 in
theorem retract_none (w : World) (base bb : Nat) (ds : List ClD) (hI : BaseIs w base bb ds) (s : ByteArray) (x y0 y1 y2 : ByteArray) (n : Int) (hA : Asked base bb ds s false x y0 y1 y2 n) :
    Calls Tryz.prog 18 #[.pointer (some ⟨bb, 0, none⟩), .string s] w fun e w' => e = .returned (.tuple #[.int .i64 8, .int .i64 0]) ∧ Below w.heap.size w w' := by
  have HR := hid (hA.reads w hI)
  have HF := hid hA.factOf
  have HH := hid hA.has
  have HI := hid hI
  clear hA hI
  go_enter Tryz.func18, Tryz.ntmps18
  go_wp2_with fail
  refine (HR.out).mono ?_
  rintro e w1 ⟨rfl, hB1⟩
  have HIx := hid ((HI.out.below hB1).below (below_alloc w1 (.cells #[.string x, .int .i64 n, .string y0, .string y1, .string y2] 80)))
  have HBx := hid (hB1.trans ((below_alloc w1 (.cells #[.string x, .int .i64 n, .string y0, .string y1, .string y2] 80)).mono hB1.size))
  have hzz := HBx.out.size
  obtain ⟨v, h1, h2⟩ := HIx.out
  obtain ⟨ao, cap, rfl⟩ := h2.form
  have hlt := (HI.out.below hB1)
  obtain ⟨v', k1, k2⟩ := hlt
  have hlt := k1.lt
  have hne : bb ≠ w1.heap.size := by omega
  have c0 := h1.cell 0
  have H1 := hid h1
  have H2 := hid (h2.below (Below.refl _ _).drew)
  clear h1 h2 HI HR HIx k1 k2
  have hsize : (w1.alloc (.cells #[.string x, .int .i64 n, .string y0, .string y1, .string y2] 80)).heap.size = w1.heap.size + 1 := by simp
  obtain ⟨q0, q1, q2, q3, q4⟩ := (Blk.new w1 [.string x, .int .i64 n, .string y0, .string y1, .string y2] 80).c5
  go_wp2_with fail
  generalize hw : (w1.alloc (.cells #[.string x, .int .i64 n, .string y0, .string y1, .string y2] 80)) = u at *
  generalize w1.heap.size = B1 at *
  clear hw hB1
  go_region_with (first
    | (go_at_call 39; refine (HF.out _).mono ?_; rintro e w2 ⟨rfl, hA2, hB2⟩; have c02 := (H1.out.drew.below hB2).cell 0)
    | (go_at_call 38; refine (HH.out w2 ao cap (B1 + 1) (H2.out.below hB2) (by rw [← hsize]; exact hA2)).mono ?_; rintro e w3 ⟨rfl, hB3⟩))
  all_goals
    have hB := HBx.out.drew.trans ((hB2.trans (hB3.mono hB2.size)).mono (by simp; omega))
    go_wp2_with fail
    go_ret2
    exact ⟨rfl, hB⟩

end Go.Proofs.YtpbfiffgcgnidaaGreatDoor
