/-
  OUR OWN. A question against a base: a name that is new, or known with another number of terms.
-/
import Derived.Test.YtpbfiffgcgnidaaGreatDoorXF6
import Derived.Test.YtpbfiffgcgnidaaGreatDoorXQ1
namespace Go.Proofs.YtpbfiffgcgnidaaGreatDoor
open Go.RowKit Go.WideMaps Go.Maps
attribute [local go_sem] drewN_alloc drewN_setCell

set_option maxHeartbeats 1000000 in
set_option maxRecDepth 100000 in
theorem question_arity (w : World) (base bb : Nat) (ds : List ClD) (hI : BaseIs w base bb ds) (hW : ∀ d ∈ ds, d.WF) (hn : ds.length ≤ 40) (s : ByteArray) (hs : s.size ≤ 2000) (hok : (qAtom s).ok = true) (hend : (skipL (qAtom s).rest).isEmpty = true)
    (hknow : hasW (countsR ds).1 (qAtom s).name = true) (hfit : nAt (countsR ds).2 (posIn (countsR ds).1 (qAtom s).name) ≠ ((qAtom s).ts.length : Nat)) (hnl : (qAtom s).name.length ≤ 12) :
    Calls Tryz.prog 68 #[.pointer (some ⟨bb, 0, none⟩), .string s] w fun e w' => e = .returned (.tuple #[.agg zA.toArray, .agg zS.toArray, .int .i64 3, .int .i64 ((qAtom s).np : Nat)]) ∧ Below w.heap.size w w' := by
  obtain ⟨v, h1, h2⟩ := hI
  obtain ⟨ao, cap, rfl⟩ := h2.form
  have HRQ := hid (fun W => readQuestion_ok W s hs hok hend)
  have hq : ¬ ((2000 : Int) < (s.size : Int)) := by omega
  have c0 : w.cell? ⟨bb, 0, none⟩ = some (.slice ao ds.length cap) := h1.cell 0
  have hP0 := new_one w zA 80 zS 141
  have hQ0 := new_two w (.cells zA.toArray 80) zS 141
  have hB0 : Below w.heap.size w ((w.alloc (.cells zA.toArray 80)).alloc (.cells zS.toArray 141)) := ((Below.refl _ w).alloc (Nat.le_refl _) _).alloc (by simp) _
  have HP0 := hid hP0
  have HQ0 := hid hQ0
  have HB0 := hid hB0
  clear hP0 hQ0 hB0
  obtain ⟨A, HA⟩ : ∃ A, Hid (A = qAtom s) := ⟨_, rfl⟩
  rw [← HA.out] at hok hend hknow hfit hnl ⊢
  have HV : Hid (∀ W : World, Calls Tryz.prog 104 #[.string s] W fun e w' => e = .returned (.tuple #[.agg #[.string A.nm, .int .i64 A.cn, .string (A.t 0), .string (A.t 1), .string (A.t 2)], .agg #[.int .i64 0, .int .i64 A.np', .int .i64 (A.p 0), .int .i64 (A.p 1), .int .i64 (A.p 2)], .int .i64 0, .bool true]) ∧ Below W.heap.size W w') := by
    intro W
    rw [HA.out]
    exact HRQ.out W
  have HK := hid hknow
  have HT : Hid ((nAt (countsR ds).2 (posIn (countsR ds).1 A.name) == A.cn) = false) := by
    show _ = false
    rw [beq_eq_false_iff_ne]
    exact hfit
  have hsz := h1.lt
  clear HRQ hok hend hknow hfit HA
  go_enter Tryz.func68, Tryz.ntmps68
  go_wp2_with fail
  refine (HV.out _).mono ?_
  rintro e w1 ⟨rfl, hB1⟩
  have hP1 := HP0.out.below hB1
  have hQ1 := HQ0.out.below hB1
  have hBw1 : Below w.heap.size w w1 := HB0.out.trans (hB1.mono (by simp; omega))
  have c1 : w1.cell? ⟨bb, 0, none⟩ = some (.slice ao ds.length cap) := by rw [hBw1.cell (p := ⟨bb, 0, none⟩) hsz]; exact c0
  clear c0 HP0 HQ0 HB0 hB1 HV
  have hC1 := new_one w1 [.string A.nm, .int .i64 A.cn, .string (A.t 0), .string (A.t 1), .string (A.t 2)] 80 [.int .i64 0, .int .i64 A.np', .int .i64 (A.p 0), .int .i64 (A.p 1), .int .i64 (A.p 2)] 141
  have hS1 := new_two w1 (.cells #[.string A.nm, .int .i64 A.cn, .string (A.t 0), .string (A.t 1), .string (A.t 2)] 80) [.int .i64 0, .int .i64 A.np', .int .i64 (A.p 0), .int .i64 (A.p 1), .int .i64 (A.p 2)] 141
  have hBx : Below w1.heap.size w1 ((w1.alloc (.cells #[.string A.nm, .int .i64 A.cn, .string (A.t 0), .string (A.t 1), .string (A.t 2)] 80)).alloc (.cells #[.int .i64 0, .int .i64 A.np', .int .i64 (A.p 0), .int .i64 (A.p 1), .int .i64 (A.p 2)] 141)) := ((Below.refl _ w1).alloc (Nat.le_refl _) _).alloc (by simp) _
  have hz1 := hBw1.size
  have hz2 := hQ1.lt
  have hD1 := ((h2.below (hBw1.mono (Nat.le_refl _))).below hBx)
  have hP2 := hP1.below hBx
  have hQ2 := hQ1.below hBx
  have HCO := hid (countsOf_c _ base ao cap ds hD1 hW hn)
  have HC1 := hid hC1
  have HS1 := hid hS1
  have HP2 := hid hP2
  have HQ2 := hid hQ2
  have HB := hid (hBw1.trans (hBx.mono hz1))
  obtain ⟨q0, q1, q2, q3, q4⟩ := hC1.c5
  have hsz2 : bb < w1.heap.size := by omega
  have hsz3 : bb < w1.heap.size + 1 := by omega
  go_wp2_with fail
  clear hP1 hQ1 hP2 hQ2 hBw1 hBx h1 h2
  go_region_with (first
    | (go_at_call 105; refine (countsOf_c _ base ao cap ds (by exact hD1) hW hn).mono ?_; rintro e w2 ⟨mv, lv, cv, rfl, hCb, hCI, hlen, hB2⟩; obtain ⟨r0, r1, r2, r3, r4⟩ := (HC1.out.drew.below hB2).c5)
    | (go_at_call 92; refine (fits_old _ (w1.heap.size + 1 + 1) (w1.heap.size + 1 + 1) mv lv cv (countsR ds).1 (countsR ds).2 A.name A.cn _ _ _ (by simpa using hCb) (by simpa using hCI) (by unfold maxLen; omega) HK.out).mono ?_; rintro e w3 ⟨he, hB3⟩; rw [HT.out] at he; subst he))
  all_goals
    have hB23 := hB2.trans (hB3.mono hB2.size)
    have HB3 := hid (HB.out.drew.trans (hB23.mono (by simp; omega)))
    obtain ⟨c0, c1, c2, c3, c4⟩ := (HC1.out.drew.below hB23).c5
    have hS3 := HS1.out.drew.below hB23
    obtain ⟨d0, d1, d2, d3, d4⟩ := hS3.c5
    have hb3 : w1.heap.size + 1 < w3.heap.size := hS3.lt
    have hP3 := HP2.out.drew.below hB23
    have hQ3 := HQ2.out.drew.below hB23
    have fP := hP3.frozen
    have fQ := hQ3.frozen
    obtain ⟨a0, a1, a2, a3, a4⟩ := hP3.c5
    obtain ⟨s0, s1, s2, s3, s4⟩ := hQ3.c5
    clear hP3 hQ3 hS3 hB23 HC1 HS1 HP2 HQ2 HB HCO r0 r1 r2 r3 r4 hB2 hB3 hCb hCI hD1 q0 q1 q2 q3 q4 hC1 hS1 HT HK
    have hz3 : w.heap.size < w1.heap.size := by omega
    have hz4 : w.heap.size + 1 < w1.heap.size := by omega
    have hz5 : w.heap.size < w1.heap.size + 1 := by omega
    have hz6 : w.heap.size + 1 < w1.heap.size + 1 := by omega
    go_wp2_with fail
    go_region
    all_goals
      go_wp2
      refine bodyPost_ret (v := .tuple #[.agg #[.string ⟨#[]⟩, .int .i64 0, .string ⟨#[]⟩, .string ⟨#[]⟩, .string ⟨#[]⟩], .agg #[.int .i64 0, .int .i64 0, .int .i64 0, .int .i64 0, .int .i64 0], .int .i64 3, .int .i64 A.np']) (by simp [results, Tryz.results68, go_sem, a0, a1, a2, a3, a4, s0, s1, s2, s3, s4]) rfl ⟨rfl, ?_⟩
      refine Below.drew ?_
      repeat (refine Below.setCell ?_ (by simp only []; omega) _)
      exact HB3.out


set_option maxHeartbeats 1000000 in
set_option maxRecDepth 100000 in
theorem question_new (w : World) (base bb : Nat) (ds : List ClD) (hI : BaseIs w base bb ds) (hW : ∀ d ∈ ds, d.WF) (hn : ds.length ≤ 40) (s : ByteArray) (hs : s.size ≤ 2000) (hok : (qAtom s).ok = true) (hend : (skipL (qAtom s).rest).isEmpty = true)
    (hknow : hasW (countsR ds).1 (qAtom s).name = false) (hnl : (qAtom s).name.length ≤ 12) :
    Calls Tryz.prog 68 #[.pointer (some ⟨bb, 0, none⟩), .string s] w fun e w' => e = .returned (.tuple #[.agg (atomCells (qAtom s).name (qAtom s).ts).toArray, .agg (spotCells 0 (qAtom s).np (qAtom s).ps).toArray, .int .i64 0, .int .i64 0]) ∧ Below w.heap.size w w' := by
  obtain ⟨v, h1, h2⟩ := hI
  obtain ⟨ao, cap, rfl⟩ := h2.form
  have HRQ := hid (fun W => readQuestion_ok W s hs hok hend)
  have hq : ¬ ((2000 : Int) < (s.size : Int)) := by omega
  have c0 : w.cell? ⟨bb, 0, none⟩ = some (.slice ao ds.length cap) := h1.cell 0
  have hP0 := new_one w zA 80 zS 141
  have hQ0 := new_two w (.cells zA.toArray 80) zS 141
  have hB0 : Below w.heap.size w ((w.alloc (.cells zA.toArray 80)).alloc (.cells zS.toArray 141)) := ((Below.refl _ w).alloc (Nat.le_refl _) _).alloc (by simp) _
  have HP0 := hid hP0
  have HQ0 := hid hQ0
  have HB0 := hid hB0
  clear hP0 hQ0 hB0
  obtain ⟨A, HA⟩ : ∃ A, Hid (A = qAtom s) := ⟨_, rfl⟩
  rw [← HA.out] at hok hend hknow hnl ⊢
  have HV : Hid (∀ W : World, Calls Tryz.prog 104 #[.string s] W fun e w' => e = .returned (.tuple #[.agg #[.string A.nm, .int .i64 A.cn, .string (A.t 0), .string (A.t 1), .string (A.t 2)], .agg #[.int .i64 0, .int .i64 A.np', .int .i64 (A.p 0), .int .i64 (A.p 1), .int .i64 (A.p 2)], .int .i64 0, .bool true]) ∧ Below W.heap.size W w') := by
    intro W
    rw [HA.out]
    exact HRQ.out W
  have HK := hid hknow
  have hsz := h1.lt
  clear HRQ hok hend hknow HA
  go_enter Tryz.func68, Tryz.ntmps68
  go_wp2_with fail
  refine (HV.out _).mono ?_
  rintro e w1 ⟨rfl, hB1⟩
  have hP1 := HP0.out.below hB1
  have hQ1 := HQ0.out.below hB1
  have hBw1 : Below w.heap.size w w1 := HB0.out.trans (hB1.mono (by simp; omega))
  have c1 : w1.cell? ⟨bb, 0, none⟩ = some (.slice ao ds.length cap) := by rw [hBw1.cell (p := ⟨bb, 0, none⟩) hsz]; exact c0
  clear c0 HP0 HQ0 HB0 hB1 HV
  have hC1 := new_one w1 [.string A.nm, .int .i64 A.cn, .string (A.t 0), .string (A.t 1), .string (A.t 2)] 80 [.int .i64 0, .int .i64 A.np', .int .i64 (A.p 0), .int .i64 (A.p 1), .int .i64 (A.p 2)] 141
  have hS1 := new_two w1 (.cells #[.string A.nm, .int .i64 A.cn, .string (A.t 0), .string (A.t 1), .string (A.t 2)] 80) [.int .i64 0, .int .i64 A.np', .int .i64 (A.p 0), .int .i64 (A.p 1), .int .i64 (A.p 2)] 141
  have hBx : Below w1.heap.size w1 ((w1.alloc (.cells #[.string A.nm, .int .i64 A.cn, .string (A.t 0), .string (A.t 1), .string (A.t 2)] 80)).alloc (.cells #[.int .i64 0, .int .i64 A.np', .int .i64 (A.p 0), .int .i64 (A.p 1), .int .i64 (A.p 2)] 141)) := ((Below.refl _ w1).alloc (Nat.le_refl _) _).alloc (by simp) _
  have hz1 := hBw1.size
  have hz2 := hQ1.lt
  have hD1 := ((h2.below (hBw1.mono (Nat.le_refl _))).below hBx)
  have hP2 := hP1.below hBx
  have hQ2 := hQ1.below hBx
  have HCO := hid (countsOf_c _ base ao cap ds hD1 hW hn)
  have HC1 := hid hC1
  have HS1 := hid hS1
  have HP2 := hid hP2
  have HQ2 := hid hQ2
  have HB := hid (hBw1.trans (hBx.mono hz1))
  obtain ⟨q0, q1, q2, q3, q4⟩ := hC1.c5
  have hsz2 : bb < w1.heap.size := by omega
  have hsz3 : bb < w1.heap.size + 1 := by omega
  go_wp2_with fail
  clear hP1 hQ1 hP2 hQ2 hBw1 hBx h1 h2
  go_region_with (first
    | (go_at_call 105; refine (countsOf_c _ base ao cap ds (by exact hD1) hW hn).mono ?_; rintro e w2 ⟨mv, lv, cv, rfl, hCb, hCI, hlen, hB2⟩; obtain ⟨r0, r1, r2, r3, r4⟩ := (HC1.out.drew.below hB2).c5)
    | (go_at_call 92; refine (fits_new _ (w1.heap.size + 1 + 1) (w1.heap.size + 1 + 1) mv lv cv (countsR ds).1 (countsR ds).2 A.name A.ts.length _ _ _ (by simpa using hCb) (by simpa using hCI) (by unfold maxLen; omega) HK.out (by omega) (by have h9 := hB2.size; simp at h9; omega)).mono ?_; rintro e w3 ⟨rfl, -, -, -, -, -, hKX⟩; have hB3 := hKX.toBelow (Nat.le_refl _)))
  all_goals
    have hB23 := hB2.trans (hB3.mono (Nat.le_of_eq (by simp)))
    have HB3 := hid (HB.out.drew.trans (hB23.mono (by simp; omega)))
    obtain ⟨c0, c1, c2, c3, c4⟩ := (HC1.out.drew.below hB23).c5
    have hS3 := HS1.out.drew.below hB23
    obtain ⟨d0, d1, d2, d3, d4⟩ := hS3.c5
    have hb3 : w1.heap.size + 1 < w3.heap.size := hS3.lt
    have hP3 := HP2.out.drew.below hB23
    have hQ3 := HQ2.out.drew.below hB23
    have fP := hP3.frozen
    have fQ := hQ3.frozen
    obtain ⟨a0, a1, a2, a3, a4⟩ := hP3.c5
    obtain ⟨s0, s1, s2, s3, s4⟩ := hQ3.c5
    clear hP3 hQ3 hS3 hB23 HC1 HS1 HP2 HQ2 HB HCO r0 r1 r2 r3 r4 hB2 hB3 hKX hCb hCI hD1 q0 q1 q2 q3 q4 hC1 hS1 HK
    have hz3 : w.heap.size < w1.heap.size := by omega
    have hz4 : w.heap.size + 1 < w1.heap.size := by omega
    have hz5 : w.heap.size < w1.heap.size + 1 := by omega
    have hz6 : w.heap.size + 1 < w1.heap.size + 1 := by omega
    go_wp2_with fail
    go_region
    all_goals
      go_wp2
      refine bodyPost_ret (v := .tuple #[.agg #[.string A.nm, .int .i64 A.cn, .string (A.t 0), .string (A.t 1), .string (A.t 2)], .agg #[.int .i64 0, .int .i64 A.np', .int .i64 (A.p 0), .int .i64 (A.p 1), .int .i64 (A.p 2)], .int .i64 0, .int .i64 0]) (by simp [results, Tryz.results68, go_sem, a0, a1, a2, a3, a4, s0, s1, s2, s3, s4]) rfl ⟨rfl, ?_⟩
      refine Below.drew ?_
      repeat (refine Below.setCell ?_ (by simp only []; omega) _)
      exact HB3.out


set_option maxHeartbeats 400000 in
set_option maxRecDepth 100000 in
theorem question_long (w : World) (bb : Nat) (s : ByteArray) (hs : s.size ≤ maxLen) (h : 2000 < s.size) :
    Calls Tryz.prog 68 #[.pointer (some ⟨bb, 0, none⟩), .string s] w fun e w' => e = .returned (.tuple #[.agg zA.toArray, .agg zS.toArray, .int .i64 1, .int .i64 0]) ∧ Below w.heap.size w w' := by
  have hs' := hs
  unfold maxLen at hs'
  have hq : (2000 : Int) < (s.size : Int) := by omega
  go_enter Tryz.func68, Tryz.ntmps68
  go_wp2
  refine bodyPost_ret (v := .tuple #[.agg zA.toArray, .agg zS.toArray, .int .i64 1, .int .i64 0]) (by simp [results, Tryz.results68, go_sem, zA, zS]) rfl ⟨rfl, ?_⟩
  exact ((Below.refl _ w).alloc (Nat.le_refl _) _).alloc (by simp) _

set_option maxHeartbeats 1000000 in
set_option maxRecDepth 100000 in
theorem question_form (w : World) (bb : Nat) (s : ByteArray) (hs : s.size ≤ 2000) (hno : qOk s s.data.toList = false) :
    Calls Tryz.prog 68 #[.pointer (some ⟨bb, 0, none⟩), .string s] w fun e w' => e = .returned (.tuple #[.agg zA.toArray, .agg zS.toArray, .int .i64 2, .int .i64 (posOf s (qRest s s.data.toList) : Nat)]) ∧ Below w.heap.size w w' := by
  have hq : ¬ ((2000 : Int) < (s.size : Int)) := by omega
  have HR := hid (fun W => readQuestion_no W s hs hno)
  have hP0 := new_one w zA 80 zS 141
  have hQ0 := new_two w (.cells zA.toArray 80) zS 141
  have hB0 : Below w.heap.size w ((w.alloc (.cells zA.toArray 80)).alloc (.cells zS.toArray 141)) := ((Below.refl _ w).alloc (Nat.le_refl _) _).alloc (by simp) _
  obtain ⟨p, HPO⟩ : ∃ p, Hid (posOf s (qRest s s.data.toList) = p) := ⟨_, rfl⟩
  rw [HPO.out]
  go_enter Tryz.func68, Tryz.ntmps68
  go_wp2_with fail
  refine (HR.out _).mono ?_
  rintro e w1 ⟨he, hB1⟩
  rw [HPO.out] at he
  subst he
  have hP1 := hP0.below hB1
  have hQ1 := hQ0.below hB1
  have fP := hP1.frozen
  have fQ := hQ1.frozen
  obtain ⟨a0, a1, a2, a3, a4⟩ := hP1.c5
  obtain ⟨s0, s1, s2, s3, s4⟩ := hQ1.c5
  have hz1 := hP1.lt
  have hz2 := hQ1.lt
  have hz3 : w.heap.size < w1.heap.size + 1 := by omega
  have hz4 : w.heap.size + 1 < w1.heap.size + 1 := by omega
  have hBw1 : Below w.heap.size w w1 := hB0.trans (hB1.mono (by simp; omega))
  clear hP0 hQ0 hB0 hP1 hQ1 HR
  unfold zA zS
  go_wp2_with fail
  refine bodyPost_ret (v := .tuple #[.agg zA.toArray, .agg zS.toArray, .int .i64 2, .int .i64 (p : Nat)]) (by simp [results, Tryz.results68, go_sem, zA, zS, *]) rfl ⟨rfl, ?_⟩
  refine Below.alloc ?_ (by simp; omega) _
  refine Below.alloc ?_ (by simp; omega) _
  repeat (refine Below.setCell ?_ (by simp only []; omega) _)
  exact hBw1

end Go.Proofs.YtpbfiffgcgnidaaGreatDoor
