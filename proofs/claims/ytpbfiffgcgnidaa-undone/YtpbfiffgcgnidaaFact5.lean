/-
  OUR OWN. A ground question that has the form.
-/
import Derived.Test.YtpbfiffgcgnidaaFact4
namespace Go.Proofs.Ytpbfiffgcgnidaa
open Go.RowKit Go.WideMaps Go.Maps
attribute [local go_sem] drewN_alloc drewN_setCell

set_option maxHeartbeats 1000000 in
set_option maxRecDepth 100000 in
theorem containsCl_c (w : World) (base : Nat) (ao : Option Addr) (cap : Nat) (ds : List ClD) (hP : ClausesIs w base (.slice ao ds.length cap) ds) (hW : ∀ d ∈ ds, d.WF) (hn : ds.length ≤ 40) (B : Nat) (an : List UInt8) (ats : List (List UInt8)) (hA : Blk w B (atomCells an ats) 48) :
    Calls Try.prog 18 #[.slice ao ds.length cap, .func (.func 30) #[] #[.pointer (some ⟨B, 0, none⟩)]] w fun e w' => e = .returned (.bool (decide (0 ≤ idx an ats ds))) ∧ Below w.heap.size w w' := by
  have HI := hid (indexCl_c w base ao cap ds hP hW hn B an ats hA)
  generalize idx an ats ds = k at *
  go_enter Try.func18, Try.ntmps18
  go_wp2_with fail
  refine (HI.out).mono ?_
  rintro e w1 ⟨rfl, hB1⟩
  go_wp2_with fail
  go_ret
  exact ⟨rfl, hB1⟩

def qAtom (s : ByteArray) : AtR := atomR s s.data.toList

set_option maxHeartbeats 400000 in
set_option maxRecDepth 100000 in
theorem readQuestion_ok (w : World) (s : ByteArray) (hs : s.size ≤ 2000) (hok : (qAtom s).ok = true) (hend : (skipL (qAtom s).rest).isEmpty = true) :
    Calls Try.prog 40 #[.string s] w fun e w' => e = .returned (.tuple #[.agg (atomCells (qAtom s).name (qAtom s).ts).toArray, .agg (spotCells 0 (qAtom s).np (qAtom s).ps).toArray, .int .i64 0, .bool true]) ∧ Below w.heap.size w w' := by
  have hsm : s.size ≤ maxLen := by unfold maxLen; omega
  have hRb := Blk.new ((w.alloc (.cells zA.toArray 48)).alloc (.cells zS.toArray 73)) [.string s, .int .i64 0] 80
  have hsz : ((w.alloc (.cells zA.toArray 48)).alloc (.cells zS.toArray 73)).heap.size = w.heap.size + 1 + 1 := by simp
  rw [hsz] at hRb
  have hR0 : Rd (((w.alloc (.cells zA.toArray 48)).alloc (.cells zS.toArray 73)).alloc (.cells #[.string s, .int .i64 0] 80)) (w.heap.size + 1 + 1) s s.data.toList := ⟨0, by omega, by simp, hRb⟩
  have hP0 := ((Blk.new w zA 48).alloc (.cells zS.toArray 73)).alloc (.cells #[.string s, .int .i64 0] 80)
  have hQ0 := (new_two w (.cells zA.toArray 48) zS 73).alloc (.cells #[.string s, .int .i64 0] 80)
  have hB0 : Below w.heap.size w (((w.alloc (.cells zA.toArray 48)).alloc (.cells zS.toArray 73)).alloc (.cells #[.string s, .int .i64 0] 80)) := (((Below.refl _ w).alloc (Nat.le_refl _) _).alloc (by simp) _).alloc (by simp; omega) _
  clear hRb hsz
  have HAL := hid (atom_l _ (w.heap.size + 1 + 1) s s.data.toList hR0 (by omega))
  obtain ⟨A, HA⟩ : ∃ A, Hid (A = qAtom s) := ⟨_, rfl⟩
  rw [← HA.out] at hok hend ⊢
  have HAE : Hid (atomR s s.data.toList = A) := HA.out.symm
  have HQ0 := hid hQ0
  have HP0 := hid hP0
  have HB0 := hid hB0
  clear hR0 hQ0 hP0 hB0
  go_enter Try.func40, Try.ntmps40
  go_wp2_with fail
  refine (HAL.out).mono ?_
  rintro e w1 ⟨he, hR1, hK1⟩
  rw [HAE.out] at he hR1
  rw [AtR.val_eq, hok] at he
  subst he
  have hb1 : w.heap.size + 1 + 1 < w1.heap.size := hR1.lt
  have hP1 := HP0.out.kept hK1 (by omega)
  have hQ1 := HQ0.out.kept hK1 (by omega)
  have hBw1 : Below w.heap.size w w1 := HB0.out.trans (hK1.below (by omega) (by simp; omega))
  clear HAL HB0 HP0 HQ0
  have hC1 := new_one w1 [.string A.nm, .int .i64 A.cn, .string (A.t 0), .string (A.t 1), .string (A.t 2)] 48 [.int .i64 0, .int .i64 A.np', .int .i64 (A.p 0), .int .i64 (A.p 1), .int .i64 (A.p 2)] 73
  have hS1 := new_two w1 (.cells #[.string A.nm, .int .i64 A.cn, .string (A.t 0), .string (A.t 1), .string (A.t 2)] 48) [.int .i64 0, .int .i64 A.np', .int .i64 (A.p 0), .int .i64 (A.p 1), .int .i64 (A.p 2)] 73
  have HE1 := hid (atEnd_l _ (w.heap.size + 1 + 1) s A.rest ((hR1.alloc (.cells #[.string A.nm, .int .i64 A.cn, .string (A.t 0), .string (A.t 1), .string (A.t 2)] 48)).alloc (.cells #[.int .i64 0, .int .i64 A.np', .int .i64 (A.p 0), .int .i64 (A.p 1), .int .i64 (A.p 2)] 73)) hsm)
  rw [hend] at HE1
  have HC1 := hid hC1
  have HS1 := hid hS1
  have HP1 := hid ((hP1.alloc (.cells #[.string A.nm, .int .i64 A.cn, .string (A.t 0), .string (A.t 1), .string (A.t 2)] 48)).alloc (.cells #[.int .i64 0, .int .i64 A.np', .int .i64 (A.p 0), .int .i64 (A.p 1), .int .i64 (A.p 2)] 73))
  have HQ1 := hid ((hQ1.alloc (.cells #[.string A.nm, .int .i64 A.cn, .string (A.t 0), .string (A.t 1), .string (A.t 2)] 48)).alloc (.cells #[.int .i64 0, .int .i64 A.np', .int .i64 (A.p 0), .int .i64 (A.p 1), .int .i64 (A.p 2)] 73))
  have HB1 := hid ((hBw1.alloc (by omega) (.cells #[.string A.nm, .int .i64 A.cn, .string (A.t 0), .string (A.t 1), .string (A.t 2)] 48)).alloc (by simp; omega) (.cells #[.int .i64 0, .int .i64 A.np', .int .i64 (A.p 0), .int .i64 (A.p 1), .int .i64 (A.p 2)] 73))
  clear hC1 hS1 hP1 hQ1 hBw1 hend hok hK1 hR1 HA HAE
  go_wp2_with fail
  refine (HE1.out).mono ?_
  rintro e w2 ⟨rfl, hR2, hK2⟩
  have hb2 : w1.heap.size + 1 < w2.heap.size := (HS1.out.kept hK2 (by omega)).lt
  obtain ⟨c0, c1, c2, c3, c4⟩ := (HC1.out.kept hK2 (by omega)).c5
  obtain ⟨d0, d1, d2, d3, d4⟩ := (HS1.out.kept hK2 (by omega)).c5
  have hP2 := HP1.out.kept hK2 (by omega)
  have hQ2 := HQ1.out.kept hK2 (by omega)
  have fP := hP2.frozen
  have fQ := hQ2.frozen
  have HB2 := hid (HB1.out.trans (hK2.below (by omega) (by simp; omega)))
  clear HE1 HC1 HS1 HP1 HQ1 HB1 hK2 hR2
  obtain ⟨a0, a1, a2, a3, a4⟩ := hP2.c5
  obtain ⟨s0, s1, s2, s3, s4⟩ := hQ2.c5
  clear hP2 hQ2
  have hz1 : w.heap.size < w1.heap.size := by omega
  have hz2 : w.heap.size + 1 < w1.heap.size := by omega
  have hz3 : w.heap.size < w1.heap.size + 1 := by omega
  have hz4 : w.heap.size + 1 < w1.heap.size + 1 := by omega
  go_wp2_with fail
  go_region
  go_wp2
  refine bodyPost_ret (v := .tuple #[.agg #[.string A.nm, .int .i64 A.cn, .string (A.t 0), .string (A.t 1), .string (A.t 2)], .agg #[.int .i64 0, .int .i64 A.np', .int .i64 (A.p 0), .int .i64 (A.p 1), .int .i64 (A.p 2)], .int .i64 0, .bool true]) (by simp [results, Try.results40, go_sem, a0, a1, a2, a3, a4, s0, s1, s2, s3, s4]) rfl ⟨rfl, ?_⟩
  refine Below.drew ?_
  repeat (refine Below.setCell ?_ (by simp only []; omega) _)
  exact HB2.out

end Go.Proofs.Ytpbfiffgcgnidaa
