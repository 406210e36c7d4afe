/-
  OUR OWN. The statements' own small functions: pick, node, edges.
-/
import Derived.Test.YtpbfiffgcgnidaaPrintP
namespace Go.Proofs.Ytpbfiffgcgnidaa
open Go.RowKit Go.WideMaps Go.Maps
attribute [local go_sem] drewN_alloc drewN_setCell

theorem ret_int {k : IntKind} {a b : Int} (h : a = b) : Ending.returned (.int k a) = .returned (.int k b) := by rw [h]
def pickN (c : Int) (n : Nat) : Nat := ((if c < 0 then -(c + 1) else c) % (n : Int)).toNat
theorem pickN_lt (c : Int) (n : Nat) (hn : 0 < n) : pickN c n < n := by
  unfold pickN
  have h1 := Int.emod_lt_of_pos (if c < 0 then -(c + 1) else c) (show (0 : Int) < n by omega)
  have h2 := Int.emod_nonneg (if c < 0 then -(c + 1) else c) (show (n : Int) ≠ 0 by omega)
  omega
theorem pickN_cast (c : Int) (n : Nat) (hn : 0 < n) : ((pickN c n : Nat) : Int) = (if c < 0 then -(c + 1) else c) % (n : Int) := by
  unfold pickN
  have h2 := Int.emod_nonneg (if c < 0 then -(c + 1) else c) (show (n : Int) ≠ 0 by omega)
  omega

set_option maxHeartbeats 400000 in
theorem pick_c (c : Int) (n : Nat) (w : World) (h1 : -9223372036854775808 ≤ c) (h2 : c ≤ 9223372036854775807) (hn : 0 < n) (hn2 : n ≤ 1000) :
    Calls Try.prog 11 #[.int .i64 c, .int .i64 (n : Int)] w fun e w' => e = .returned (.int .i64 (pickN c n : Nat)) ∧ w' = w := by
  have hn0 : ((n : Int) == 0) = false := by rw [beq_eq_false_iff_ne]; omega
  by_cases hc : c < 0
  · go_enter Try.func11, Try.ntmps11
    go_wp2
    go_ret
    refine ⟨ret_int ?_, rfl⟩
    rw [pickN_cast c n hn, if_pos hc, ← Int.neg_tmod, Int.tmod_eq_emod_of_nonneg (by omega)]
  · go_enter Try.func11, Try.ntmps11
    go_wp2
    go_ret
    refine ⟨ret_int ?_, rfl⟩
    rw [pickN_cast c n hn, if_neg (by omega)]

def nodeB (k : Nat) : List UInt8 := [UInt8.ofNat (97 + k)]
set_option maxHeartbeats 400000 in
theorem node_c (k : Nat) (hk : k < 4) (w : World) : Calls Try.prog 12 #[.int .i64 (k : Int)] w fun e w' => e = .returned (.string (bs (nodeB k))) ∧ w' = w := by
  have h : k = 0 ∨ k = 1 ∨ k = 2 ∨ k = 3 := by omega
  rcases h with rfl | rfl | rfl | rfl
  all_goals
    go_enter Try.func12, Try.ntmps12
    go_wp2
    go_ret
    exact ⟨rfl, rfl⟩

/-- The cells of a graph. -/
def gCells (q : List Bool) : List Value := q.map Value.bool
def Ints (w : World) (ao : Option Addr) (n : Nat) : Prop := ∀ i, i < n → ∃ b off z, ao = some ⟨b, off, none⟩ ∧ b < w.heap.size ∧ w.cell? ⟨b, off + i, none⟩ = some (.int .i64 z) ∧ -9223372036854775808 ≤ z ∧ z ≤ 9223372036854775807
def zG : List Value := gCells (List.replicate 16 false)

def GB (w : World) (b : Nat) : Prop := ∃ q : List Bool, q.length = 16 ∧ Blk w b (gCells q) 26
theorem GB.set {w : World} {b : Nat} {q : List Bool} (h : Blk w b (gCells q) 26) (hq : q.length = 16) (k : Nat) (x : Bool) : GB ((w.setCell ⟨b, k, none⟩ (.bool x)).drew) b := by
  refine ⟨q.set k x, by simpa using hq, ?_⟩
  have := h.setCell k (.bool x)
  unfold gCells at *
  rw [List.map_set]
  exact this

set_option maxHeartbeats 4000000 in
set_option maxRecDepth 100000 in
theorem edges_c (w : World) (ao : Option Addr) (n cap : Nat) (hn : n ≤ maxLen) (hc : Ints w ao n) :
    Calls Try.prog 5 #[.slice ao n cap] w fun e w' => ∃ q : List Bool, q.length = 16 ∧ e = .returned (.agg (gCells q).toArray) ∧ Below w.heap.size w w' := by
  have hn' := hn
  unfold maxLen at hn'
  go_enter Try.func5, Try.ntmps5
  go_wp2
  go_loopw [4] (fun iv wr => ∃ (i : Nat), i ≤ n ∧ iv = .int .i64 i ∧ Blk wr w.heap.size zG 26 ∧ GB wr (w.heap.size + 1) ∧ Below w.heap.size w wr) (fun iv _ => n - (intOf iv).toNat)
  case atStart => exact ⟨0, by omega, rfl, new_one w zG 26 zG 26, ⟨List.replicate 16 false, by simp, new_two w _ zG 26⟩, ((Below.refl _ _).alloc (Nat.le_refl _) _).alloc (by simp) _⟩
  case round =>
    obtain ⟨i, hi, rfl, hR, ⟨q, hql, hG⟩, hB⟩ := hrel
    have hgw : w.heap.size + 1 < wr.heap.size := hG.lt
    by_cases hlt : i < n
    · obtain ⟨b, off, z, rfl, hb, hz, hz1, hz2⟩ := hc i hlt
      rw [← hB.cell (p := ⟨b, off + i, none⟩) hb] at hz
      have hp := pickN_lt z 16 (by decide)
      obtain ⟨k, HK⟩ : ∃ k, Hid (k = pickN z 16) := ⟨_, rfl⟩
      rw [← HK.out] at hp
      have fG := hG.frozen
      match q, hql with
      | [q0, q1, q2, q3, q4, q5, q6, q7, q8, q9, q10, q11, q12, q13, q14, q15], _ =>
        have g0 := hG.cell 0; have g1 := hG.cell 1; have g2 := hG.cell 2; have g3 := hG.cell 3
        have g4 := hG.cell 4; have g5 := hG.cell 5; have g6 := hG.cell 6; have g7 := hG.cell 7
        have g8 := hG.cell 8; have g9 := hG.cell 9; have g10 := hG.cell 10; have g11 := hG.cell 11
        have g12 := hG.cell 12; have g13 := hG.cell 13; have g14 := hG.cell 14; have g15 := hG.cell 15
        simp [gCells] at g0 g1 g2 g3 g4 g5 g6 g7 g8 g9 g10 g11 g12 g13 g14 g15
        have hpc := pick_c z 16
        rw [← HK.out] at hpc
        have HPC := hid hpc
        clear hpc
        have h16 : k = 0 ∨ k = 1 ∨ k = 2 ∨ k = 3 ∨ k = 4 ∨ k = 5 ∨ k = 6 ∨ k = 7 ∨ k = 8 ∨ k = 9 ∨ k = 10 ∨ k = 11 ∨ k = 12 ∨ k = 13 ∨ k = 14 ∨ k = 15 := by omega
        clear hp HK
        rcases h16 with rfl | rfl | rfl | rfl | rfl | rfl | rfl | rfl | rfl | rfl | rfl | rfl | rfl | rfl | rfl | rfl
        all_goals
          go_wp2_with (go_at_call 11; refine (HPC.out _ hz1 hz2 (by decide) (by decide)).mono ?_; rintro e w' ⟨rfl, rfl⟩)
        all_goals go_region
        all_goals go_wp2_with fail
        all_goals
          exact ⟨⟨i + 1, hlt, by go_num, Blk.drew (hR.setOther ⟨w.heap.size + 1, _, none⟩ _ (by simp only [ne_eq]; omega)), GB.set hG rfl _ _, (hB.setCell (p := ⟨w.heap.size + 1, _, none⟩) (by simp only []; omega) _).drew⟩, by simp [intOf]; omega⟩
    · match q, hql with
      | [q0, q1, q2, q3, q4, q5, q6, q7, q8, q9, q10, q11, q12, q13, q14, q15], _ =>
        have fR := hR.frozen
        have g0 := hG.cell 0; have g1 := hG.cell 1; have g2 := hG.cell 2; have g3 := hG.cell 3
        have g4 := hG.cell 4; have g5 := hG.cell 5; have g6 := hG.cell 6; have g7 := hG.cell 7
        have g8 := hG.cell 8; have g9 := hG.cell 9; have g10 := hG.cell 10; have g11 := hG.cell 11
        have g12 := hG.cell 12; have g13 := hG.cell 13; have g14 := hG.cell 14; have g15 := hG.cell 15
        have r0 := hR.cell 0; have r1 := hR.cell 1; have r2 := hR.cell 2; have r3 := hR.cell 3
        have r4 := hR.cell 4; have r5 := hR.cell 5; have r6 := hR.cell 6; have r7 := hR.cell 7
        have r8 := hR.cell 8; have r9 := hR.cell 9; have r10 := hR.cell 10; have r11 := hR.cell 11
        have r12 := hR.cell 12; have r13 := hR.cell 13; have r14 := hR.cell 14; have r15 := hR.cell 15
        simp [gCells] at g0 g1 g2 g3 g4 g5 g6 g7 g8 g9 g10 g11 g12 g13 g14 g15
        simp [zG, gCells] at r0 r1 r2 r3 r4 r5 r6 r7 r8 r9 r10 r11 r12 r13 r14 r15
        go_wp2
        refine bodyPost_ret (v := .agg (gCells [q0, q1, q2, q3, q4, q5, q6, q7, q8, q9, q10, q11, q12, q13, q14, q15]).toArray) (by simp [results, Try.results5, go_sem, gCells, r0, r1, r2, r3, r4, r5, r6, r7, r8, r9, r10, r11, r12, r13, r14, r15]) rfl ⟨_, rfl, rfl, ?_⟩
        repeat (refine Below.setCell ?_ (by simp only []; omega) _)
        exact hB

end Go.Proofs.Ytpbfiffgcgnidaa
