/-
  OUR OWN. Undone.
-/
import Derived.Test.YtpbfiffgcgnidaaUndo1
namespace Go.Proofs.Ytpbfiffgcgnidaa
open Go.RowKit Go.WideMaps Go.Maps
attribute [local go_sem] drewN_alloc drewN_setCell

theorem blk_put (g : Nat) (t : TypeId) (vs : List Value) (w : World) (pre old : List Value) (h : Blk w g (pre ++ old) t) (hl : old.length = vs.length) : Blk (w.setCells g pre.length vs) g (pre ++ vs) t := by
  induction vs generalizing w pre old with
  | nil => cases old with
    | nil => exact h
    | cons x r => simp at hl
  | cons v r ih =>
    cases old with
    | nil => simp at hl
    | cons x xs =>
      have h1 := h.setCell pre.length v
      rw [List.set_append_right _ _ (Nat.le_refl _), Nat.sub_self, List.set_cons_zero] at h1
      have h2 := ih (w.setCell ⟨g, pre.length, none⟩ v) (pre ++ [v]) xs (by simpa using h1) (by simpa using hl)
      simpa [World.setCells] using h2
/-- A block of n cells laid and filled. -/
theorem laid_row (w : World) (cs vs : List Value) (t : TypeId) (hl : cs.length = vs.length) : Blk ((w.alloc (.cells cs.toArray t)).setCells w.heap.size 0 vs) w.heap.size vs t ∧ Below w.heap.size w ((w.alloc (.cells cs.toArray t)).setCells w.heap.size 0 vs) := by
  refine ⟨blk_put w.heap.size t vs _ [] cs (Blk.new w cs t) hl, ?_⟩
  exact (below_alloc w _).trans ((kept_sets w.heap.size vs 0 _).below (Nat.le_refl _) (by simp))
theorem store_row (w : World) (cs vs : List Value) (t : TypeId) (hl : cs.length = vs.length) (h1 : ∀ v ∈ vs, v.oneCell' = true) : (storeCells ⟨w.heap.size, 0, none⟩ vs).run Try.prog (w.alloc (.cells cs.toArray t)) = .ok () ((w.alloc (.cells cs.toArray t)).setCells w.heap.size 0 vs) := by
  have hB := Blk.new w cs t
  have h := run_storeCells_cells (P := Try.prog) w.heap.size 0 vs 0 (w.alloc (.cells cs.toArray t))
    (by intro j hj; rw [hB.cell]; simp; omega) (by intro j hj; exact hB.frozen _) h1
  exact h
theorem storedGraph (w : World) (q : List Bool) (hq : q.length = 16) : ∃ w', (storeCells ⟨w.heap.size, 0, none⟩ (gCells q)).run Try.prog (w.alloc (.cells #[.bool false, .bool false, .bool false, .bool false, .bool false, .bool false, .bool false, .bool false, .bool false, .bool false, .bool false, .bool false, .bool false, .bool false, .bool false, .bool false] 26)) = .ok () w' ∧ Blk w' w.heap.size (gCells q) 26 ∧ Below w.heap.size w w' := by
  have hl : (List.replicate 16 (Value.bool false)).length = (gCells q).length := by simp [gCells, hq]
  have h1 : ∀ v ∈ gCells q, v.oneCell' = true := by
    intro v hv
    simp only [gCells, List.mem_map] at hv
    obtain ⟨b, _, rfl⟩ := hv
    rfl
  exact ⟨_, store_row w (List.replicate 16 (.bool false)) (gCells q) _ hl h1, laid_row w (List.replicate 16 (.bool false)) (gCells q) _ hl⟩

def g16 (q : List Bool) : List Value := [.bool (qAt q 0), .bool (qAt q 1), .bool (qAt q 2), .bool (qAt q 3), .bool (qAt q 4), .bool (qAt q 5), .bool (qAt q 6), .bool (qAt q 7), .bool (qAt q 8), .bool (qAt q 9), .bool (qAt q 10), .bool (qAt q 11), .bool (qAt q 12), .bool (qAt q 13), .bool (qAt q 14), .bool (qAt q 15)]
theorem gCells_16 (q : List Bool) (hq : q.length = 16) : gCells q = g16 q := by
  match q, hq with
  | [q0, q1, q2, q3, q4, q5, q6, q7, q8, q9, q10, q11, q12, q13, q14, q15], _ => rfl

set_option maxHeartbeats 4000000 in
set_option maxRecDepth 100000 in
theorem undone_c (w : World) (ao : Option Addr) (n cap : Nat) (c m : Int) (hn : n ≤ maxLen) (hc : Ints w ao n) (h1 : -9223372036854775808 ≤ c) (h2 : c ≤ 9223372036854775807) (h3 : -9223372036854775808 ≤ m) (h4 : m ≤ 9223372036854775807) :
    Calls Try.prog 4 #[.slice ao n cap, .int .i64 c, .int .i64 m] w fun e w' => e = .returned (.bool true) ∧ Below w.heap.size w w' := by
  have hp := pickN_lt c 4 (by decide)
  have hpk := pickN_lt m 16 (by decide)
  have hpc := fun W => pick_c m 16 W h3 h4 (by decide) (by decide)
  have hrc := fun W => rules_c W c h1 h2
  have hfit := fun q => ufit q (pickN c 4) (pickN m 16) hp hpk
  generalize pickN c 4 = v at *
  generalize pickN m 16 = k at *
  have HPC := hid hpc
  have HRC := hid hrc
  have HF := hid hfit
  clear hpc hrc hfit
  go_enter Try.func4, Try.ntmps4
  go_wp2_with fail
  refine (edges_c _ ao n cap hn hc).mono ?_
  rintro e w1 ⟨q, hq, rfl, hB1⟩
  have hgl : (gCells q).length = 16 := by simp [gCells, hq]
  obtain ⟨w2, hst, hG2, hB2⟩ := storedGraph w1 q hq
  have hG3 := hG2
  rw [gCells_16 q hq] at hG3
  have g0 : w2.cell? ⟨w1.heap.size, 0, none⟩ = some (.bool (qAt q 0)) := hG3.cell 0
  have g1 : w2.cell? ⟨w1.heap.size, 1, none⟩ = some (.bool (qAt q 1)) := hG3.cell 1
  have g2 : w2.cell? ⟨w1.heap.size, 2, none⟩ = some (.bool (qAt q 2)) := hG3.cell 2
  have g3 : w2.cell? ⟨w1.heap.size, 3, none⟩ = some (.bool (qAt q 3)) := hG3.cell 3
  have g4 : w2.cell? ⟨w1.heap.size, 4, none⟩ = some (.bool (qAt q 4)) := hG3.cell 4
  have g5 : w2.cell? ⟨w1.heap.size, 5, none⟩ = some (.bool (qAt q 5)) := hG3.cell 5
  have g6 : w2.cell? ⟨w1.heap.size, 6, none⟩ = some (.bool (qAt q 6)) := hG3.cell 6
  have g7 : w2.cell? ⟨w1.heap.size, 7, none⟩ = some (.bool (qAt q 7)) := hG3.cell 7
  have g8 : w2.cell? ⟨w1.heap.size, 8, none⟩ = some (.bool (qAt q 8)) := hG3.cell 8
  have g9 : w2.cell? ⟨w1.heap.size, 9, none⟩ = some (.bool (qAt q 9)) := hG3.cell 9
  have g10 : w2.cell? ⟨w1.heap.size, 10, none⟩ = some (.bool (qAt q 10)) := hG3.cell 10
  have g11 : w2.cell? ⟨w1.heap.size, 11, none⟩ = some (.bool (qAt q 11)) := hG3.cell 11
  have g12 : w2.cell? ⟨w1.heap.size, 12, none⟩ = some (.bool (qAt q 12)) := hG3.cell 12
  have g13 : w2.cell? ⟨w1.heap.size, 13, none⟩ = some (.bool (qAt q 13)) := hG3.cell 13
  have g14 : w2.cell? ⟨w1.heap.size, 14, none⟩ = some (.bool (qAt q 14)) := hG3.cell 14
  have g15 : w2.cell? ⟨w1.heap.size, 15, none⟩ = some (.bool (qAt q 15)) := hG3.cell 15
  have HFC : Hid (∀ W : World, Calls Try.prog 6 #[.agg #[.bool (qAt q 0), .bool (qAt q 1), .bool (qAt q 2), .bool (qAt q 3), .bool (qAt q 4), .bool (qAt q 5), .bool (qAt q 6), .bool (qAt q 7), .bool (qAt q 8), .bool (qAt q 9), .bool (qAt q 10), .bool (qAt q 11), .bool (qAt q 12), .bool (qAt q 13), .bool (qAt q 14), .bool (qAt q 15)], .string ⟨#[101, 100, 103, 101]⟩] W fun e w' => ∃ v, e = .returned v ∧ w'.ownsRow W.heap.size 9 1 v (factsTo q 16).length (strs (factsTo q 16)) ∧ Below W.heap.size W w') := by
    intro W
    have h := facts_c W q hq
    rw [gCells_16 q hq] at h
    exact h
  go_wp2_with fail
  clear g0 g1 g2 g3 g4 g5 g6 g7 g8 g9 g10 g11 g12 g13 g14 g15 hG3 hst
  refine (HFC.out _).mono ?_
  rintro e w3 ⟨fv, rfl, ho, hB3⟩
  have hfit := HF.out q
  clear HF HFC
  have hG3 := hG2.below hB3
  have hcell := fun (W : World) (h : Blk W w1.heap.size (gCells q) 26) => (show W.cell? ⟨w1.heap.size, k, none⟩ = some (.bool (qAt q k)) by rw [h.cell]; simp [gCells, qAt, show k < q.length by omega])
  have HCE := hid hcell
  have HGB := hid hG3
  clear hcell hG2 hG3
  generalize hP : printedP q v = P at hfit
  generalize hR : rulesT v = R at hfit HRC
  generalize hD : (programR (bs (givenT q v))).cls = D at hfit
  generalize factsTo q 16 = fs at *
  generalize D ++ [factC (k / 4, k % 4)] = D' at hfit
  generalize qAt q k = fd at *
  clear hP hR hD
  have HL1 := hid hfit.load1
  have HP1 := hid hfit.print1
  have HP2 := hid hfit.print2
  have HT1 := hid hfit.twice1
  have HT2 := hid hfit.twice2
  have HM1 := hid hfit.more1
  have HGO := hid hfit.gone
  have HNO := hid hfit.none
  have hPl := hfit.len
  have hTl := hfit.text
  have hRl := hfit.rules
  have hwo := hfit.words
  have hfa := hfit.facts
  clear hfit
  obtain ⟨fo, fcap, rfl⟩ := own_form ho
  have hs1 : (bs (textR fs)).size = (textR fs).length := bs_size' _
  have hs2 : (bs R).size = R.length := bs_size' _
  have hs3 : (bs P).size = P.length := bs_size' _
  go_wp2_with fail
  refine (text_c _ w2.heap.size fo fcap fs ho hwo hfa).mono ?_
  rintro e wx ⟨rfl, hwx⟩
  subst wx
  go_wp2_with fail
  refine (HRC.out _).mono ?_
  rintro e wx ⟨rfl, hwx⟩
  subst wx
  go_wp2_with fail
  refine (HL1.out _).mono ?_
  rintro e w4 ⟨bb, rfl, hbb, hI4, hB4⟩
  go_wp2_with fail
  refine (HPC.out _).mono ?_
  rintro e wx ⟨rfl, hwx⟩
  subst wx
  have hk4 : k / 4 < 4 := by omega
  have hk5 : k % 4 < 4 := by omega
  have hd1 : ((k / 4 : Nat) : Int) = (k : Int) / 4 := by omega
  have hd2 : ((k % 4 : Nat) : Int) = (k : Int) % 4 := by omega
  have HN1 : Hid (∀ W : World, Calls Try.prog 12 #[.int .i64 ((k : Int) / 4)] W fun e w' => e = .returned (.string (bs (nodeB (k / 4)))) ∧ w' = W) := by
    intro W
    rw [← hd1]
    exact node_c (k / 4) hk4 W
  have HN2 : Hid (∀ W : World, Calls Try.prog 12 #[.int .i64 ((k : Int) % 4)] W fun e w' => e = .returned (.string (bs (nodeB (k % 4)))) ∧ w' = W) := by
    intro W
    rw [← hd2]
    exact node_c (k % 4) hk5 W
  have hz1 : (bs (nodeB (k / 4))).size = 1 := rfl
  have hz2 : (bs (nodeB (k % 4))).size = 1 := rfl
  clear hd1 hd2
  go_wp2_with fail
  refine (HN1.out _).mono ?_
  rintro e wx ⟨rfl, hwx⟩
  subst wx
  go_wp2_with fail
  refine (HN2.out _).mono ?_
  rintro e wx ⟨rfl, hwx⟩
  subst wx
  go_wp2_with fail
  refine (HP1.out _ _ _ hI4).mono ?_
  rintro e w5 ⟨rfl, hB5⟩
  go_wp2_with fail
  obtain ⟨F, HFB⟩ : ∃ F : ByteArray, Hid (F = ⟨#[101, 100, 103, 101, 40]⟩ ++ bs (nodeB (k / 4)) ++ ⟨#[44]⟩ ++ bs (nodeB (k % 4)) ++ ⟨#[41]⟩) := ⟨_, rfl⟩
  rw [← HFB.out]
  have hF1 : bs (factB (k / 4) (k % 4)) = F := by rw [HFB.out]; rfl
  have hF2 : bs (padB true (factB (k / 4) (k % 4))) = ⟨#[32]⟩ ++ F ++ ⟨#[32]⟩ := by rw [HFB.out]; rfl
  have hF3 : bs (P ++ (factB (k / 4) (k % 4) ++ [46, 10])) = bs P ++ F ++ ⟨#[46, 10]⟩ := by
    rw [← hF1, ByteArray.append_assoc, ← bs_append, ← bs_append]
    rfl
  have hFs : F.size = 9 := by rw [← hF1]; rfl
  rw [hF2] at HT1 HM1
  rw [hF1] at HT2 HGO HNO
  rw [hF3] at HP2
  have HP3 := HP1
  clear hF1 hF2 hF3 HFB HN1 HN2 HP1 HL1 HRC HPC hz1 hz2 hTl hRl hwo hfa ho
  have hz0 := hB1.size
  have hz1 : w1.heap.size < w3.heap.size := HGB.out.lt
  have hz4 := hB4.size
  have hz5 := hB5.size
  have HG5 := hid ((HGB.out.below hB4).below hB5)
  have hBw3 : Below w.heap.size w w3 := (hB1.trans (hB2.mono hz0)).trans (hB3.mono (Nat.le_trans hz0 hB2.size))
  have HB5 := hid ((hBw3.trans (hB4.mono hBw3.size)).trans (hB5.mono (by omega)))
  have hI5 := hI4.below hB5
  clear HGB hB1 hB2 hB3 hB4 hB5 hBw3 hI4
  have hkk : k / 4 * 4 + k % 4 = k := by omega
  cases fd
  · refine (HM1.out rfl _ _ _ hbb hI5).mono ?_
    rintro e w6 ⟨rfl, hI6, hB6⟩
    have hG6 : Blk w6 w1.heap.size (gCells q) 26 := by
      unfold Blk
      rw [hB6.block _ hz1]
      exact HG5.out
    have hce : w6.cell? ⟨w1.heap.size, k / 4 * 4 + k % 4, none⟩ = some (.bool false) := by rw [hkk]; exact HCE.out w6 hG6
    clear hG6 HCE HG5 hkk
    go_wp2_with fail
    refine (HP2.out _ _ _ hI6).mono ?_
    rintro e w7 ⟨rfl, hB7⟩
    go_wp2_with fail
    refine (HT2.out _ _ _ (hI6.below hB7)).mono ?_
    rintro e w8 ⟨rfl, hB8⟩
    go_wp2_with fail
    refine (HGO.out (by simp) _ _ _ hbb ((hI6.below hB7).below hB8)).mono ?_
    rintro e w9 ⟨rfl, hI9, hB9⟩
    go_wp2_with fail
    refine (HNO.out (by simp) _ _ _ hI9).mono ?_
    rintro e w10 ⟨rfl, hB10⟩
    go_wp2_with fail
    refine (HP3.out _ _ _ (hI9.below hB10)).mono ?_
    rintro e w11 ⟨rfl, hB11⟩
    go_wp2_with fail
    go_ret
    have hb6 : Below w.heap.size w w6 := HB5.out.trans (hB6.mono (by omega))
    have hb9 : Below w.heap.size w w9 := ((hb6.trans (hB7.mono hb6.size)).trans (hB8.mono (Nat.le_trans hb6.size hB7.size))).trans (hB9.mono (by omega))
    exact ⟨rfl, (hb9.trans (hB10.mono hb9.size)).trans (hB11.mono (Nat.le_trans hb9.size hB10.size))⟩
  · refine (HT1.out rfl _ _ _ hI5).mono ?_
    rintro e w6 ⟨rfl, hB6⟩
    have hce : w6.cell? ⟨w1.heap.size, k / 4 * 4 + k % 4, none⟩ = some (.bool true) := by rw [hkk]; exact HCE.out w6 (HG5.out.below hB6)
    clear HCE HG5 hkk
    go_wp2_with fail
    refine (HP3.out _ _ _ (hI5.below hB6)).mono ?_
    rintro e w7 ⟨rfl, hB7⟩
    go_wp2_with fail
    go_ret
    exact ⟨rfl, (HB5.out.trans (hB6.mono HB5.out.size)).trans (hB7.mono (Nat.le_trans HB5.out.size hB6.size))⟩

end Go.Proofs.Ytpbfiffgcgnidaa
