/-
  OUR OWN. Printed.
-/
import Derived.Test.YtpbfiffgcgnidaaPlain2
namespace Go.Proofs.Ytpbfiffgcgnidaa
open Go.RowKit Go.WideMaps Go.Maps
attribute [local go_sem] drewN_alloc drewN_setCell

theorem facts_words (q : List Bool) : ∀ f ∈ factsTo q 16, f.length ≤ 20 := by
  intro f hf
  rw [facts_pairs, List.mem_map] at hf
  obtain ⟨p, _, rfl⟩ := hf
  simp [factB, nodeB]
/-- Both loads and both prints. -/
theorem load_given (q : List Bool) (v : Nat) (hv : v < 4) (W : World) :
    Calls Try.prog 7 #[.string (bs (textR (factsTo q 16)) ++ bs (rulesT v))] W fun e w' => ∃ bb, e = .returned (.pointer (some ⟨bb, 0, none⟩)) ∧ BaseIs w' W.heap.size bb (programR (bs (givenT q v))).cls ∧ Below W.heap.size W w' := by
  rw [bs_append]
  have h := given_len q v hv
  exact loaded_c W (bs (givenT q v)) (by rw [bs_size']; unfold maxLen; omega) (given_ok q v hv).1
theorem load_printed (q : List Bool) (v : Nat) (hv : v < 4) (W : World) :
    Calls Try.prog 7 #[.string (bs (printedP q v))] W fun e w' => ∃ bb, e = .returned (.pointer (some ⟨bb, 0, none⟩)) ∧ BaseIs w' W.heap.size bb (programR (bs (printedP q v))).cls ∧ Below W.heap.size W w' := by
  have h := printed_len q v hv
  exact loaded_c W (bs (printedP q v)) (by rw [bs_size']; unfold maxLen; omega) (printed_ok q v hv).1
theorem print_given (q : List Bool) (v : Nat) (hv : v < 4) (W : World) (base bb : Nat) (h : BaseIs W base bb (programR (bs (givenT q v))).cls) :
    Calls Try.prog 10 #[.pointer (some ⟨bb, 0, none⟩)] W fun e w' => e = .returned (.string (bs (printedP q v))) ∧ Below W.heap.size W w' := by
  have := print_c W base bb _ h (programR_wf _).2 (programR_wf _).1
  rw [(given_ok q v hv).2] at this
  exact this
theorem print_printed (q : List Bool) (v : Nat) (hv : v < 4) (W : World) (base bb : Nat) (h : BaseIs W base bb (programR (bs (printedP q v))).cls) :
    Calls Try.prog 10 #[.pointer (some ⟨bb, 0, none⟩)] W fun e w' => e = .returned (.string (bs (printedP q v))) ∧ Below W.heap.size W w' := by
  have := print_c W base bb _ h (programR_wf _).2 (programR_wf _).1
  rw [(printed_ok q v hv).2] at this
  exact this

/-- What Printed needs of what it loads and prints. -/
structure Fit (fs : List (List UInt8)) (R P : List UInt8) (D1 D2 : List ClD) (v : Nat) : Prop where
  load1 : ∀ W : World, Calls Try.prog 7 #[.string (bs (textR fs) ++ bs R)] W fun e w' => ∃ bb, e = .returned (.pointer (some ⟨bb, 0, none⟩)) ∧ BaseIs w' W.heap.size bb D1 ∧ Below W.heap.size W w'
  load2 : ∀ W : World, Calls Try.prog 7 #[.string (bs P)] W fun e w' => ∃ bb, e = .returned (.pointer (some ⟨bb, 0, none⟩)) ∧ BaseIs w' W.heap.size bb D2 ∧ Below W.heap.size W w'
  print1 : ∀ (W : World) (base bb : Nat), BaseIs W base bb D1 → Calls Try.prog 10 #[.pointer (some ⟨bb, 0, none⟩)] W fun e w' => e = .returned (.string (bs P)) ∧ Below W.heap.size W w'
  print2 : ∀ (W : World) (base bb : Nat), BaseIs W base bb D2 → Calls Try.prog 10 #[.pointer (some ⟨bb, 0, none⟩)] W fun e w' => e = .returned (.string (bs P)) ∧ Below W.heap.size W w'
  len : P.length ≤ 2000
  text : (textR fs).length ≤ 400
  rules : R.length ≤ 400
  words : ∀ f ∈ fs, f.length ≤ 20
  facts : fs.length ≤ 16
  blanks : ∀ c ∈ P, c ≠ 32
  lines : P.count 10 = fs.length + more v
  pre : ∃ r, P = beginR fs ++ r
theorem fit (q : List Bool) (v : Nat) (hv : v < 4) : Fit (factsTo q 16) (rulesT v) (printedP q v) (programR (bs (givenT q v))).cls (programR (bs (printedP q v))).cls v := by
  have h1 := printed_lines q v hv
  have h2 := pairs_len q
  refine ⟨load_given q v hv, load_printed q v hv, print_given q v hv, print_printed q v hv, printed_len q v hv, ?_, (Ru_shown v hv).2.2.2, facts_words q, ?_, ?_, h1.2, ⟨RuP v, ?_⟩⟩
  · rw [text_pairs, factsW_len]; omega
  · rw [facts_pairs, List.length_map]; exact h2
  · intro c hc hx
    have := List.all_eq_true.1 h1.1 c hc
    rw [hx] at this
    simp at this
  · rw [begin_pairs]; rfl

theorem count_step (P : List UInt8) (i : Nat) (h : i < P.length) : (P.take (i + 1)).count 10 = (P.take i).count 10 + (if P[i] = 10 then 1 else 0) := by
  rw [List.take_succ_eq_append_getElem h, List.count_append]
  congr 1
  generalize P[i] = x
  by_cases hx : x = 10
  · subst hx; rfl
  · rw [if_neg hx, List.count_singleton, if_neg (by simpa using hx)]

set_option maxHeartbeats 4000000 in
set_option maxRecDepth 100000 in
theorem printed_c (w : World) (ao : Option Addr) (n cap : Nat) (c : Int) (hn : n ≤ maxLen) (hc : Ints w ao n) (h1 : -9223372036854775808 ≤ c) (h2 : c ≤ 9223372036854775807) :
    Calls Try.prog 3 #[.slice ao n cap, .int .i64 c] w fun e w' => e = .returned (.bool true) ∧ Below w.heap.size w w' := by
  have hp := pickN_lt c 4 (by decide)
  have hpc := pick_c c 4
  have hrc := fun W => rules_c W c h1 h2
  have hfit := fun q => fit q (pickN c 4) hp
  generalize pickN c 4 = v at *
  have HPC := hid hpc
  have HRC := hid hrc
  have HF := hid hfit
  clear hpc hrc hfit
  go_enter Try.func3, Try.ntmps3
  go_wp2_with fail
  refine (edges_c _ ao n cap hn hc).mono ?_
  rintro e w1 ⟨q, hq, rfl, hB1⟩
  go_wp2_with fail
  refine (facts_c _ q hq).mono ?_
  rintro e w2 ⟨fv, rfl, ho, hB2⟩
  have hfit := HF.out q
  clear HF
  generalize printedP q v = P at hfit
  generalize rulesT v = R at hfit HRC
  generalize (programR (bs (givenT q v))).cls = D1 at hfit
  generalize factsTo q 16 = fs at *
  generalize (programR (bs P)).cls = D2 at hfit
  have HL1 := hid hfit.load1
  have HL2 := hid hfit.load2
  have HP1 := hid hfit.print1
  have HP2 := hid hfit.print2
  have hPl := hfit.len
  have hTl := hfit.text
  have hRl := hfit.rules
  have hwo := hfit.words
  have hfa := hfit.facts
  have HB := hid hfit.blanks
  have HN := hid hfit.lines
  have HR := hid hfit.pre
  clear hfit
  obtain ⟨fo, fcap, rfl⟩ := own_form ho
  have hs1 : (bs (textR fs)).size = (textR fs).length := bs_size' _
  have hs2 : (bs R).size = R.length := bs_size' _
  have hs3 : (bs P).size = P.length := bs_size' _
  go_wp2_with fail
  refine (text_c _ w1.heap.size fo fcap fs ho hwo hfa).mono ?_
  rintro e w' ⟨rfl, rfl⟩
  go_wp2_with fail
  refine (HRC.out _).mono ?_
  rintro e w' ⟨rfl, rfl⟩
  go_wp2_with fail
  refine (HL1.out _).mono ?_
  rintro e w3 ⟨b1, rfl, hI1, hB3⟩
  go_wp2_with fail
  refine (HP1.out _ _ _ hI1).mono ?_
  rintro e w4 ⟨rfl, hB4⟩
  go_wp2_with fail
  refine (HL2.out _).mono ?_
  rintro e w5 ⟨b2, rfl, hI2, hB5⟩
  go_wp2_with fail
  have ho5 := own_below (own_below (own_below ho hB3) hB4) hB5
  clear ho
  go_loopw [9, 10] (fun lv iv wr => ∃ (i : Nat), i ≤ P.length ∧ iv = .int .i64 i ∧ lv = .int .i64 ((P.take i).count 10 : Nat) ∧ wr = w5) (fun _ iv _ => P.length - (intOf iv).toNat)
  case atStart => exact ⟨0, by omega, rfl, rfl, rfl⟩
  case round =>
    obtain ⟨i, hi, rfl, rfl, rfl⟩ := hrel
    by_cases hlt : i < P.length
    · have hls : i < (bs P).size := by omega
      have hx : (bs P)[i] = P[i] := rfl
      have hx32 : P[i] ≠ 32 := HB.out _ (List.getElem_mem hlt)
      have HT := hid (count_step P i hlt)
      have hcl : (P.take i).count 10 ≤ i := by have h := List.count_le_length (a := (10 : UInt8)) (l := P.take i); rw [List.length_take] at h; omega
      generalize (P.take i).count 10 = ct at *
      generalize P[i] = x at *
      have hxn : (((bs P)[i].toNat : Int) == 32) = false := by
        rw [hx, beq_eq_false_iff_ne]
        intro h
        apply hx32
        apply UInt8.toNat_inj.1
        show x.toNat = 32
        omega
      have HX := hid hx
      by_cases hx10 : x = 10
      · subst hx10
        have hxt : (((bs P)[i].toNat : Int) == 10) = true := by rw [hx]; rfl
        clear hx hx32
        go_wp2_with fail
        exact ⟨⟨i + 1, hlt, by go_num, by rw [HT.out, if_pos rfl]; go_num, trivial⟩, by simp [intOf]; omega⟩
      · have hxt : (((bs P)[i].toNat : Int) == 10) = false := by
          rw [hx, beq_eq_false_iff_ne]
          intro h
          apply hx10
          apply UInt8.toNat_inj.1
          show x.toNat = 10
          omega
        clear hx hx32
        go_wp2_with fail
        exact ⟨⟨i + 1, hlt, by go_num, by rw [HT.out, if_neg hx10]; rfl, trivial⟩, by simp [intOf]; omega⟩
    · have hie : i = P.length := by omega
      have hct : (P.take i).count 10 = fs.length + more v := by rw [hie, List.take_length]; exact HN.out
      have hmo : more v ≤ 12 := by unfold more; split <;> omega
      generalize (P.take i).count 10 = ct at *
      clear HN HB
      go_wp2_with fail
      go_loopw [11, 12] (fun bv iv w2 => ∃ (i : Nat), i ≤ fs.length ∧ iv = .int .i64 i ∧ bv = .string (bs (beginR (fs.take i))) ∧ (beginR (fs.take i)).length ≤ 22 * i ∧ w2 = wr) (fun _ iv _ => fs.length - (intOf iv).toNat)
      case atStart => exact ⟨0, by omega, rfl, rfl, by simp [beginR], rfl⟩
      case round =>
        obtain ⟨k, hk, rfl, rfl, hle, rfl⟩ := hrel
        by_cases hlt2 : k < fs.length
        · obtain ⟨g, rfl, hcc⟩ := own_cell ho5 k hlt2
          rw [strs_get _ _ hlt2] at hcc
          have hfl := hwo _ (List.getElem_mem hlt2)
          have HT := hid (show beginR (fs.take (k + 1)) = beginR (fs.take k) ++ (fs[k] ++ [46, 10]) by unfold beginR; rw [List.take_succ_eq_append_getElem hlt2, List.flatMap_append, List.flatMap_singleton])
          generalize fs[k] = f at *
          generalize beginR (fs.take k) = acc at *
          have hb1 : (bs acc).size = acc.length := rfl
          have hb2 : (bs f).size = f.length := rfl
          go_wp2_with fail
          exact ⟨⟨k + 1, hlt2, by go_num, by rw [HT.out, ← bs_append, ← bs_append, ByteArray.append_assoc]; rfl, by rw [HT.out]; simp; omega, trivial⟩, by simp [intOf]; omega⟩
        · have hke : k = fs.length := by omega
          have hbe : beginR (fs.take k) = beginR fs := by rw [hke, List.take_length]
          obtain ⟨r, hr⟩ := HR.out
          rw [hbe] at hle ⊢
          have hbs : (bs (beginR fs)).size = (beginR fs).length := bs_size' _
          have hbl : (beginR fs).length ≤ P.length := by rw [hr, List.length_append]; omega
          have hpre : (((bs P).extract 0 (beginR fs).length).toList == (bs (beginR fs)).toList) = true := by
            rw [hr, Lib.toList_data, Lib.toList_data]
            simp [bs]
          clear hr HR
          generalize beginR fs = bg at *
          clear hbe hke
          have hBw : Below w.heap.size w wr := ((((hB1.trans (hB2.mono hB1.size)).trans (hB3.mono (Nat.le_trans hB1.size hB2.size))).trans (hB4.mono (Nat.le_trans (Nat.le_trans hB1.size hB2.size) hB3.size))).trans (hB5.mono (Nat.le_trans (Nat.le_trans (Nat.le_trans hB1.size hB2.size) hB3.size) hB4.size)))
          go_wp2_with fail
          refine (HP2.out _ _ _ hI2).mono ?_
          rintro e w6 ⟨rfl, hB6⟩
          go_wp2_with fail
          refine (HPC.out _ h1 h2 (by decide) (by decide)).mono ?_
          rintro e w' ⟨rfl, rfl⟩
          have hv4 : v = 0 ∨ v = 1 ∨ v = 2 ∨ v = 3 := by omega
          rcases hv4 with rfl | rfl | rfl | rfl
          · have hct2 : ct = fs.length + 11 := hct
            clear hct hmo
            go_wp2_with fail
            refine (HPC.out _ h1 h2 (by decide) (by decide)).mono ?_
            rintro e w' ⟨rfl, rfl⟩
            go_wp2_with fail
            go_ret
            exact ⟨rfl, hBw.trans (hB6.mono hBw.size)⟩
          · have hct2 : ct = fs.length + 11 := hct
            clear hct hmo
            go_wp2_with fail
            refine (HPC.out _ h1 h2 (by decide) (by decide)).mono ?_
            rintro e w' ⟨rfl, rfl⟩
            go_wp2_with fail
            go_ret
            exact ⟨rfl, hBw.trans (hB6.mono hBw.size)⟩
          · have hct2 : ct = fs.length + 11 := hct
            clear hct hmo
            go_wp2_with fail
            refine (HPC.out _ h1 h2 (by decide) (by decide)).mono ?_
            rintro e w' ⟨rfl, rfl⟩
            go_wp2_with fail
            go_ret
            exact ⟨rfl, hBw.trans (hB6.mono hBw.size)⟩
          · have hct2 : ct = fs.length + 12 := hct
            clear hct hmo
            go_wp2_with fail
            refine (HPC.out _ h1 h2 (by decide) (by decide)).mono ?_
            rintro e w' ⟨rfl, rfl⟩
            go_wp2_with fail
            go_ret
            exact ⟨rfl, hBw.trans (hB6.mono hBw.size)⟩

end Go.Proofs.Ytpbfiffgcgnidaa
