/-
  OUR OWN. The document's answer: an atom with terms.
-/
import Derived.Test.YtpbfiffgcgnidaaGreatDoorXR3
import Derived.Deep.RegionHeld3
import Derived.Deep.CutRange
import Derived.Deep.CutBlock
namespace Go.Proofs.YtpbfiffgcgnidaaGreatDoor
open Go.RowKit Go.WideMaps Go.Maps
attribute [local go_sem] drewN_alloc drewN_setCell

set_option maxHeartbeats 40000000 in
set_option maxRecDepth 100000 in
theorem atom_open (w : World) (base : Nat) (g cap : Nat) (ps : List Pc) (hP : Pieces w base (some ⟨g, 0, none⟩) cap ps) (hn : ps.length ≤ 3000) (i : Nat) (hlt : i + 1 < ps.length) (h110 : (ps[i].mark == 110) = true) (h40 : (ps[i + 1].mark == 40) = true) :
    Calls Tryz.prog 100 #[.slice (some ⟨g, 0, none⟩) ps.length cap, .int .i64 (i : Nat)] w fun e w' => AtomPost w ps i e w' := by
  obtain ⟨g', hgg, hg, p0, p1, p2⟩ := piece_at hP i (by omega)
  simp only [Option.some.injEq, Addr.mk.injEq, and_true] at hgg
  subst hgg
  obtain ⟨g', hgg, -, o0, o1, o2⟩ := piece_at hP (i + 1) hlt
  simp only [Option.some.injEq, Addr.mk.injEq, and_true] at hgg
  subst hgg
  have hg1 : g < w.heap.size + 1 := by omega
  have hlt0 : i < ps.length := by omega
  have hdrop : ps.drop i = ps[i] :: ps[i + 1] :: ps.drop (i + 2) := by rw [List.drop_eq_getElem_cons hlt0, List.drop_eq_getElem_cons hlt]
  have hb : (ps[i].mark == 33) = false := by
    rw [beq_iff_eq] at h110
    rw [h110]; rfl
  have h33 := mark_ne _ 33 33 rfl hb
  have h110' := mark_eq _ 110 110 rfl h110
  have h110e : ps[i].m = 110 := by simpa using h110'
  have h110n : (ps[i].m != 110) = false := by rw [bne, h110']; rfl
  have h40' := mark_eq _ 40 40 rfl h40
  have h40e : ps[i + 1].m = 40 := by simpa using h40'
  have h40n : (ps[i + 1].m != 40) = false := by rw [bne, h40']; rfl
  have HC := hid (show atomP (ps.drop i) = (termsP [] (ps.drop (i + 2))).bind (closeP fun ts r'' => some (⟨ps[i].s, ts, ps[i].pl, 0, false⟩, r'')) by rw [hdrop, atomP_plain _ _ hb, coreP_open _ _ _ _ _ h110 h40])
  clear hb hdrop h110 h40
  obtain ⟨i1, hi1, hy0, hy1, hy2⟩ := info_parts infoTerm
  go_enter Tryz.func100, Tryz.ntmps100
  go_wp2_with fail
  go_loopw [1] (fun iv wr => ∃ (q : Nat) (acc : List RT) (tv : Value), iv = .int .i64 q ∧ q ≤ ps.length ∧ acc.length ≤ q ∧ Hid (loopR ps acc q = termsP [] (ps.drop (i + 2))) ∧ Blk wr w.heap.size zRA 69 ∧ Blk wr (w.heap.size + 1) [.string ps[i].w, tv, .int .i64 (ps[i].pl : Nat), .int .i64 0, .bool false] 69 ∧ wr.ownsRow w.heap.size 130 3 tv acc.length (acc.flatMap RT.cells) ∧ Below w.heap.size w wr) (fun iv _ => ps.length - (intOf iv).toNat)
  case atStart =>
    exact ⟨i + 1, [], .slice none 0 0, by go_num, by omega, by simp, loopR_go ps [] _ (.inl rfl), new_one w zRA 69 [.string ps[i].w, .slice none 0 0, .int .i64 (ps[i].pl : Nat), .int .i64 0, .bool false] 69, new_two w (.cells zRA.toArray 69) [.string ps[i].w, .slice none 0 0, .int .i64 (ps[i].pl : Nat), .int .i64 0, .bool false] 69, World.ownsRow_nil _ _ _ _, ((Below.refl _ w).alloc (Nat.le_refl _) _).alloc (by simp) _⟩
  case round =>
    clear p0 p1 p2 o0 o1 o2
    obtain ⟨q, acc, tv, rfl, hq, hal, HX, hR, hA, hT, hB⟩ := hrel
    obtain ⟨tq, tcap, rfl⟩ := own_form hT
    obtain ⟨a0, a1, a2, a3, a4⟩ := hA.c5
    obtain ⟨r0, r1, r2, r3, r4⟩ := hR.c5
    have fR := hR.frozen
    have fA := hA.frozen
    have hbw := hA.lt
    have hgr : g < wr.heap.size := by have := hB.size; omega
    have hg2 : g ≠ w.heap.size := by omega
    have hg3 : g ≠ w.heap.size + 1 := by omega
    have hg4 : w.heap.size ≠ g := by omega
    have hwq := wrap_nat1 q (by omega)
    have hPq : ∀ (k : Nat) (hk : k < ps.length), wr.cell? ⟨g, k * 3, none⟩ = some (.int .u8 ps[k].m) ∧ wr.cell? ⟨g, k * 3 + 1, none⟩ = some (.string ps[k].w) ∧ wr.cell? ⟨g, k * 3 + 2, none⟩ = some (.int .i64 (ps[k].pl : Nat)) := by
      intro k hk
      obtain ⟨g', hgg, hg', n0, n1, n2⟩ := piece_at hP k hk
      simp only [Option.some.injEq, Addr.mk.injEq, and_true] at hgg
      subst hgg
      exact ⟨by rw [hB.cell (p := ⟨g, k * 3, none⟩) hg]; exact n0, by rw [hB.cell (p := ⟨g, k * 3 + 1, none⟩) hg]; exact n1, by rw [hB.cell (p := ⟨g, k * 3 + 2, none⟩) hg]; exact n2⟩
    have HPQ := hid hPq
    have HHR := hid hR
    have HHA := hid hA
    clear hPq hR hA
    go_upto_region 13 with fail
    go_cut [88] from 71 to 136 (fun gv wx => gv = .bool (goB ps acc q) ∧ wx = wr)
    case first =>
      by_cases he : acc = []
      · have HV := hid (show goB ps acc q = true by rw [he]; rfl)
        have hz0 : acc.length = 0 := by rw [he]; rfl
        have hz1 : (acc.length : Int) = 0 := by omega
        have hz2 : ((acc.length : Int) == 0) = true := by rw [hz1]; rfl
        clear he hz0 hz1
        go_wp2_with fail
        go_meet
        exact ⟨congrArg Value.bool HV.out.symm, rfl⟩
      · have hne' : acc.length ≠ 0 := by cases acc with
          | nil => exact absurd rfl he
          | cons a b => simp
        have hne0 : ¬ (acc.length : Int) = 0 := by omega
        have hneb : ((acc.length : Int) == 0) = false := by simpa using hne0
        by_cases hql : q < ps.length
        · obtain ⟨b0, b1, b2⟩ := HPQ.out q hql
          have HV := hid (goB_at ps acc q he hql)
          cases h44 : (ps[q].mark == 44)
          · have m1 := mark_ne _ 44 44 rfl h44
            have m2 : ¬ ps[q].m = 44 := by simpa using m1
            have HV2 := hid (HV.out.trans h44)
            clear he h44
            go_wp2_with fail
            go_meet
            exact ⟨congrArg Value.bool HV2.out.symm, rfl⟩
          · have m1 := mark_eq _ 44 44 rfl h44
            have m2 : ps[q].m = 44 := by simpa using m1
            have HV2 := hid (HV.out.trans h44)
            clear he h44
            go_wp2_with fail
            go_meet
            exact ⟨congrArg Value.bool HV2.out.symm, rfl⟩
        · have HV := hid (goB_end ps acc q he hql)
          clear he
          go_wp2_with fail
          go_meet
          exact ⟨congrArg Value.bool HV.out.symm, rfl⟩
    case rest =>
      obtain ⟨hgv, hwc⟩ := hcut
      subst hgv
      subst wc
      cases hgo : goB ps acc q
      · have HS := hid (goB_no ps acc q hgo)
        have hne := goB_ne ps acc q hgo
        have hne2 := own_ne hT HHR.out (by decide)
        clear hgo hne
        by_cases hql : q < ps.length
        · obtain ⟨b0, b1, b2⟩ := HPQ.out q hql
          have hdq : ps.drop q = ps[q] :: ps.drop (q + 1) := List.drop_eq_getElem_cons hql
          cases h41 : (ps[q].mark == 41)
          · have HA := hid (show atomP (ps.drop i) = none by rw [HC.out, ← HX.out, HS.out, hdq, Option.bind_some, closeP_cons, h41]; rfl)
            have n1 := mark_ne _ 41 41 rfl h41
            have n2 : ¬ ps[q].m = 41 := by simpa using n1
            clear HC HX HS hdq h41
            go_upto_region 19 with fail
            go_region
            all_goals go_wp2_with fail
            all_goals
              refine bodyPost_ret (v := .tuple #[.agg #[.string ps[i].w, .slice tq acc.length tcap, .int .i64 (ps[i].pl : Nat), .int .i64 0, .bool false], .int .i64 ((q : Nat) + 1), .bool false]) (by simp [results, Tryz.results100, go_sem, r0, r1, r2, r3, r4]) rfl ?_
              refine atom_fail (cs := [.string ps[i].w, .slice tq acc.length tcap, .int .i64 (ps[i].pl : Nat), .int .i64 0, .bool false]) ?_ HA.out
              refine Below.drew ?_
              repeat (refine Below.setCell ?_ (by simp only []; omega) _)
              exact hB
          · have n1 := mark_eq _ 41 41 rfl h41
            have n2 : ps[q].m = 41 := by simpa using n1
            by_cases h3 : acc.length ≤ 3
            · have HA := hid (show atomP (ps.drop i) = some (⟨ps[i].s, acc, ps[i].pl, 0, false⟩, ps.drop (q + 1)) by rw [HC.out, ← HX.out, HS.out, hdq, Option.bind_some, closeP_cons, h41, decide_eq_true h3]; rfl)
              have h3i : (acc.length : Int) ≤ 3 := by omega
              clear HC HX HS hdq h41
              go_upto_region 19 with fail
              go_region_held3 (fun w' => w'.cell? ⟨w.heap.size + 1, 0, none⟩ = some (.string ps[i].w) ∧ w'.cell? ⟨w.heap.size + 1, 1, none⟩ = some (.slice tq acc.length tcap) ∧ w'.cell? ⟨w.heap.size + 1, 2, none⟩ = some (.int .i64 (ps[i].pl : Nat)) ∧ w'.cell? ⟨w.heap.size + 1, 3, none⟩ = some (.int .i64 0) ∧ w'.cell? ⟨w.heap.size + 1, 4, none⟩ = some (.bool false) ∧ w'.cell? ⟨g, q * 3, none⟩ = some (.int .u8 ps[q].m)) (go_keep) (fail)
              all_goals go_wp2_with fail
              all_goals
                refine bodyPost_ret (v := .tuple #[.agg #[.string ps[i].w, .slice tq acc.length tcap, .int .i64 (ps[i].pl : Nat), .int .i64 0, .bool false], .int .i64 ((q + 1 : Nat) : Int), .bool true]) (by simp [results, Tryz.results100, go_sem, r0, r1, r2, r3, r4]) rfl ?_
                refine atom_good (k := q + 1) (cs := [.string ps[i].w, .slice tq acc.length tcap, .int .i64 (ps[i].pl : Nat), .int .i64 0, .bool false]) ?_ HA.out (by omega) ⟨_, rfl, ?_⟩
                · refine Below.drew ?_
                  repeat (refine Below.setCell ?_ (by simp only []; omega) _)
                  exact hB
                · exact own_set (own_set (own_set (own_set (own_set hT ⟨w.heap.size, 0, none⟩ _ hne2) ⟨w.heap.size, 1, none⟩ _ hne2) ⟨w.heap.size, 2, none⟩ _ hne2) ⟨w.heap.size, 3, none⟩ _ hne2) ⟨w.heap.size, 4, none⟩ _ hne2
            · have HA := hid (show atomP (ps.drop i) = none by rw [HC.out, ← HX.out, HS.out, hdq, Option.bind_some, closeP_cons, h41, decide_eq_false h3]; rfl)
              have h3i : ¬ (acc.length : Int) ≤ 3 := by omega
              clear HC HX HS hdq h41
              go_upto_region 19 with fail
              go_region_held3 (fun w' => w'.cell? ⟨w.heap.size + 1, 0, none⟩ = some (.string ps[i].w) ∧ w'.cell? ⟨w.heap.size + 1, 1, none⟩ = some (.slice tq acc.length tcap) ∧ w'.cell? ⟨w.heap.size + 1, 2, none⟩ = some (.int .i64 (ps[i].pl : Nat)) ∧ w'.cell? ⟨w.heap.size + 1, 3, none⟩ = some (.int .i64 0) ∧ w'.cell? ⟨w.heap.size + 1, 4, none⟩ = some (.bool false) ∧ w'.cell? ⟨g, q * 3, none⟩ = some (.int .u8 ps[q].m)) (go_keep) (fail)
              all_goals go_wp2_with fail
              all_goals
                refine bodyPost_ret (v := .tuple #[.agg #[.string ps[i].w, .slice tq acc.length tcap, .int .i64 (ps[i].pl : Nat), .int .i64 0, .bool false], .int .i64 ((q : Nat) + 1), .bool false]) (by simp [results, Tryz.results100, go_sem, r0, r1, r2, r3, r4]) rfl ?_
                refine atom_fail (cs := [.string ps[i].w, .slice tq acc.length tcap, .int .i64 (ps[i].pl : Nat), .int .i64 0, .bool false]) ?_ HA.out
                refine Below.drew ?_
                repeat (refine Below.setCell ?_ (by simp only []; omega) _)
                exact hB
        · have HA := hid (show atomP (ps.drop i) = none by rw [HC.out, ← HX.out, HS.out, List.drop_eq_nil_of_le (by omega)]; rfl)
          clear HC HX HS
          go_upto_region 19 with fail
          go_region
          all_goals go_wp2_with fail
          all_goals
            refine bodyPost_ret (v := .tuple #[.agg #[.string ps[i].w, .slice tq acc.length tcap, .int .i64 (ps[i].pl : Nat), .int .i64 0, .bool false], .int .i64 ((q : Nat) + 1), .bool false]) (by simp [results, Tryz.results100, go_sem, r0, r1, r2, r3, r4]) rfl ?_
            refine atom_fail (cs := [.string ps[i].w, .slice tq acc.length tcap, .int .i64 (ps[i].pl : Nat), .int .i64 0, .bool false]) ?_ HA.out
            refine Below.drew ?_
            repeat (refine Below.setCell ?_ (by simp only []; omega) _)
            exact hB
      · have HG := hid (goB_go ps acc q hgo)
        clear hgo
        go_upto_region 15 with fail
        go_cut [110] from 71 to 136 (fun sv wx => sv = .bool (stopB ps (q + 1)) ∧ wx = wr)
        case first =>
          by_cases hq1 : q + 1 < ps.length
          · obtain ⟨n0, n1, n2⟩ := HPQ.out (q + 1) hq1
            have HV := hid (stopB_at ps (q + 1) hq1)
            have hq1i : ¬ ((ps.length : Int) ≤ (q : Int) + 1) := by omega
            have hq1d : decide ((ps.length : Int) ≤ (q : Int) + 1) = false := decide_eq_false hq1i
            cases h110 : (ps[q + 1].mark == 110)
            · have k1 := mark_ne _ 110 110 rfl h110
              have k2 : (ps[q + 1].m != 110) = true := by rw [bne, k1]; rfl
              have k3 : ¬ ps[q + 1].m = 110 := by simpa using k1
              cases h118 : (ps[q + 1].mark == 118)
              · have l1 := mark_ne _ 118 118 rfl h118
                have l2 : (ps[q + 1].m != 118) = true := by rw [bne, l1]; rfl
                have l3 : ¬ ps[q + 1].m = 118 := by simpa using l1
                have HV2 := hid (HV.out.trans (by rw [wordy, h110, h118]; rfl : (!wordy ps[q + 1]) = true))
                clear h110 h118 HV
                go_wp2_with fail
                go_meet
                exact ⟨congrArg Value.bool HV2.out.symm, rfl⟩
              · have l1 := mark_eq _ 118 118 rfl h118
                have l2 : (ps[q + 1].m != 118) = false := by rw [bne, l1]; rfl
                have l3 : ps[q + 1].m = 118 := by simpa using l1
                have HV2 := hid (HV.out.trans (by rw [wordy, h110, h118]; rfl : (!wordy ps[q + 1]) = false))
                clear h110 h118 HV
                go_wp2_with fail
                go_meet
                exact ⟨congrArg Value.bool HV2.out.symm, rfl⟩
            · have k1 := mark_eq _ 110 110 rfl h110
              have k2 : (ps[q + 1].m != 110) = false := by rw [bne, k1]; rfl
              have k3 : ps[q + 1].m = 110 := by simpa using k1
              have HV2 := hid (HV.out.trans (by rw [wordy, h110]; rfl : (!wordy ps[q + 1]) = false))
              clear h110 HV
              go_wp2_with fail
              go_meet
              exact ⟨congrArg Value.bool HV2.out.symm, rfl⟩
          · have HV := hid (stopB_end ps (q + 1) hq1)
            have hq1i : (ps.length : Int) ≤ (q : Int) + 1 := by omega
            go_wp2_with fail
            go_meet
            exact ⟨congrArg Value.bool HV.out.symm, rfl⟩
        case rest =>
          obtain ⟨hsv, hwc⟩ := hcut
          subst hsv
          subst wc
          cases hst : stopB ps (q + 1)
          · obtain ⟨hq1, hwd⟩ := stopB_not ps (q + 1) hst
            have HN := hid (show loopR ps (acc ++ [ps[q + 1].rt]) (q + 2) = termsP [] (ps.drop (i + 2)) by rw [← loopR_step ps acc q hq1 hwd, ← HG.out, HX.out])
            have HRT := hid (rt_cells ps[q + 1])
            have hx0 : (0 : Int) ≤ (q : Int) + 1 := by omega
            have hx1 : (q : Int) + 1 < (ps.length : Int) := by omega
            obtain ⟨n0, n1, n2⟩ := HPQ.out (q + 1) hq1
            have hown : ∀ o2, ((wr.alloc o2).drew).ownsRow w.heap.size 130 3 (.slice tq acc.length tcap) acc.length (acc.flatMap RT.cells) := fun o2 => hT.alloc o2
            have hnews : ∀ j u, [Value.string ps[q + 1].w, .bool (ps[q + 1].m == 118), .int .i64 (ps[q + 1].pl : Nat)][j]? = some u → ((wr.alloc (.cells #[Value.string ps[q + 1].w, .bool (ps[q + 1].m == 118), .int .i64 (ps[q + 1].pl : Nat)] 130)).drew).cell? ((⟨wr.heap.size, 0, none⟩ : Addr).add j) = some u := fun j u h => new_cells wr [Value.string ps[q + 1].w, .bool (ps[q + 1].m == 118), .int .i64 (ps[q + 1].pl : Nat)] 130 j u h
            have hone : ∀ u ∈ [Value.string ps[q + 1].w, .bool (ps[q + 1].m == 118), .int .i64 (ps[q + 1].pl : Nat)], u.oneCell' = true := by
              intro u hu; simp only [List.mem_cons, List.mem_nil_iff, or_false] at hu; rcases hu with rfl | rfl | rfl <;> rfl
            have hlm : acc.length + 1 ≤ maxLen := by unfold maxLen; omega
            have hlb : (acc.length + 1) * 32 ≤ 140737488355328 := by omega
            have hBB : ∀ o2, w.heap.size ≤ ((wr.alloc o2).drew).heap.size := by intro o2; simp; omega
            have hne1 := own_ne hT HHA.out (by decide)
            have hne2 := own_ne hT HHR.out (by decide)
            have hbs := own_base hT
            clear hst hwd HG HX HC HPQ r0 r1 r2 r3 r4 fR
            go_upto_region 17 with fail
            go_cut [] from 71 to 136 (fun wx => ∃ g2 cap2, Blk wx w.heap.size zRA 69 ∧ Blk wx (w.heap.size + 1) [.string ps[i].w, .slice (some ⟨g2, 0, none⟩) (acc.length + 1) cap2, .int .i64 (ps[i].pl : Nat), .int .i64 0, .bool false] 69 ∧ wx.ownsRow w.heap.size 130 3 (.slice (some ⟨g2, 0, none⟩) (acc.length + 1) cap2) (acc.length + 1) (acc.flatMap RT.cells ++ [Value.string ps[q + 1].w, .bool (ps[q + 1].m == 118), .int .i64 (ps[q + 1].pl : Nat)]) ∧ Below w.heap.size w wx)
            case first =>
              go_region_law (refine step_append_own rfl (.tmp 114) (.tmp 132) 67 rfl w.heap.size 130 i1 _ 3 32 Tryz.underlying67 hi1 hy0 hy1 hy2 rfl (by decide) (.slice tq acc.length tcap) acc.length (acc.flatMap RT.cells) (by simp [Act.eval]) (hown _) ⟨wr.heap.size, 0, none⟩ 1 1 [Value.string ps[q + 1].w, .bool (ps[q + 1].m == 118), .int .i64 (ps[q + 1].pl : Nat)] (by simp [Act.eval]) (by decide) rfl hnews hone hlm hlb (hBB _) ?_; intro g2 cap2 w4 ho4 hg4; have hC4 := (HHA.out.alloc _).drew.grown hg4 hne1; have hR4 := (HHR.out.alloc _).drew.grown hg4 hne2; have d1 := hC4.cell 1; have fC4 := hC4.frozen; have hB4 : Below w.heap.size w w4 := (hB.trans ((below_alloc wr _).drew.mono hB.size)).grown hg4 (hBB _) hbs; simp at d1)
              all_goals go_wp2_with fail
              all_goals go_meet
              all_goals
                exact ⟨g2, cap2, hR4.kept (Kept.setCell (b := w.heap.size + 1) w4 (p := ⟨w.heap.size + 1, 1, none⟩) rfl _) (by omega), hC4.setCell 1 _, own_set ho4 ⟨w.heap.size + 1, 1, none⟩ _ (own_ne ho4 hC4 (by decide)), hB4.setCell (p := ⟨w.heap.size + 1, 1, none⟩) (by simp only []; omega) _⟩
            case rest =>
              clear a0 a1 a2 a3 a4 fA hown hnews hone hBB hne1 hne2 hbs n0 n1 n2
              obtain ⟨g2, cap2, hR4, hC4, ho4, hB4⟩ := hcut
              go_wp2_with fail
              exact ⟨⟨q + 2, acc ++ [ps[q + 1].rt], _, by go_num, by omega, by simp only [List.length_append, List.length_singleton]; omega, HN, hR4, hC4, RT_row_more ho4 HRT.out, hB4⟩, by simp [intOf]; omega⟩
          · have HA := hid (show atomP (ps.drop i) = none by rw [HC.out, ← HX.out, HG.out, stopB_yes ps (q + 1) acc hst]; rfl)
            clear HC HX HG hst
            go_wp2_with fail
            refine bodyPost_ret (v := .tuple #[.agg #[.string ps[i].w, .slice tq acc.length tcap, .int .i64 (ps[i].pl : Nat), .int .i64 0, .bool false], .int .i64 ((q : Nat) + 1), .bool false]) (by simp [results, Tryz.results100, go_sem, r0, r1, r2, r3, r4]) rfl ?_
            refine atom_fail (cs := [.string ps[i].w, .slice tq acc.length tcap, .int .i64 (ps[i].pl : Nat), .int .i64 0, .bool false]) ?_ HA.out
            repeat (refine Below.setCell ?_ (by simp only []; omega) _)
            exact hB

end Go.Proofs.YtpbfiffgcgnidaaGreatDoor
