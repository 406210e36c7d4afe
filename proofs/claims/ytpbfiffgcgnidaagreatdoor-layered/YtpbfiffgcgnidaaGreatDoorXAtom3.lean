/-
  OUR OWN. The reader's atom with terms.
-/
import Derived.Test.YtpbfiffgcgnidaaGreatDoorXT1
namespace Go.Proofs.YtpbfiffgcgnidaaGreatDoor
open Go.RowKit
attribute [local go_sem] drewN_alloc drewN_setCell

def cnt (w : World) (b : Nat) : Nat := (intOf ((w.cell? ⟨b, 1, none⟩).getD .nilIface)).toNat

set_option maxHeartbeats 4000000 in
set_option maxRecDepth 100000 in
theorem atom_args (w : World) (b : Nat) (s : ByteArray) (l : List UInt8) (hR : Rd w b s l) (hs : s.size ≤ 281474976710656) (h1 : small (hd (skipL l)) = true)
    (h2 : tookB ((skipL l).drop (wlen smallDig 12 (skipL l))) 40 = true) :
    Calls Tryz.prog 88 #[.pointer (some ⟨b, 0, none⟩)] w fun e w' => e = .returned (atomR s l).val ∧ Rd w' b s (atomR s l).rest ∧ Kept b w w' := by
  have hsm : s.size ≤ maxLen := by unfold maxLen; omega
  have hlt := hR.lt
  obtain ⟨m, HM⟩ : ∃ m, Hid (m = skipL l) := ⟨_, rfl⟩
  rw [← HM.out] at h1 h2
  obtain ⟨q, HQ⟩ : ∃ q, Hid (q = m.drop (wlen smallDig 12 m)) := ⟨_, rfl⟩
  rw [← HQ.out] at h2
  obtain ⟨nl, HNL⟩ : ∃ nl, Hid (nl = m.take (wlen smallDig 12 m)) := ⟨_, rfl⟩
  obtain ⟨nm, HN⟩ : ∃ nm, Hid (nm = bs (m.take (wlen smallDig 12 m))) := ⟨_, rfl⟩
  obtain ⟨p, HP⟩ : ∃ p : Nat, Hid (p = posOf s m) := ⟨_, rfl⟩
  go_enter Tryz.func88, Tryz.ntmps88
  go_wp2_with (first
    | (go_at_call 87; refine (skipBlanks_l _ b s l (by exact (hR.alloc _).alloc _) hsm).mono ?_; rintro e w1 ⟨rfl, hR1, hK1⟩; rw [← HM.out] at hR1; have hA1 := (new_one w zA 80 zS 141).kept hK1 (by omega); have hS1 := (new_two w _ zS 141).kept hK1 (by omega); have c1 := hR1.c1; rw [← HP.out] at c1; have hz1 : w.heap.size + 1 < w1.heap.size := hS1.lt)
    | (go_at_call 131; refine (peek_l _ b s m (by exact hR1) hsm).mono ?_; rintro e w' ⟨rfl, n, rfl⟩)
    | (go_at_call 132; refine (isSmall_c _ _).mono ?_; rintro e w' ⟨rfl, rfl⟩)
    | (go_at_call 133; refine (word1_l _ b s m (by exact (hR1.alloc _).drewN _) hs).mono ?_; rintro e w2 ⟨he, hR2, hK2⟩; rw [← HN.out] at he; subst he; rw [← HQ.out] at hR2; clear c1; have hsp2 := ((Blk.new w1 [.int .i64 0, .int .i64 p, .int .i64 0, .int .i64 0, .int .i64 0] 141).drewN n).kept hK2 (by omega); have hA2 := ((hA1.alloc _).drewN n).kept hK2 (by omega); have hS2 := ((hS1.alloc _).drewN n).kept hK2 (by omega); have hz2 : w1.heap.size < w2.heap.size := hsp2.lt)
    | (go_at_call 89; refine (take_l _ b s q 40 (by exact hR2.alloc _) hsm (by omega)).mono ?_; rintro e w3 ⟨rfl, hR3, hK3⟩; have hat3 := (Blk.new w2 [.string nm, .int .i64 0, .string ⟨#[]⟩, .string ⟨#[]⟩, .string ⟨#[]⟩] 80).kept hK3 (by omega); have hsp3 := (hsp2.alloc _).kept hK3 (by omega); have hA3 := (hA2.alloc _).kept hK3 (by omega); have hS3 := (hS2.alloc _).kept hK3 (by omega); clear hA1 hS1 hsp2 hA2 hS2; have HK3 : Hid (Kept b w w3) := ((((((Kept.refl b w).allocs _).allocs _).trans hK1).allocs _).draws _ |>.trans hK2 |>.allocs _).trans hK3; clear hK1 hK2 hK3))
  obtain ⟨q2, HQ2⟩ : ∃ q2, Hid (q2 = tookL q 40) := ⟨_, rfl⟩
  rw [← HQ2.out] at hR3
  have HR : Hid (atomR s l = argsR s nl p 3 [] [] q2) := by
    show atomR s l = argsR s nl p 3 [] [] q2
    simp [atomR, ← HM.out, h1, ← HQ.out, h2, HNL.out, HP.out, HQ2.out]
  have HA3 : Hid (Blk w3 w.heap.size zA 80) := hA3
  have HS3 : Hid (Blk w3 (w.heap.size + 1) zS 141) := hS3
  have HT3 : Hid (Blk w3 w2.heap.size (atomCells nl []) 80) := by rw [HN.out, ← HNL.out] at hat3; exact hat3
  have HP3 : Hid (Blk w3 w1.heap.size (spotCells 0 p []) 141) := hsp3
  clear hA3 hS3 hat3 hsp3
  go_loopw [] (fun wr => ∃ (ts : List (List UInt8)) (ps : List Nat) (r : List UInt8), ts.length = ps.length ∧ ts.length < 3 ∧ Hid (argsR s nl p (3 - ts.length) ts ps r = argsR s nl p 3 [] [] q2) ∧ Rd wr b s r ∧ Hid (Blk wr w.heap.size zA 80) ∧ Hid (Blk wr (w.heap.size + 1) zS 141) ∧ Hid (Blk wr w2.heap.size (atomCells nl ts) 80) ∧ Hid (Blk wr w1.heap.size (spotCells 0 p ps) 141) ∧ Hid (Kept b w wr)) (fun wr => 3 - cnt wr w2.heap.size)
  case atStart => exact ⟨[], [], q2, rfl, by decide, rfl, hR3, HA3, HS3, HT3, HP3, HK3⟩
  case round =>
    clear HA3 HS3 HT3 HP3 HK3 hR3 hR2 hR1
    obtain ⟨ts, ps, r, hlen, hl3, HA, hRr, HA3, HS3, HT3, HP3, HK⟩ := hrel
    cases hb : termB r
    · have HE : Hid (atomR s l = ⟨false, [], [], 0, [], termL r⟩) := by
        show atomR s l = _
        rw [HR.out, ← HA.out]
        obtain ⟨f, hf⟩ : ∃ f, 3 - ts.length = f + 1 := ⟨2 - ts.length, by omega⟩
        rw [hf]; simp [argsR, hb]
      go_wp2_with (go_at_call 135; refine (term_not _ b s r (by exact hRr) hs hb).mono ?_; rintro e w4 ⟨rfl, hR4, hK4⟩; have HA4 := HA3.out.kept hK4 (by omega); have HS4 := HS3.out.kept hK4 (by omega); have KK4 := HK.out.trans hK4; obtain ⟨a0, a1, a2, a3, a4⟩ := HA4.c5; have fA := HA4.frozen; obtain ⟨s0, s1, s2, s3, s4⟩ := HS4.c5; have fS := HS4.frozen)
      rw [HE.out]
      exact bodyPost_ret (v := AtR.val ⟨false, [], [], 0, [], termL r⟩) (by simp [results, Tryz.results88, go_sem, AtR.val, atomCells, spotCells, bs, a0, a1, a2, a3, a4, s0, s1, s2, s3, s4]) rfl ⟨rfl, (hR4.set5 _ (by omega) _ _ _ _ _).set5 _ (by omega) _ _ _ _ _, (KK4.set5 _ (by omega) _ _ _ _ _).set5 _ (by omega) _ _ _ _ _⟩
    · match ts, ps, hlen, hl3 with
      | [], [], _, _ =>
        cases hc : tookB (termL r) 44
        · have HE : Hid (atomR s l = ⟨tookB (tookL (termL r) 44) 41, nl, [termW r], p, [posOf s (skipL r)], tookL (tookL (termL r) 44) 41⟩) := by
            show atomR s l = _; rw [HR.out, ← HA.out]; show argsR s nl p (2 + 1) [] [] r = _; simp [argsR, hb, hc]
          go_wp2_with (go_at_call 135; refine (term_yes _ b s r (by exact hRr) hs hb).mono ?_; rintro e w4 ⟨rfl, hR4, hK4⟩; have HA4 := HA3.out.kept hK4 (by omega); have HS4 := HS3.out.kept hK4 (by omega); have HT4 := HT3.out.kept hK4 (by omega); have HP4 := HP3.out.kept hK4 (by omega); have KK4 := HK.out.trans hK4; obtain ⟨t0, t1, t2, t3, t4⟩ := HT4.c5; obtain ⟨p0, p1, p2, p3, p4⟩ := HP4.c5; have fT := HT4.frozen; have fP := HP4.frozen)
          go_region
          go_wp2_with fail
          have HTW : Blk ((((w4.setCell ⟨w1.heap.size, 2, none⟩ (.int .i64 (posOf s (skipL r)))).setCell ⟨w2.heap.size, 2, none⟩ (.string (bs (termW r)))).setCell ⟨w2.heap.size, 1, none⟩ (.int .i64 1)).drew) w2.heap.size (atomCells nl [termW r]) 80 := (((HT4.setOther ⟨w1.heap.size, 2, none⟩ _ (by simp only [ne_eq]; omega)).setCell 2 _).setCell 1 _).drew
          have HPW : Blk ((((w4.setCell ⟨w1.heap.size, 2, none⟩ (.int .i64 (posOf s (skipL r)))).setCell ⟨w2.heap.size, 2, none⟩ (.string (bs (termW r)))).setCell ⟨w2.heap.size, 1, none⟩ (.int .i64 1)).drew) w1.heap.size (spotCells 0 p [posOf s (skipL r)]) 141 := (((HP4.setCell 2 _).setOther ⟨w2.heap.size, 2, none⟩ _ (by simp only [ne_eq]; omega)).setOther ⟨w2.heap.size, 1, none⟩ _ (by simp only [ne_eq]; omega)).drew
          have HAW : Blk ((((w4.setCell ⟨w1.heap.size, 2, none⟩ (.int .i64 (posOf s (skipL r)))).setCell ⟨w2.heap.size, 2, none⟩ (.string (bs (termW r)))).setCell ⟨w2.heap.size, 1, none⟩ (.int .i64 1)).drew) w.heap.size zA 80 := (((HA4.setOther ⟨w1.heap.size, 2, none⟩ _ (by simp only [ne_eq]; omega)).setOther ⟨w2.heap.size, 2, none⟩ _ (by simp only [ne_eq]; omega)).setOther ⟨w2.heap.size, 1, none⟩ _ (by simp only [ne_eq]; omega)).drew
          have HSW : Blk ((((w4.setCell ⟨w1.heap.size, 2, none⟩ (.int .i64 (posOf s (skipL r)))).setCell ⟨w2.heap.size, 2, none⟩ (.string (bs (termW r)))).setCell ⟨w2.heap.size, 1, none⟩ (.int .i64 1)).drew) (w.heap.size + 1) zS 141 := (((HS4.setOther ⟨w1.heap.size, 2, none⟩ _ (by simp only [ne_eq]; omega)).setOther ⟨w2.heap.size, 2, none⟩ _ (by simp only [ne_eq]; omega)).setOther ⟨w2.heap.size, 1, none⟩ _ (by simp only [ne_eq]; omega)).drew
          have HRW : Rd ((((w4.setCell ⟨w1.heap.size, 2, none⟩ (.int .i64 (posOf s (skipL r)))).setCell ⟨w2.heap.size, 2, none⟩ (.string (bs (termW r)))).setCell ⟨w2.heap.size, 1, none⟩ (.int .i64 1)).drew) b s (termL r) := (((hR4.setOther ⟨w1.heap.size, 2, none⟩ _ (by simp only [ne_eq]; omega)).setOther ⟨w2.heap.size, 2, none⟩ _ (by simp only [ne_eq]; omega)).setOther ⟨w2.heap.size, 1, none⟩ _ (by simp only [ne_eq]; omega)).drew
          have HKW : Kept b w ((((w4.setCell ⟨w1.heap.size, 2, none⟩ (.int .i64 (posOf s (skipL r)))).setCell ⟨w2.heap.size, 2, none⟩ (.string (bs (termW r)))).setCell ⟨w2.heap.size, 1, none⟩ (.int .i64 1)).drew) := (((KK4.setNew (p := ⟨w1.heap.size, 2, none⟩) (by simp only []; omega) _).setNew (p := ⟨w2.heap.size, 2, none⟩) (by simp only []; omega) _).setNew (p := ⟨w2.heap.size, 1, none⟩) (by simp only []; omega) _).drewn
          refine (take_l _ b s (termL r) 44 (by exact HRW) hsm (by omega)).mono ?_
          rintro e w5 ⟨rfl, hR5, hK5⟩
          have HT5 := HTW.kept hK5 (by omega); have HP5 := HPW.kept hK5 (by omega); have HA5 := HAW.kept hK5 (by omega); have HS5 := HSW.kept hK5 (by omega); have HK5 := HKW.trans hK5
          clear HTW HPW HAW HSW HRW HKW t0 t1 t2 t3 t4 p0 p1 p2 p3 p4 fT fP HT4 HP4 HA4 HS4 KK4 hK4 hR4
          obtain ⟨t0, t1, t2, t3, t4⟩ := HT5.c5
          obtain ⟨p0, p1, p2, p3, p4⟩ := HP5.c5
          go_wp2_with fail
          go_region_with (go_at_call 89; refine (take_l _ b s (tookL (termL r) 44) 41 (by exact hR5.drew) hsm (by omega)).mono ?_; rintro e w6 ⟨rfl, hR6, hK6⟩; have HT6 := HT5.drew.kept hK6 (by omega); have HP6 := HP5.drew.kept hK6 (by omega); have HA6 := HA5.drew.kept hK6 (by omega); have HS6 := HS5.drew.kept hK6 (by omega); have KK6 := HK5.drewn.trans hK6; obtain ⟨t0', t1', t2', t3', t4'⟩ := HT6.c5; obtain ⟨p0', p1', p2', p3', p4'⟩ := HP6.c5; obtain ⟨a0, a1, a2, a3, a4⟩ := HA6.c5; have fA := HA6.frozen; obtain ⟨s0, s1, s2, s3, s4⟩ := HS6.c5; have fS := HS6.frozen)
          all_goals go_wp2
          all_goals rw [HE.out]
          all_goals exact bodyPost_ret (v := AtR.val ⟨tookB (tookL (termL r) 44) 41, nl, [termW r], p, [posOf s (skipL r)], tookL (tookL (termL r) 44) 41⟩) (by simp [results, Tryz.results88, go_sem, AtR.val, atomCells, spotCells, a0, a1, a2, a3, a4, s0, s1, s2, s3, s4]) rfl ⟨rfl, (hR6.set5 _ (by omega) _ _ _ _ _).set5 _ (by omega) _ _ _ _ _, (KK6.set5 _ (by omega) _ _ _ _ _).set5 _ (by omega) _ _ _ _ _⟩
        · have HX : Hid (argsR s nl p (3 - [termW r].length) [termW r] [posOf s (skipL r)] (tookL (termL r) 44) = argsR s nl p 3 [] [] q2) := by
            show argsR s nl p (3 - [termW r].length) [termW r] [posOf s (skipL r)] (tookL (termL r) 44) = _; rw [← HA.out]; show _ = argsR s nl p (2 + 1) [] [] r; simp [argsR, hb, hc]
          go_wp2_with (go_at_call 135; refine (term_yes _ b s r (by exact hRr) hs hb).mono ?_; rintro e w4 ⟨rfl, hR4, hK4⟩; have HA4 := HA3.out.kept hK4 (by omega); have HS4 := HS3.out.kept hK4 (by omega); have HT4 := HT3.out.kept hK4 (by omega); have HP4 := HP3.out.kept hK4 (by omega); have KK4 := HK.out.trans hK4; obtain ⟨t0, t1, t2, t3, t4⟩ := HT4.c5; obtain ⟨p0, p1, p2, p3, p4⟩ := HP4.c5; have fT := HT4.frozen; have fP := HP4.frozen)
          go_region
          go_wp2_with fail
          have HTW : Blk ((((w4.setCell ⟨w1.heap.size, 2, none⟩ (.int .i64 (posOf s (skipL r)))).setCell ⟨w2.heap.size, 2, none⟩ (.string (bs (termW r)))).setCell ⟨w2.heap.size, 1, none⟩ (.int .i64 1)).drew) w2.heap.size (atomCells nl [termW r]) 80 := (((HT4.setOther ⟨w1.heap.size, 2, none⟩ _ (by simp only [ne_eq]; omega)).setCell 2 _).setCell 1 _).drew
          have HPW : Blk ((((w4.setCell ⟨w1.heap.size, 2, none⟩ (.int .i64 (posOf s (skipL r)))).setCell ⟨w2.heap.size, 2, none⟩ (.string (bs (termW r)))).setCell ⟨w2.heap.size, 1, none⟩ (.int .i64 1)).drew) w1.heap.size (spotCells 0 p [posOf s (skipL r)]) 141 := (((HP4.setCell 2 _).setOther ⟨w2.heap.size, 2, none⟩ _ (by simp only [ne_eq]; omega)).setOther ⟨w2.heap.size, 1, none⟩ _ (by simp only [ne_eq]; omega)).drew
          have HAW : Blk ((((w4.setCell ⟨w1.heap.size, 2, none⟩ (.int .i64 (posOf s (skipL r)))).setCell ⟨w2.heap.size, 2, none⟩ (.string (bs (termW r)))).setCell ⟨w2.heap.size, 1, none⟩ (.int .i64 1)).drew) w.heap.size zA 80 := (((HA4.setOther ⟨w1.heap.size, 2, none⟩ _ (by simp only [ne_eq]; omega)).setOther ⟨w2.heap.size, 2, none⟩ _ (by simp only [ne_eq]; omega)).setOther ⟨w2.heap.size, 1, none⟩ _ (by simp only [ne_eq]; omega)).drew
          have HSW : Blk ((((w4.setCell ⟨w1.heap.size, 2, none⟩ (.int .i64 (posOf s (skipL r)))).setCell ⟨w2.heap.size, 2, none⟩ (.string (bs (termW r)))).setCell ⟨w2.heap.size, 1, none⟩ (.int .i64 1)).drew) (w.heap.size + 1) zS 141 := (((HS4.setOther ⟨w1.heap.size, 2, none⟩ _ (by simp only [ne_eq]; omega)).setOther ⟨w2.heap.size, 2, none⟩ _ (by simp only [ne_eq]; omega)).setOther ⟨w2.heap.size, 1, none⟩ _ (by simp only [ne_eq]; omega)).drew
          have HRW : Rd ((((w4.setCell ⟨w1.heap.size, 2, none⟩ (.int .i64 (posOf s (skipL r)))).setCell ⟨w2.heap.size, 2, none⟩ (.string (bs (termW r)))).setCell ⟨w2.heap.size, 1, none⟩ (.int .i64 1)).drew) b s (termL r) := (((hR4.setOther ⟨w1.heap.size, 2, none⟩ _ (by simp only [ne_eq]; omega)).setOther ⟨w2.heap.size, 2, none⟩ _ (by simp only [ne_eq]; omega)).setOther ⟨w2.heap.size, 1, none⟩ _ (by simp only [ne_eq]; omega)).drew
          have HKW : Kept b w ((((w4.setCell ⟨w1.heap.size, 2, none⟩ (.int .i64 (posOf s (skipL r)))).setCell ⟨w2.heap.size, 2, none⟩ (.string (bs (termW r)))).setCell ⟨w2.heap.size, 1, none⟩ (.int .i64 1)).drew) := (((KK4.setNew (p := ⟨w1.heap.size, 2, none⟩) (by simp only []; omega) _).setNew (p := ⟨w2.heap.size, 2, none⟩) (by simp only []; omega) _).setNew (p := ⟨w2.heap.size, 1, none⟩) (by simp only []; omega) _).drewn
          refine (take_l _ b s (termL r) 44 (by exact HRW) hsm (by omega)).mono ?_
          rintro e w5 ⟨rfl, hR5, hK5⟩
          have HT5 := HTW.kept hK5 (by omega); have HP5 := HPW.kept hK5 (by omega); have HA5 := HAW.kept hK5 (by omega); have HS5 := HSW.kept hK5 (by omega); have HK5 := HKW.trans hK5
          clear HTW HPW HAW HSW HRW HKW t0 t1 t2 t3 t4 p0 p1 p2 p3 p4 fT fP HT4 HP4 HA4 HS4 KK4 hK4 hR4
          go_wp2_with fail
          exact ⟨⟨[termW r], [posOf s (skipL r)], tookL (termL r) 44, rfl, by simp, HX, hR5, HA5, HS5, HT5, HP5, HK5⟩, by have e1 := HT5.cell 1; have e2 := HT3.out.cell 1; simp [cnt, e1, e2, atomCells, intOf]⟩
      | [x], [px], _, _ =>
        cases hc : tookB (termL r) 44
        · have HE : Hid (atomR s l = ⟨tookB (tookL (termL r) 44) 41, nl, [x, termW r], p, [px, posOf s (skipL r)], tookL (tookL (termL r) 44) 41⟩) := by
            show atomR s l = _; rw [HR.out, ← HA.out]; show argsR s nl p (1 + 1) [x] [px] r = _; simp [argsR, hb, hc]
          go_wp2_with (go_at_call 135; refine (term_yes _ b s r (by exact hRr) hs hb).mono ?_; rintro e w4 ⟨rfl, hR4, hK4⟩; have HA4 := HA3.out.kept hK4 (by omega); have HS4 := HS3.out.kept hK4 (by omega); have HT4 := HT3.out.kept hK4 (by omega); have HP4 := HP3.out.kept hK4 (by omega); have KK4 := HK.out.trans hK4; obtain ⟨t0, t1, t2, t3, t4⟩ := HT4.c5; obtain ⟨p0, p1, p2, p3, p4⟩ := HP4.c5; have fT := HT4.frozen; have fP := HP4.frozen)
          go_region
          go_wp2_with fail
          have HTW : Blk ((((w4.setCell ⟨w1.heap.size, 3, none⟩ (.int .i64 (posOf s (skipL r)))).setCell ⟨w2.heap.size, 3, none⟩ (.string (bs (termW r)))).setCell ⟨w2.heap.size, 1, none⟩ (.int .i64 2)).drew) w2.heap.size (atomCells nl [x, termW r]) 80 := (((HT4.setOther ⟨w1.heap.size, 3, none⟩ _ (by simp only [ne_eq]; omega)).setCell 3 _).setCell 1 _).drew
          have HPW : Blk ((((w4.setCell ⟨w1.heap.size, 3, none⟩ (.int .i64 (posOf s (skipL r)))).setCell ⟨w2.heap.size, 3, none⟩ (.string (bs (termW r)))).setCell ⟨w2.heap.size, 1, none⟩ (.int .i64 2)).drew) w1.heap.size (spotCells 0 p [px, posOf s (skipL r)]) 141 := (((HP4.setCell 3 _).setOther ⟨w2.heap.size, 3, none⟩ _ (by simp only [ne_eq]; omega)).setOther ⟨w2.heap.size, 1, none⟩ _ (by simp only [ne_eq]; omega)).drew
          have HAW : Blk ((((w4.setCell ⟨w1.heap.size, 3, none⟩ (.int .i64 (posOf s (skipL r)))).setCell ⟨w2.heap.size, 3, none⟩ (.string (bs (termW r)))).setCell ⟨w2.heap.size, 1, none⟩ (.int .i64 2)).drew) w.heap.size zA 80 := (((HA4.setOther ⟨w1.heap.size, 3, none⟩ _ (by simp only [ne_eq]; omega)).setOther ⟨w2.heap.size, 3, none⟩ _ (by simp only [ne_eq]; omega)).setOther ⟨w2.heap.size, 1, none⟩ _ (by simp only [ne_eq]; omega)).drew
          have HSW : Blk ((((w4.setCell ⟨w1.heap.size, 3, none⟩ (.int .i64 (posOf s (skipL r)))).setCell ⟨w2.heap.size, 3, none⟩ (.string (bs (termW r)))).setCell ⟨w2.heap.size, 1, none⟩ (.int .i64 2)).drew) (w.heap.size + 1) zS 141 := (((HS4.setOther ⟨w1.heap.size, 3, none⟩ _ (by simp only [ne_eq]; omega)).setOther ⟨w2.heap.size, 3, none⟩ _ (by simp only [ne_eq]; omega)).setOther ⟨w2.heap.size, 1, none⟩ _ (by simp only [ne_eq]; omega)).drew
          have HRW : Rd ((((w4.setCell ⟨w1.heap.size, 3, none⟩ (.int .i64 (posOf s (skipL r)))).setCell ⟨w2.heap.size, 3, none⟩ (.string (bs (termW r)))).setCell ⟨w2.heap.size, 1, none⟩ (.int .i64 2)).drew) b s (termL r) := (((hR4.setOther ⟨w1.heap.size, 3, none⟩ _ (by simp only [ne_eq]; omega)).setOther ⟨w2.heap.size, 3, none⟩ _ (by simp only [ne_eq]; omega)).setOther ⟨w2.heap.size, 1, none⟩ _ (by simp only [ne_eq]; omega)).drew
          have HKW : Kept b w ((((w4.setCell ⟨w1.heap.size, 3, none⟩ (.int .i64 (posOf s (skipL r)))).setCell ⟨w2.heap.size, 3, none⟩ (.string (bs (termW r)))).setCell ⟨w2.heap.size, 1, none⟩ (.int .i64 2)).drew) := (((KK4.setNew (p := ⟨w1.heap.size, 3, none⟩) (by simp only []; omega) _).setNew (p := ⟨w2.heap.size, 3, none⟩) (by simp only []; omega) _).setNew (p := ⟨w2.heap.size, 1, none⟩) (by simp only []; omega) _).drewn
          refine (take_l _ b s (termL r) 44 (by exact HRW) hsm (by omega)).mono ?_
          rintro e w5 ⟨rfl, hR5, hK5⟩
          have HT5 := HTW.kept hK5 (by omega); have HP5 := HPW.kept hK5 (by omega); have HA5 := HAW.kept hK5 (by omega); have HS5 := HSW.kept hK5 (by omega); have HK5 := HKW.trans hK5
          clear HTW HPW HAW HSW HRW HKW t0 t1 t2 t3 t4 p0 p1 p2 p3 p4 fT fP HT4 HP4 HA4 HS4 KK4 hK4 hR4
          obtain ⟨t0, t1, t2, t3, t4⟩ := HT5.c5
          obtain ⟨p0, p1, p2, p3, p4⟩ := HP5.c5
          go_wp2_with fail
          go_region_with (go_at_call 89; refine (take_l _ b s (tookL (termL r) 44) 41 (by exact hR5.drew) hsm (by omega)).mono ?_; rintro e w6 ⟨rfl, hR6, hK6⟩; have HT6 := HT5.drew.kept hK6 (by omega); have HP6 := HP5.drew.kept hK6 (by omega); have HA6 := HA5.drew.kept hK6 (by omega); have HS6 := HS5.drew.kept hK6 (by omega); have KK6 := HK5.drewn.trans hK6; obtain ⟨t0', t1', t2', t3', t4'⟩ := HT6.c5; obtain ⟨p0', p1', p2', p3', p4'⟩ := HP6.c5; obtain ⟨a0, a1, a2, a3, a4⟩ := HA6.c5; have fA := HA6.frozen; obtain ⟨s0, s1, s2, s3, s4⟩ := HS6.c5; have fS := HS6.frozen)
          all_goals go_wp2
          all_goals rw [HE.out]
          all_goals exact bodyPost_ret (v := AtR.val ⟨tookB (tookL (termL r) 44) 41, nl, [x, termW r], p, [px, posOf s (skipL r)], tookL (tookL (termL r) 44) 41⟩) (by simp [results, Tryz.results88, go_sem, AtR.val, atomCells, spotCells, a0, a1, a2, a3, a4, s0, s1, s2, s3, s4]) rfl ⟨rfl, (hR6.set5 _ (by omega) _ _ _ _ _).set5 _ (by omega) _ _ _ _ _, (KK6.set5 _ (by omega) _ _ _ _ _).set5 _ (by omega) _ _ _ _ _⟩
        · have HX : Hid (argsR s nl p (3 - [x, termW r].length) [x, termW r] [px, posOf s (skipL r)] (tookL (termL r) 44) = argsR s nl p 3 [] [] q2) := by
            show argsR s nl p (3 - [x, termW r].length) [x, termW r] [px, posOf s (skipL r)] (tookL (termL r) 44) = _; rw [← HA.out]; show _ = argsR s nl p (1 + 1) [x] [px] r; simp [argsR, hb, hc]
          go_wp2_with (go_at_call 135; refine (term_yes _ b s r (by exact hRr) hs hb).mono ?_; rintro e w4 ⟨rfl, hR4, hK4⟩; have HA4 := HA3.out.kept hK4 (by omega); have HS4 := HS3.out.kept hK4 (by omega); have HT4 := HT3.out.kept hK4 (by omega); have HP4 := HP3.out.kept hK4 (by omega); have KK4 := HK.out.trans hK4; obtain ⟨t0, t1, t2, t3, t4⟩ := HT4.c5; obtain ⟨p0, p1, p2, p3, p4⟩ := HP4.c5; have fT := HT4.frozen; have fP := HP4.frozen)
          go_region
          go_wp2_with fail
          have HTW : Blk ((((w4.setCell ⟨w1.heap.size, 3, none⟩ (.int .i64 (posOf s (skipL r)))).setCell ⟨w2.heap.size, 3, none⟩ (.string (bs (termW r)))).setCell ⟨w2.heap.size, 1, none⟩ (.int .i64 2)).drew) w2.heap.size (atomCells nl [x, termW r]) 80 := (((HT4.setOther ⟨w1.heap.size, 3, none⟩ _ (by simp only [ne_eq]; omega)).setCell 3 _).setCell 1 _).drew
          have HPW : Blk ((((w4.setCell ⟨w1.heap.size, 3, none⟩ (.int .i64 (posOf s (skipL r)))).setCell ⟨w2.heap.size, 3, none⟩ (.string (bs (termW r)))).setCell ⟨w2.heap.size, 1, none⟩ (.int .i64 2)).drew) w1.heap.size (spotCells 0 p [px, posOf s (skipL r)]) 141 := (((HP4.setCell 3 _).setOther ⟨w2.heap.size, 3, none⟩ _ (by simp only [ne_eq]; omega)).setOther ⟨w2.heap.size, 1, none⟩ _ (by simp only [ne_eq]; omega)).drew
          have HAW : Blk ((((w4.setCell ⟨w1.heap.size, 3, none⟩ (.int .i64 (posOf s (skipL r)))).setCell ⟨w2.heap.size, 3, none⟩ (.string (bs (termW r)))).setCell ⟨w2.heap.size, 1, none⟩ (.int .i64 2)).drew) w.heap.size zA 80 := (((HA4.setOther ⟨w1.heap.size, 3, none⟩ _ (by simp only [ne_eq]; omega)).setOther ⟨w2.heap.size, 3, none⟩ _ (by simp only [ne_eq]; omega)).setOther ⟨w2.heap.size, 1, none⟩ _ (by simp only [ne_eq]; omega)).drew
          have HSW : Blk ((((w4.setCell ⟨w1.heap.size, 3, none⟩ (.int .i64 (posOf s (skipL r)))).setCell ⟨w2.heap.size, 3, none⟩ (.string (bs (termW r)))).setCell ⟨w2.heap.size, 1, none⟩ (.int .i64 2)).drew) (w.heap.size + 1) zS 141 := (((HS4.setOther ⟨w1.heap.size, 3, none⟩ _ (by simp only [ne_eq]; omega)).setOther ⟨w2.heap.size, 3, none⟩ _ (by simp only [ne_eq]; omega)).setOther ⟨w2.heap.size, 1, none⟩ _ (by simp only [ne_eq]; omega)).drew
          have HRW : Rd ((((w4.setCell ⟨w1.heap.size, 3, none⟩ (.int .i64 (posOf s (skipL r)))).setCell ⟨w2.heap.size, 3, none⟩ (.string (bs (termW r)))).setCell ⟨w2.heap.size, 1, none⟩ (.int .i64 2)).drew) b s (termL r) := (((hR4.setOther ⟨w1.heap.size, 3, none⟩ _ (by simp only [ne_eq]; omega)).setOther ⟨w2.heap.size, 3, none⟩ _ (by simp only [ne_eq]; omega)).setOther ⟨w2.heap.size, 1, none⟩ _ (by simp only [ne_eq]; omega)).drew
          have HKW : Kept b w ((((w4.setCell ⟨w1.heap.size, 3, none⟩ (.int .i64 (posOf s (skipL r)))).setCell ⟨w2.heap.size, 3, none⟩ (.string (bs (termW r)))).setCell ⟨w2.heap.size, 1, none⟩ (.int .i64 2)).drew) := (((KK4.setNew (p := ⟨w1.heap.size, 3, none⟩) (by simp only []; omega) _).setNew (p := ⟨w2.heap.size, 3, none⟩) (by simp only []; omega) _).setNew (p := ⟨w2.heap.size, 1, none⟩) (by simp only []; omega) _).drewn
          refine (take_l _ b s (termL r) 44 (by exact HRW) hsm (by omega)).mono ?_
          rintro e w5 ⟨rfl, hR5, hK5⟩
          have HT5 := HTW.kept hK5 (by omega); have HP5 := HPW.kept hK5 (by omega); have HA5 := HAW.kept hK5 (by omega); have HS5 := HSW.kept hK5 (by omega); have HK5 := HKW.trans hK5
          clear HTW HPW HAW HSW HRW HKW t0 t1 t2 t3 t4 p0 p1 p2 p3 p4 fT fP HT4 HP4 HA4 HS4 KK4 hK4 hR4
          go_wp2_with fail
          exact ⟨⟨[x, termW r], [px, posOf s (skipL r)], tookL (termL r) 44, rfl, by simp, HX, hR5, HA5, HS5, HT5, HP5, HK5⟩, by have e1 := HT5.cell 1; have e2 := HT3.out.cell 1; simp [cnt, e1, e2, atomCells, intOf]⟩
      | [x, y], [px, py], _, _ =>
        have HE : Hid (atomR s l = ⟨tookB (termL r) 41, nl, [x, y, termW r], p, [px, py, posOf s (skipL r)], tookL (termL r) 41⟩) := by
          show atomR s l = _; rw [HR.out, ← HA.out]; show argsR s nl p (0 + 1) [x, y] [px, py] r = _; simp [argsR, hb]
        go_wp2_with (go_at_call 135; refine (term_yes _ b s r (by exact hRr) hs hb).mono ?_; rintro e w4 ⟨rfl, hR4, hK4⟩; have HA4 := HA3.out.kept hK4 (by omega); have HS4 := HS3.out.kept hK4 (by omega); have HT4 := HT3.out.kept hK4 (by omega); have HP4 := HP3.out.kept hK4 (by omega); have KK4 := HK.out.trans hK4; obtain ⟨t0, t1, t2, t3, t4⟩ := HT4.c5; obtain ⟨p0, p1, p2, p3, p4⟩ := HP4.c5; have fT := HT4.frozen; have fP := HP4.frozen)
        go_region
        go_wp2_with fail
        have HTW : Blk ((((w4.setCell ⟨w1.heap.size, 4, none⟩ (.int .i64 (posOf s (skipL r)))).setCell ⟨w2.heap.size, 4, none⟩ (.string (bs (termW r)))).setCell ⟨w2.heap.size, 1, none⟩ (.int .i64 3)).drew) w2.heap.size (atomCells nl [x, y, termW r]) 80 := (((HT4.setOther ⟨w1.heap.size, 4, none⟩ _ (by simp only [ne_eq]; omega)).setCell 4 _).setCell 1 _).drew
        have HPW : Blk ((((w4.setCell ⟨w1.heap.size, 4, none⟩ (.int .i64 (posOf s (skipL r)))).setCell ⟨w2.heap.size, 4, none⟩ (.string (bs (termW r)))).setCell ⟨w2.heap.size, 1, none⟩ (.int .i64 3)).drew) w1.heap.size (spotCells 0 p [px, py, posOf s (skipL r)]) 141 := (((HP4.setCell 4 _).setOther ⟨w2.heap.size, 4, none⟩ _ (by simp only [ne_eq]; omega)).setOther ⟨w2.heap.size, 1, none⟩ _ (by simp only [ne_eq]; omega)).drew
        have HAW : Blk ((((w4.setCell ⟨w1.heap.size, 4, none⟩ (.int .i64 (posOf s (skipL r)))).setCell ⟨w2.heap.size, 4, none⟩ (.string (bs (termW r)))).setCell ⟨w2.heap.size, 1, none⟩ (.int .i64 3)).drew) w.heap.size zA 80 := (((HA4.setOther ⟨w1.heap.size, 4, none⟩ _ (by simp only [ne_eq]; omega)).setOther ⟨w2.heap.size, 4, none⟩ _ (by simp only [ne_eq]; omega)).setOther ⟨w2.heap.size, 1, none⟩ _ (by simp only [ne_eq]; omega)).drew
        have HSW : Blk ((((w4.setCell ⟨w1.heap.size, 4, none⟩ (.int .i64 (posOf s (skipL r)))).setCell ⟨w2.heap.size, 4, none⟩ (.string (bs (termW r)))).setCell ⟨w2.heap.size, 1, none⟩ (.int .i64 3)).drew) (w.heap.size + 1) zS 141 := (((HS4.setOther ⟨w1.heap.size, 4, none⟩ _ (by simp only [ne_eq]; omega)).setOther ⟨w2.heap.size, 4, none⟩ _ (by simp only [ne_eq]; omega)).setOther ⟨w2.heap.size, 1, none⟩ _ (by simp only [ne_eq]; omega)).drew
        have HRW : Rd ((((w4.setCell ⟨w1.heap.size, 4, none⟩ (.int .i64 (posOf s (skipL r)))).setCell ⟨w2.heap.size, 4, none⟩ (.string (bs (termW r)))).setCell ⟨w2.heap.size, 1, none⟩ (.int .i64 3)).drew) b s (termL r) := (((hR4.setOther ⟨w1.heap.size, 4, none⟩ _ (by simp only [ne_eq]; omega)).setOther ⟨w2.heap.size, 4, none⟩ _ (by simp only [ne_eq]; omega)).setOther ⟨w2.heap.size, 1, none⟩ _ (by simp only [ne_eq]; omega)).drew
        have HKW : Kept b w ((((w4.setCell ⟨w1.heap.size, 4, none⟩ (.int .i64 (posOf s (skipL r)))).setCell ⟨w2.heap.size, 4, none⟩ (.string (bs (termW r)))).setCell ⟨w2.heap.size, 1, none⟩ (.int .i64 3)).drew) := (((KK4.setNew (p := ⟨w1.heap.size, 4, none⟩) (by simp only []; omega) _).setNew (p := ⟨w2.heap.size, 4, none⟩) (by simp only []; omega) _).setNew (p := ⟨w2.heap.size, 1, none⟩) (by simp only []; omega) _).drewn
        clear HT4 HP4 HA4 HS4 KK4 hK4 hR4
        generalize hWW : ((((w4.setCell ⟨w1.heap.size, 4, none⟩ (.int .i64 (posOf s (skipL r)))).setCell ⟨w2.heap.size, 4, none⟩ (.string (bs (termW r)))).setCell ⟨w2.heap.size, 1, none⟩ (.int .i64 3)).drew) = w5 at *
        have HT5 := HTW; have HP5 := HPW; have HA5 := HAW; have HS5 := HSW; have hR5 := HRW; have HK5 := HKW
        clear hWW HTW HPW HAW HSW HRW HKW t0 t1 t2 t3 t4 p0 p1 p2 p3 p4 fT fP
        obtain ⟨t0, t1, t2, t3, t4⟩ := HT5.c5
        obtain ⟨p0, p1, p2, p3, p4⟩ := HP5.c5
        go_region_with (go_at_call 89; refine (take_l _ b s (termL r) 41 (by exact hR5.drew) hsm (by omega)).mono ?_; rintro e w6 ⟨rfl, hR6, hK6⟩; have HT6 := HT5.drew.kept hK6 (by omega); have HP6 := HP5.drew.kept hK6 (by omega); have HA6 := HA5.drew.kept hK6 (by omega); have HS6 := HS5.drew.kept hK6 (by omega); have KK6 := HK5.drewn.trans hK6; obtain ⟨t0', t1', t2', t3', t4'⟩ := HT6.c5; obtain ⟨p0', p1', p2', p3', p4'⟩ := HP6.c5; obtain ⟨a0, a1, a2, a3, a4⟩ := HA6.c5; have fA := HA6.frozen; obtain ⟨s0, s1, s2, s3, s4⟩ := HS6.c5; have fS := HS6.frozen)
        all_goals go_wp2
        all_goals rw [HE.out]
        all_goals exact bodyPost_ret (v := AtR.val ⟨tookB (termL r) 41, nl, [x, y, termW r], p, [px, py, posOf s (skipL r)], tookL (termL r) 41⟩) (by simp [results, Tryz.results88, go_sem, AtR.val, atomCells, spotCells, a0, a1, a2, a3, a4, s0, s1, s2, s3, s4]) rfl ⟨rfl, (hR6.set5 _ (by omega) _ _ _ _ _).set5 _ (by omega) _ _ _ _ _, (KK6.set5 _ (by omega) _ _ _ _ _).set5 _ (by omega) _ _ _ _ _⟩

end Go.Proofs.YtpbfiffgcgnidaaGreatDoor
