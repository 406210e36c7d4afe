/-
  OUR OWN. The reader's atom: a name alone; a name with terms.
-/
import Derived.Test.YtpbfiffgcgnidaaAtom
import Derived.Test.YtpbfiffgcgnidaaBase2
namespace Go.Proofs.Ytpbfiffgcgnidaa
open Go.RowKit
attribute [local go_sem] drewN_alloc drewN_setCell

set_option maxHeartbeats 800000 in
set_option maxRecDepth 100000 in
theorem atom_bare (w : World) (b : Nat) (s : ByteArray) (l : List UInt8) (hR : Rd w b s l) (hs : s.size ≤ 281474976710656) (h1 : small (hd (skipL l)) = true)
    (h2 : tookB ((skipL l).drop (wlen smallDig 12 (skipL l))) 40 = false) :
    Calls Try.prog 46 #[.pointer (some ⟨b, 0, none⟩)] w fun e w' => e = .returned (atomR s l).val ∧ Rd w' b s (atomR s l).rest ∧ Kept b w w' := by
  have hsm : s.size ≤ maxLen := by unfold maxLen; omega
  have hlt := hR.lt
  obtain ⟨m, HM⟩ : ∃ m, Hid (m = skipL l) := ⟨_, rfl⟩
  rw [← HM.out] at h1 h2
  obtain ⟨q, HQ⟩ : ∃ q, Hid (q = m.drop (wlen smallDig 12 m)) := ⟨_, rfl⟩
  rw [← HQ.out] at h2
  obtain ⟨nm, HN⟩ : ∃ nm, Hid (nm = bs (m.take (wlen smallDig 12 m))) := ⟨_, rfl⟩
  obtain ⟨p, HP⟩ : ∃ p : Nat, Hid (p = posOf s m) := ⟨_, rfl⟩
  go_enter Try.func46, Try.ntmps46
  go_wp2_with (first
    | (go_at_call 45; refine (skipBlanks_l _ b s l (by exact (hR.alloc _).alloc _) hsm).mono ?_; rintro e w1 ⟨rfl, hR1, hK1⟩; rw [← HM.out] at hR1; have hA1 := (new_one w zA 48 zS 73).kept hK1 (by omega); have hS1 := (new_two w _ zS 73).kept hK1 (by omega); have c1 := hR1.c1; rw [← HP.out] at c1; have hz1 : w.heap.size + 1 < w1.heap.size := hS1.lt)
    | (go_at_call 57; refine (peek_l _ b s m (by exact hR1) hsm).mono ?_; rintro e w' ⟨rfl, n, rfl⟩)
    | (go_at_call 58; refine (isSmall_c _ _).mono ?_; rintro e w' ⟨rfl, rfl⟩)
    | (go_at_call 59; refine (word1_l _ b s m (by exact (hR1.alloc _).drewN _) hs).mono ?_; rintro e w2 ⟨he, hR2, hK2⟩; rw [← HN.out] at he; subst he; rw [← HQ.out] at hR2; clear c1; have hsp2 := ((Blk.new w1 [.int .i64 0, .int .i64 p, .int .i64 0, .int .i64 0, .int .i64 0] 73).drewN n).kept hK2 (by omega); have hA2 := ((hA1.alloc _).drewN n).kept hK2 (by omega); have hS2 := ((hS1.alloc _).drewN n).kept hK2 (by omega); have hz2 : w1.heap.size < w2.heap.size := hsp2.lt)
    | (go_at_call 47; refine (take_l _ b s q 40 (by exact hR2.alloc _) hsm (by omega)).mono ?_; rintro e w3 ⟨rfl, hR3, hK3⟩; have hat3 := (Blk.new w2 [.string nm, .int .i64 0, .string ⟨#[]⟩, .string ⟨#[]⟩, .string ⟨#[]⟩] 48).kept hK3 (by omega); have hsp3 := (hsp2.alloc _).kept hK3 (by omega); have hA3 := (hA2.alloc _).kept hK3 (by omega); have hS3 := (hS2.alloc _).kept hK3 (by omega); obtain ⟨a0, a1, a2, a3, a4⟩ := hA3.c5; have fA := hA3.frozen; obtain ⟨s0, s1, s2, s3, s4⟩ := hS3.c5; have fS := hS3.frozen; obtain ⟨t0, t1, t2, t3, t4⟩ := hat3.c5; obtain ⟨p0, p1, p2, p3, p4⟩ := hsp3.c5; clear hA1 hS1 hsp2 hA2 hS2 hat3 hsp3 hA3 hS3; have HK3 : Hid (Kept b w w3) := ((((((Kept.refl b w).allocs _).allocs _).trans hK1).allocs _).draws _ |>.trans hK2 |>.allocs _).trans hK3; clear hK1 hK2 hK3))
  go_region
  go_wp2
  have er : atomR s l = ⟨true, m.take (wlen smallDig 12 m), [], posOf s m, [], tookL q 40⟩ := by simp [atomR, ← HM.out, h1, ← HQ.out, h2]
  rw [er]
  refine bodyPost_ret (v := AtR.val ⟨true, m.take (wlen smallDig 12 m), [], posOf s m, [], tookL q 40⟩) (by simp [results, Try.results46, go_sem, AtR.val, atomCells, spotCells, bs, ← HP.out, HN.out, a0, a1, a2, a3, a4, s0, s1, s2, s3, s4]) rfl ⟨rfl, ?_, ?_⟩
  · exact Rd.drew ((hR3.set5 _ (by omega) _ _ _ _ _).set5 _ (by omega) _ _ _ _ _)
  · exact ((HK3.out.set5 _ (by omega) _ _ _ _ _).set5 _ (by omega) _ _ _ _ _).drewn

end Go.Proofs.Ytpbfiffgcgnidaa
