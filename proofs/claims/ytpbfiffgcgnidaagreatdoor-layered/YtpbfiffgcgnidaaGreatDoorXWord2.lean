/-
  OUR OWN. The reader's word, letters of either case and digits.
-/
import Derived.Test.YtpbfiffgcgnidaaGreatDoorXRead2
namespace Go.Proofs.YtpbfiffgcgnidaaGreatDoor
open Go.RowKit

set_option maxHeartbeats 400000 in
set_option maxRecDepth 100000 in
theorem word2_c (w : World) (b : Nat) (s : ByteArray) (i : Nat) (hR : Rdr w b s i) (hi : i ≤ s.size) (hs : s.size ≤ 281474976710656) :
    Calls Tryz.prog 133 #[.pointer (some ⟨b, 0, none⟩), .func (.func 167) #[] #[]] w fun e w' => e = .returned (.string (bs ((s.data.toList.drop i).take (wlen letterDig 12 (s.data.toList.drop i))))) ∧ Rdr w' b s (i + wlen letterDig 12 (s.data.toList.drop i)) ∧ Kept b w w' := by
  have hsm : s.size ≤ maxLen := by unfold maxLen; omega
  have hlen : (s.data.toList.drop i).length = s.size - i := by simp
  obtain ⟨L, HL⟩ : ∃ L, Hid (L = s.data.toList.drop i) := ⟨_, rfl⟩
  rw [← HL.out] at hlen ⊢
  have c1 := hR.c1
  go_enter Tryz.func133, Tryz.ntmps133
  go_wp2
  go_loopw [] (fun wr => ∃ k : Nat, i + k ≤ s.size ∧ k ≤ 12 ∧ Rdr wr b s (i + k) ∧ wlen letterDig 12 L = k + wlen letterDig (12 - k) (L.drop k) ∧ Kept b w wr) (fun wr => s.size - rpos wr b)
  case atStart => exact ⟨0, by omega, by omega, hR, by simp, Kept.refl _ _⟩
  case round =>
    clear c1
    obtain ⟨k, hk, hk12, hRk, hwk, hK⟩ := hrel
    have HW := hwk
    have HWH : Hid (wlen letterDig 12 L = k + wlen letterDig (12 - k) (L.drop k)) := hwk
    clear hwk HW
    have c0 := hRk.c0
    have c1 := hRk.c1
    have f1 := hRk.f1
    have hpk : pk s (i + k) = hd (L.drop k) := by rw [pk_hd, HL.out, List.drop_drop]
    have HP : Hid (pk s (i + k) = hd (L.drop k)) := hpk
    clear hpk
    by_cases h12 : k < 12
    · cases hf : letterDig (pk s (i + k))
      · have HE : Hid (wlen letterDig 12 L = k) := wlen_no letterDig 12 k L HWH.out (.inr (by rw [← HP.out]; exact hf))
        go_wp2_with (first | (go_at_call 131; refine (peek_c _ b s (i + k) (by exact hRk) hk hsm).mono ?_; rintro e w' ⟨rfl, n, rfl⟩) | (go_at_call 167; refine (isLetterOrDigit_c _ _).mono ?_; rintro e w' ⟨rfl, rfl⟩))
        go_region_with (go_at_call 166; refine (clone_c _ _ (by simp; omega)).mono ?_; rintro e w' ⟨rfl, hb⟩)
        all_goals go_wp2
        all_goals go_ret
        all_goals
          rw [HE.out]
          exact ⟨by rw [extract_bs, ← HL.out]; rfl, Blk.below (Rdr.drewN hRk _) hb, (hK.draws _).trans (Kept.of_below hb)⟩
      · obtain ⟨hlt, hw1⟩ := wlen_yes letterDig (by decide) 12 k L HWH.out h12 (by rw [← HP.out]; exact hf)
        have HW1 : Hid (wlen letterDig 12 L = (k + 1) + wlen letterDig (12 - (k + 1)) (L.drop (k + 1))) := hw1
        clear hw1
        go_wp2_with (first | (go_at_call 131; refine (peek_c _ b s (i + k) (by exact hRk) hk hsm).mono ?_; rintro e w' ⟨rfl, n, rfl⟩) | (go_at_call 167; refine (isLetterOrDigit_c _ _).mono ?_; rintro e w' ⟨rfl, rfl⟩))
        have hR1 : Rdr ((wr.drewN n).setCell ⟨b, 1, none⟩ (.int .i64 ((i : Int) + (k : Int) + 1))) b s (i + (k + 1)) := (hRk.drewN n).to (by omega)
        exact ⟨⟨k + 1, by omega, by omega, hR1, HW1.out, (hK.draws _).set _ _⟩, by rw [hR1.pos, hRk.pos]; omega⟩
    · have HE : Hid (wlen letterDig 12 L = k) := wlen_no letterDig 12 k L HWH.out (.inl h12)
      have h12' : ¬ ((i : Int) + (k : Int) - (i : Int) < 12) := by omega
      go_wp2
      go_region_with (go_at_call 166; refine (clone_c _ _ (by simp; omega)).mono ?_; rintro e w' ⟨rfl, hb⟩)
      all_goals go_wp2
      all_goals go_ret
      all_goals
        rw [HE.out]
        exact ⟨by rw [extract_bs, ← HL.out]; rfl, Blk.below (Rdr.drewN hRk _) hb, (hK.draws _).trans (Kept.of_below hb)⟩

end Go.Proofs.YtpbfiffgcgnidaaGreatDoor
