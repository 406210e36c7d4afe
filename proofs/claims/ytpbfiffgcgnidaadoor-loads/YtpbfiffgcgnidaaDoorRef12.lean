/-
  OUR OWN. The document's answer: has a text the form; where it is wrong.
-/
import Derived.Test.YtpbfiffgcgnidaaDoorRef11
namespace Go.Proofs.YtpbfiffgcgnidaaDoor
open Go.RowKit Go.WideMaps Go.Maps
attribute [local go_sem] drewN_alloc drewN_setCell

set_option maxHeartbeats 1000000 in
theorem form_c (w : World) (s : ByteArray) (hs : s.size ≤ 3000) : Calls Tryd.prog 24 #[.string s, .bool false] w fun e w' => e = .returned (.bool (programR s).ok) ∧ Below w.heap.size w w' := by
  have hp := program_same s
  cases hq : (T s.size s.data.toList).bind (PP []) with
  | none =>
    rw [hq] at hp
    simp only [] at hp
    have HQ := hid hq
    have HP := hid hp
    clear hq hp
    go_enter Tryd.func24, Tryd.ntmps24
    go_wp2_with (go_at_call 10; refine (program_c _ s hs).mono ?_; rintro e w1 ⟨hx, hB1⟩; rw [HQ.out] at hx; simp only [] at hx; subst hx)
    go_ret
    rw [HP.out]
    exact ⟨rfl, hB1⟩
  | some cs =>
    rw [hq] at hp
    simp only [] at hp
    have HQ := hid hq
    have HP := hid hp.1
    clear hq hp
    go_enter Tryd.func24, Tryd.ntmps24
    go_wp2_with (go_at_call 10; refine (program_c _ s hs).mono ?_; rintro e w1 ⟨hx, hB1⟩; rw [HQ.out] at hx; obtain ⟨v, rfl, -⟩ := hx)
    go_ret
    rw [HP.out]
    exact ⟨rfl, hB1⟩

/-- The document's nine ends lie in the first block. -/
def EndsIs (w : World) : Prop := ∀ (k : Nat) (hk : k < endsP.length), w.cell? ⟨0, k, none⟩ = some (.string (bs endsP[k]))
theorem EndsIs.below {w w' : World} {n : Nat} (h : EndsIs w) (hb : Below n w w') (hn : 0 < n) : EndsIs w' := fun k hk => by rw [hb.cell (p := ⟨0, k, none⟩) hn]; exact h k hk
theorem ends_len (e : List UInt8) (h : e ∈ endsP) : e.length ≤ 3 := by
  simp only [endsP, List.mem_cons, List.not_mem_nil, or_false] at h
  rcases h with rfl | rfl | rfl | rfl | rfl | rfl | rfl | rfl | rfl <;> decide
theorem any_take (p : List UInt8 → Bool) (l : List (List UInt8)) (k : Nat) (hk : k < l.length) : (l.take (k + 1)).any p = ((l.take k).any p || p l[k]) := by
  rw [List.take_succ_eq_append_getElem hk, List.any_append, List.any_cons, List.any_nil, Bool.or_false]
theorem any_part (p : List UInt8 → Bool) (l : List (List UInt8)) (k : Nat) (h : (l.take k).any p = true) : l.any p = true := by
  rw [List.any_eq_true] at h ⊢
  obtain ⟨x, hx, hp⟩ := h
  exact ⟨x, List.mem_of_mem_take hx, hp⟩
theorem bs_app (a b : List UInt8) : bs a ++ bs b = bs (a ++ b) := by
  apply ByteArray.ext
  simp [bs]

set_option maxHeartbeats 4000000 in
set_option maxRecDepth 100000 in
theorem wrong_c (w : World) (hE : EndsIs w) (hw : 0 < w.heap.size) (s : ByteArray) (hs : s.size ≤ 2000) : Calls Tryd.prog 11 #[.string s, .bool false] w fun e w' => e = .returned (.int .i64 (wrongR s.data.toList : Nat)) ∧ Below w.heap.size w w' := by
  have hsl : s.data.toList.length = s.size := by simp
  go_enter Tryd.func11, Tryd.ntmps11
  go_wp2
  go_loopw [5] (fun iv wr => ∃ (i : Nat), iv = .int .i64 i ∧ i ≤ s.size ∧ Hid (wrongGo s.data.toList (s.size - i) i = wrongR s.data.toList) ∧ Below w.heap.size w wr) (fun iv _ => s.size - (intOf iv).toNat)
  case atStart => exact ⟨0, by go_num, by omega, by unfold wrongR; rw [hsl]; rfl, Below.refl _ _⟩
  case round =>
    obtain ⟨i, rfl, hi, HX, hB⟩ := hrel
    by_cases hlt : i < s.size
    · have HW := hid (show wrongGo s.data.toList (s.size - i) i = if mayB (s.data.toList.take (i + 1)) = true then wrongGo s.data.toList (s.size - (i + 1)) (i + 1) else i by
        rw [show s.size - i = (s.size - (i + 1)) + 1 by omega, wrongGo])
      go_wp2_with fail
      go_loopw [6, 7] (fun ov kv wq => ∃ (k : Nat), kv = .int .i64 k ∧ k ≤ 9 ∧ ov = .bool ((endsP.take k).any fun e => formB (s.data.toList.take (i + 1) ++ e)) ∧ Below w.heap.size w wq) (fun _ kv _ => 9 - (intOf kv).toNat)
      case atStart => exact ⟨0, by go_num, by omega, rfl, hB⟩
      case round =>
        clear hB
        obtain ⟨k, rfl, hk, rfl, hB⟩ := hrel
        cases hok : (endsP.take k).any fun e => formB (s.data.toList.take (i + 1) ++ e)
        · by_cases hk9 : k < 9
          · have hE9 : k < endsP.length := hk9
            have hc := hE.below hB hw k hE9
            have hsz := hB.size
            have hex : s.extract 0 (i + 1) ++ bs endsP[k] = bs (s.data.toList.take (i + 1) ++ endsP[k]) := by
              have h1 := extract_bs s 0 (i + 1)
              rw [Nat.zero_add, List.drop_zero] at h1
              rw [h1, bs_app]
            have hle := ends_len endsP[k] (List.getElem_mem hE9)
            have hbl : (bs (s.data.toList.take (i + 1) ++ endsP[k])).size ≤ 3000 := by
              have hz : (bs (s.data.toList.take (i + 1) ++ endsP[k])).size = (s.data.toList.take (i + 1) ++ endsP[k]).length := rfl
              rw [hz, List.length_append, List.length_take, hsl]
              omega
            have HEX := hid hex
            have hFC := fun wx => form_c wx _ hbl
            have HN := hid (any_take (fun e => formB (s.data.toList.take (i + 1) ++ e)) endsP k hE9)
            have hi1 : (i : Int) + 1 ≤ (s.size : Int) := by omega
            have hi0 : (0 : Int) ≤ (i : Int) + 1 := by omega
            have hi2 : i + 1 ≤ s.size := hlt
            have hwi := wrap_nat1 i (by omega)
            have hcl : ¬ 9223372036854775807 < i + 1 + (bs endsP[k]).size := by
              have hz2 : (bs endsP[k]).size = endsP[k].length := rfl
              omega
            have hk9i : (k : Int) < 9 := by omega
            have h0 : 0 < wr.heap.size := by omega
            generalize endsP[k] = ek at *
            clear hex
            go_upto_region 8 with fail
            go_region_with (go_at_call 24; rw [HEX.out]; refine (hFC _).mono ?_; rintro e w2 ⟨rfl, hB2⟩)
            all_goals go_wp2_with fail
            all_goals exact ⟨⟨k + 1, by go_num, by omega, by rw [HN.out, hok, Bool.false_or]; rfl, hB.drew.trans (hB2.mono hsz)⟩, by simp [intOf]; omega⟩
          · have HM := hid (show mayB (s.data.toList.take (i + 1)) = false by
              have e9 : endsP.take k = endsP := List.take_of_length_le (by simp [endsP]; omega)
              rw [e9] at hok
              exact hok)
            have HF := hid (show wrongR s.data.toList = i by rw [← HX.out, HW.out, HM.out]; simp)
            go_wp2_with fail
            go_ret
            rw [HF.out]
            exact ⟨rfl, hB⟩
        · have HM := hid (show mayB (s.data.toList.take (i + 1)) = true from any_part _ _ _ hok)
          have HF := hid (show wrongGo s.data.toList (s.size - (i + 1)) (i + 1) = wrongR s.data.toList by rw [← HX.out, HW.out, HM.out]; simp)
          by_cases hk9 : (k : Int) < 9
          · go_wp2_with fail
            exact ⟨⟨i + 1, by go_num, hlt, HF, hB⟩, by simp [intOf]; omega⟩
          · go_wp2_with fail
            exact ⟨⟨i + 1, by go_num, hlt, HF, hB⟩, by simp [intOf]; omega⟩
    · have HF := hid (show wrongR s.data.toList = s.size by
        rw [← HX.out, show s.size - i = 0 by omega, wrongGo]; omega)
      go_wp2
      go_ret
      rw [HF.out]
      exact ⟨rfl, hB⟩

end Go.Proofs.YtpbfiffgcgnidaaDoor
