/-
  OUR OWN. The document's answer: its small functions.
-/
import Derived.Test.YtpbfiffgcgnidaaDoorWrong
namespace Go.Proofs.YtpbfiffgcgnidaaDoor
open Go.RowKit Go.WideMaps Go.Maps
attribute [local go_sem] drewN_alloc drewN_setCell

set_option maxHeartbeats 400000 in
theorem rsmall_c (c : Int) (w : World) : Calls Tryd.prog 37 #[.int .u8 c] w fun e w' => e = .returned (.bool (smallDig c)) ∧ w' = w := by
  by_cases h1 : 97 ≤ c <;> by_cases h2 : c ≤ 122 <;> by_cases h3 : 48 ≤ c <;> by_cases h4 : c ≤ 57
  all_goals try (exfalso; omega)
  all_goals
    go_enter Tryd.func37, Tryd.ntmps37
    go_wp2
    go_ret
    exact ⟨by simp [smallDig, small, h1, h2, h3, h4], rfl⟩
set_option maxHeartbeats 400000 in
theorem rgreat_c (c : Int) (w : World) : Calls Tryd.prog 38 #[.int .u8 c] w fun e w' => e = .returned (.bool (great c)) ∧ w' = w := by
  by_cases h1 : 65 ≤ c <;> by_cases h2 : c ≤ 90
  all_goals
    go_enter Tryd.func38, Tryd.ntmps38
    go_wp2
    go_ret
    exact ⟨by simp [great, h1, h2], rfl⟩
set_option maxHeartbeats 400000 in
theorem rsign_c (c : Int) (w : World) : Calls Tryd.prog 36 #[.int .u8 c] w fun e w' => e = .returned (.bool (signB c)) ∧ w' = w := by
  by_cases h1 : c = 40
  · subst h1
    go_enter Tryd.func36, Tryd.ntmps36
    go_wp2
    go_ret
    exact ⟨rfl, rfl⟩
  · by_cases h2 : c = 41
    · subst h2
      go_enter Tryd.func36, Tryd.ntmps36
      go_wp2
      go_ret
      exact ⟨rfl, rfl⟩
    · by_cases h3 : c = 44
      · subst h3
        go_enter Tryd.func36, Tryd.ntmps36
        go_wp2
        go_ret
        exact ⟨rfl, rfl⟩
      · by_cases h4 : c = 46
        · subst h4
          go_enter Tryd.func36, Tryd.ntmps36
          go_wp2
          go_ret
          exact ⟨rfl, rfl⟩
        · have e1 : (c == 40) = false := by simpa using h1
          have e2 : (c == 41) = false := by simpa using h2
          have e3 : (c == 44) = false := by simpa using h3
          have e4 : (c == 46) = false := by simpa using h4
          go_enter Tryd.func36, Tryd.ntmps36
          go_wp2
          go_ret
          exact ⟨by simp [signB, e1, e2, e3, e4], rfl⟩
theorem str_beq (a b : List UInt8) : ((bs a).toList == (bs b).toList) = decide (a = b) := by
  rw [Lib.toList_data, Lib.toList_data, bs_dat, bs_dat]
  by_cases h : a = b
  · simp [h]
  · simp [h]
set_option maxHeartbeats 400000 in
set_option maxRecDepth 100000 in
theorem in_c (w : World) (base : Nat) (ao : Option Addr) (cap : Nat) (xs : List (List UInt8)) (ho : w.ownsRow base 9 1 (.slice ao xs.length cap) xs.length (xs.map fun x => .string (bs x))) (hn : xs.length ≤ 100000) (k : List UInt8) :
    Calls Tryd.prog 16 #[.slice ao xs.length cap, .string (bs k)] w fun e w' => e = .returned (.bool (hasW xs k)) ∧ w' = w := by
  go_enter Tryd.func16, Tryd.ntmps16
  go_wp2
  go_loopw [5] (fun iv wr => ∃ (i : Nat), i ≤ xs.length ∧ iv = .int .i64 i ∧ Hid ((xs.drop i).contains k = hasW xs k) ∧ wr = w) (fun iv _ => xs.length - (intOf iv).toNat)
  case atStart => exact ⟨0, by omega, rfl, rfl, rfl⟩
  case round =>
    obtain ⟨i, hi, rfl, HX, rfl⟩ := hrel
    by_cases hlt : i < xs.length
    · obtain ⟨g, rfl, hg⟩ := own_cell ho i hlt
      have hgg : wr.cell? ⟨g, i, none⟩ = some (.string (bs xs[i])) := by rw [hg]; simp [hlt]
      have HD : Hid ((xs.drop i).contains k = (decide (xs[i] = k) || (xs.drop (i + 1)).contains k)) := by
        show _ = _
        rw [List.drop_eq_getElem_cons hlt, List.contains_cons]
        congr 1
        by_cases h : xs[i] = k
        · simp [h]
        · simp [h, show ¬ k = xs[i] from fun e => h e.symm]
      have hq := str_beq xs[i] k
      clear hg
      generalize xs[i] = x at *
      cases hd : decide (x = k)
      · rw [hd] at hq HD
        go_wp2
        exact ⟨⟨i + 1, hlt, by go_num, by show _ = _; rw [← HX.out, HD.out]; rfl, trivial⟩, by simp [intOf]; omega⟩
      · rw [hd] at hq HD
        have HE := hid (show hasW xs k = true by rw [← HX.out, HD.out]; rfl)
        go_wp2
        go_ret
        rw [HE.out]
        exact ⟨rfl, rfl⟩
    · have hie : i = xs.length := by omega
      have HE := hid (show hasW xs k = false by rw [← HX.out, hie, List.drop_length]; rfl)
      clear hie
      go_wp2
      go_ret
      rw [HE.out]
      exact ⟨rfl, rfl⟩

end Go.Proofs.YtpbfiffgcgnidaaDoor
