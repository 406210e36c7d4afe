/-
  OUR OWN. The statements' own small functions: text, rules, loaded.
-/
import Derived.Test.YtpbfiffgcgnidaaKeep2
namespace Go.Proofs.Ytpbfiffgcgnidaa
open Go.RowKit Go.WideMaps Go.Maps
attribute [local go_sem] drewN_alloc drewN_setCell

def textR (fs : List (List UInt8)) : List UInt8 := fs.flatMap fun f => f ++ [46, 32]
theorem textR_snoc (fs : List (List UInt8)) (k : Nat) (h : k < fs.length) : textR (fs.take (k + 1)) = textR (fs.take k) ++ (fs[k] ++ [46, 32]) := by
  unfold textR
  rw [List.take_succ_eq_append_getElem h, List.flatMap_append, List.flatMap_singleton]
theorem strs_get (fs : List (List UInt8)) (k : Nat) (h : k < fs.length) : (strs fs)[k]? = some (.string (bs fs[k])) := by
  unfold strs
  simp [h]

set_option maxHeartbeats 4000000 in
set_option maxRecDepth 100000 in
theorem text_c (w : World) (base : Nat) (ao : Option Addr) (cap : Nat) (fs : List (List UInt8)) (ho : w.ownsRow base 9 1 (.slice ao fs.length cap) fs.length (strs fs)) (hl : ∀ f ∈ fs, f.length ≤ 20) (hn : fs.length ≤ 16) :
    Calls Try.prog 8 #[.slice ao fs.length cap] w fun e w' => e = .returned (.string (bs (textR fs))) ∧ w' = w := by
  go_enter Try.func8, Try.ntmps8
  go_wp2
  go_loopw [3, 4] (fun v iv wr => ∃ (i : Nat), i ≤ fs.length ∧ iv = .int .i64 i ∧ v = .string (bs (textR (fs.take i))) ∧ (textR (fs.take i)).length ≤ 22 * i ∧ wr = w) (fun _ iv _ => fs.length - (intOf iv).toNat)
  case atStart => exact ⟨0, by omega, rfl, rfl, by simp [textR], rfl⟩
  case round =>
    obtain ⟨i, hi, rfl, rfl, hle, rfl⟩ := hrel
    by_cases hlt : i < fs.length
    · obtain ⟨g, rfl, hc⟩ := own_cell ho i hlt
      rw [strs_get _ _ hlt] at hc
      have hfl := hl _ (List.getElem_mem hlt)
      have HT := hid (textR_snoc fs i hlt)
      generalize fs[i] = f at *
      generalize textR (fs.take i) = acc at *
      have hb1 : (bs acc).size = acc.length := rfl
      have hb2 : (bs f).size = f.length := rfl
      go_wp2
      exact ⟨⟨i + 1, hlt, by go_num, by rw [HT.out, ← bs_append, ← bs_append, ByteArray.append_assoc]; rfl, by rw [HT.out]; simp; omega, trivial⟩, by simp [intOf]; omega⟩
    · have hie : i = fs.length := by omega
      have HS := hid (show textR fs = textR (fs.take i) by rw [hie, List.take_length])
      clear hie
      go_wp2
      go_ret
      rw [HS.out]
      exact ⟨rfl, rfl⟩

def rulesS : List UInt8 := [110, 111, 100, 101, 40, 97, 41, 46, 32, 110, 111, 100, 101, 40, 98, 41, 46, 32, 110, 111, 100, 101, 40, 99, 41, 46, 32, 110, 111, 100, 101, 40, 100, 41, 46, 32, 97, 112, 97, 114, 116, 40, 88, 44, 89, 41, 32, 58, 45, 32, 110, 111, 100, 101, 40, 88, 41, 44, 32, 110, 111, 100, 101, 40, 89, 41, 44, 32, 33, 112, 97, 116, 104, 40, 88, 44, 89, 41, 46, 32, 115, 105, 110, 107, 40, 88, 41, 32, 58, 45, 32, 110, 111, 100, 101, 40, 88, 41, 44, 32, 33, 111, 117, 116, 40, 88, 41, 46, 32, 111, 117, 116, 40, 88, 41, 32, 58, 45, 32, 101, 100, 103, 101, 40, 88, 44, 89, 41, 46, 32, 108, 111, 110, 101, 40, 88, 41, 32, 58, 45, 32, 97, 112, 97, 114, 116, 40, 88, 44, 89, 41, 44, 32, 33, 115, 111, 109, 101, 40, 88, 41, 46, 32, 115, 111, 109, 101, 40, 88, 41, 32, 58, 45, 32, 112, 97, 116, 104, 40, 88, 44, 89, 41, 46, 32]
def rulesT (v : Nat) : List UInt8 :=
  if v = 0 then rulesS ++ [112, 97, 116, 104, 40, 88, 44, 89, 41, 32, 58, 45, 32, 101, 100, 103, 101, 40, 88, 44, 89, 41, 46, 32, 112, 97, 116, 104, 40, 88, 44, 90, 41, 32, 58, 45, 32, 112, 97, 116, 104, 40, 88, 44, 89, 41, 44, 32, 101, 100, 103, 101, 40, 89, 44, 90, 41, 46]
  else if v = 1 then rulesS ++ [112, 97, 116, 104, 40, 88, 44, 90, 41, 32, 58, 45, 32, 101, 100, 103, 101, 40, 88, 44, 89, 41, 44, 32, 112, 97, 116, 104, 40, 89, 44, 90, 41, 46, 32, 112, 97, 116, 104, 40, 88, 44, 89, 41, 32, 58, 45, 32, 101, 100, 103, 101, 40, 88, 44, 89, 41, 46]
  else if v = 2 then [112, 97, 116, 104, 40, 65, 44, 67, 41, 32, 58, 45, 32, 112, 97, 116, 104, 40, 65, 44, 66, 41, 44, 32, 112, 97, 116, 104, 40, 66, 44, 67, 41, 46, 32, 112, 97, 116, 104, 40, 65, 44, 66, 41, 32, 58, 45, 32, 101, 100, 103, 101, 40, 65, 44, 66, 41, 46, 32] ++ rulesS
  else rulesS ++ [112, 97, 116, 104, 40, 88, 44, 89, 41, 32, 58, 45, 32, 104, 111, 112, 40, 88, 44, 89, 41, 46, 32, 104, 111, 112, 40, 88, 44, 89, 41, 32, 58, 45, 32, 101, 100, 103, 101, 40, 88, 44, 89, 41, 46, 32, 104, 111, 112, 40, 88, 44, 90, 41, 32, 58, 45, 32, 104, 111, 112, 40, 88, 44, 89, 41, 44, 32, 112, 97, 116, 104, 40, 89, 44, 90, 41, 46]

theorem str_eq {a b : ByteArray} (h : a.data.toList = b.data.toList) : Ending.returned (.string a) = .returned (.string b) := by
  have : a = b := by
    apply ByteArray.ext
    exact Array.toList_inj.1 h
  rw [this]

set_option maxHeartbeats 4000000 in
set_option maxRecDepth 100000 in
theorem rules_c (w : World) (c : Int) (h1 : -9223372036854775808 ≤ c) (h2 : c ≤ 9223372036854775807) :
    Calls Try.prog 9 #[.int .i64 c] w fun e w' => e = .returned (.string (bs (rulesT (pickN c 4)))) ∧ w' = w := by
  have hp := pickN_lt c 4 (by decide)
  obtain ⟨k, HK⟩ : ∃ k, Hid (k = pickN c 4) := ⟨_, rfl⟩
  have hpc := pick_c c 4
  rw [← HK.out] at hp hpc ⊢
  have HPC := hid hpc
  clear hpc
  have h4 : k = 0 ∨ k = 1 ∨ k = 2 ∨ k = 3 := by omega
  clear hp HK
  rcases h4 with rfl | rfl | rfl | rfl
  all_goals
    go_enter Try.func9, Try.ntmps9
    go_wp2_with (go_at_call 11; refine (HPC.out _ h1 h2 (by decide) (by decide)).mono ?_; rintro e w' ⟨rfl, rfl⟩)
    go_ret
    refine ⟨str_eq ?_, rfl⟩
    decide +kernel


end Go.Proofs.Ytpbfiffgcgnidaa
