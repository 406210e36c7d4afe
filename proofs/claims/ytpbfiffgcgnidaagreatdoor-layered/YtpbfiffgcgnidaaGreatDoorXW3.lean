/-
  OUR OWN. One call of a script, by what the two bases answer.
-/
import Derived.Test.YtpbfiffgcgnidaaGreatDoorXRead2
import Derived.Test.YtpbfiffgcgnidaaGreatDoorXT1
import Derived.Test.YtpbfiffgcgnidaaGreatDoorXW1
import Derived.Test.YtpbfiffgcgnidaaGreatDoorXP2
namespace Go.Proofs.YtpbfiffgcgnidaaGreatDoor
open Go.RowKit Go.WideMaps Go.Maps
attribute [local go_sem] drewN_alloc drewN_setCell

/-- Which base is meant. -/
def pick (m : Int) (n : Nat) : Nat := ((m.tmod n + n).tmod n).toNat
theorem pick_facts (m : Int) (n : Nat) (hn : 0 < n) (hn2 : n ≤ 5000000000001) : IntKind.i64.wrap (m.tmod n + n) = m.tmod n + n ∧ (m.tmod n + n).tmod n = ((pick m n : Nat) : Int) ∧ pick m n < n := by
  have h1 : m.tmod n < n := Int.tmod_lt_of_pos m (by omega)
  have h2 : -(n : Int) < m.tmod n := by
    exact Int.lt_tmod_of_pos m (by omega)
  have h3 : 0 ≤ m.tmod n + n := by omega
  have h4 : (m.tmod n + n).tmod n = (m.tmod n + n) % n := Int.tmod_eq_emod_of_nonneg h3
  have h5 := Int.emod_nonneg (m.tmod n + n) (show (n : Int) ≠ 0 by omega)
  have h6 := Int.emod_lt_of_pos (m.tmod n + n) (show (0 : Int) < n by omega)
  refine ⟨?_, ?_, ?_⟩
  · simp [IntKind.wrap, IntKind.bits, IntKind.signed]
    omega
  · unfold pick; omega
  · unfold pick; omega

theorem stp_one (w : World) (o : Obj) : Below w.heap.size w (w.alloc o) := (Below.refl _ w).alloc (Nat.le_refl _) o
theorem stp_size (w : World) (o : Obj) : (w.alloc o).heap.size = w.heap.size + 1 := by simp
theorem stp_two (w : World) (o1 o2 : Obj) : Below w.heap.size w ((w.alloc o1).alloc o2).drew := (((Below.refl _ w).alloc (Nat.le_refl _) o1).alloc (by simp) o2).drew

set_option maxHeartbeats 2000000 in
set_option maxRecDepth 100000 in
theorem step_print_c (w : World) (wb g n cap bb rb : Nat) (hv lv : Value) (m : Int) (s : ByteArray) (S : ByteArray) (Q1 Q2 : World → Prop) (hW : Blk w wb [.slice (some ⟨g, 0, none⟩) n cap, hv] 29) (hn : 0 < n) (hn2 : n ≤ 5000000000001) (hg : g < w.heap.size)
    (c0 : w.cell? ⟨g, pick m n * 2, none⟩ = some (.pointer (some ⟨bb, 0, none⟩))) (c1 : w.cell? ⟨g, pick m n * 2 + 1, none⟩ = some (.pointer (some ⟨rb, 0, none⟩)))
    (hp : ∀ W ob xb, Below w.heap.size w W → Blk W ob [.int .i64 2, .int .i64 m, .string s, lv] 33 → Blk W xb [.pointer (some ⟨bb, 0, none⟩), .pointer (some ⟨rb, 0, none⟩)] 44 → Calls Tryz.prog 14 #[.pointer (some ⟨bb, 0, none⟩)] W fun e w' => e = .returned (.string S) ∧ Q1 w' ∧ Blk w' ob [.int .i64 2, .int .i64 m, .string s, lv] 33 ∧ Blk w' xb [.pointer (some ⟨bb, 0, none⟩), .pointer (some ⟨rb, 0, none⟩)] 44)
    (hr : ∀ w1, Q1 w1 → Calls Tryz.prog 15 #[.pointer (some ⟨rb, 0, none⟩)] w1 fun e w' => e = .returned (.string S) ∧ Q2 w') :
    Calls Tryz.prog 10 #[.pointer (some ⟨wb, 0, none⟩), .agg #[.int .i64 2, .int .i64 m, .string s, lv]] w fun e w' => e = .returned (.bool true) ∧ Q2 w' := by
  obtain ⟨f1, f2, f3⟩ := pick_facts m n hn hn2
  have p0 : w.cell? ⟨wb, 0, none⟩ = some (.slice (some ⟨g, 0, none⟩) n cap) := hW.cell 0
  have hlw := hW.lt
  have hn0 : ¬ (n : Int) = 0 := by omega
  generalize pick m n = i at *
  have hO := ((Blk.new w [.int .i64 2, .int .i64 m, .string s, lv] 33).alloc (.cells #[.pointer (some ⟨bb, 0, none⟩), .pointer (some ⟨rb, 0, none⟩)] 44)).drew
  have hX := (Blk.new (w.alloc (.cells #[.int .i64 2, .int .i64 m, .string s, lv] 33)) [.pointer (some ⟨bb, 0, none⟩), .pointer (some ⟨rb, 0, none⟩)] 44).drew
  rw [stp_size] at hX
  have hB := stp_two w (.cells #[.int .i64 2, .int .i64 m, .string s, lv] 33) (.cells #[.pointer (some ⟨bb, 0, none⟩), .pointer (some ⟨rb, 0, none⟩)] 44)
  go_enter Tryz.func10, Tryz.ntmps10
  go_wp2_with fail
  go_region
  go_wp2_with (first
    | (go_at_call 14; refine (hp _ w.heap.size (w.heap.size + 1) hB hO hX).mono ?_; rintro e w1 ⟨rfl, hq1, hO1, hX1⟩; have x1 : w1.cell? ⟨w.heap.size + 1, 1, none⟩ = some (.pointer (some ⟨rb, 0, none⟩)) := hX1.cell 1; have o2 : w1.cell? ⟨w.heap.size, 2, none⟩ = some (.string s) := hO1.cell 2)
    | (go_at_call 15; refine (hr _ hq1).mono ?_; rintro e w2 ⟨rfl, hq2⟩))
  go_ret
  exact ⟨rfl, hq2⟩

set_option maxHeartbeats 2000000 in
set_option maxRecDepth 100000 in
theorem step_assert_c (w : World) (wb g n cap bb rb : Nat) (hv lv : Value) (m : Int) (s : ByteArray) (x y : Nat) (Q1 Q2 : World → Prop) (hW : Blk w wb [.slice (some ⟨g, 0, none⟩) n cap, hv] 29) (hn : 0 < n) (hn2 : n ≤ 5000000000001) (hg : g < w.heap.size)
    (c0 : w.cell? ⟨g, pick m n * 2, none⟩ = some (.pointer (some ⟨bb, 0, none⟩))) (c1 : w.cell? ⟨g, pick m n * 2 + 1, none⟩ = some (.pointer (some ⟨rb, 0, none⟩)))
    (hp : ∀ W ob xb, Below w.heap.size w W → Blk W ob [.int .i64 3, .int .i64 m, .string s, lv] 33 → Blk W xb [.pointer (some ⟨bb, 0, none⟩), .pointer (some ⟨rb, 0, none⟩)] 44 → Calls Tryz.prog 16 #[.pointer (some ⟨bb, 0, none⟩), .string s] W fun e w' => e = .returned (.tuple #[.int .i64 (x : Nat), .int .i64 (y : Nat)]) ∧ Q1 w' ∧ Blk w' ob [.int .i64 3, .int .i64 m, .string s, lv] 33 ∧ Blk w' xb [.pointer (some ⟨bb, 0, none⟩), .pointer (some ⟨rb, 0, none⟩)] 44)
    (hr : ∀ w1, Q1 w1 → Calls Tryz.prog 17 #[.pointer (some ⟨rb, 0, none⟩), .string s] w1 fun e w' => e = .returned (.tuple #[.int .i64 (x : Nat), .int .i64 (y : Nat)]) ∧ Q2 w') :
    Calls Tryz.prog 10 #[.pointer (some ⟨wb, 0, none⟩), .agg #[.int .i64 3, .int .i64 m, .string s, lv]] w fun e w' => e = .returned (.bool true) ∧ Q2 w' := by
  obtain ⟨f1, f2, f3⟩ := pick_facts m n hn hn2
  have p0 : w.cell? ⟨wb, 0, none⟩ = some (.slice (some ⟨g, 0, none⟩) n cap) := hW.cell 0
  have hlw := hW.lt
  have hn0 : ¬ (n : Int) = 0 := by omega
  generalize pick m n = i at *
  have hO := ((Blk.new w [.int .i64 3, .int .i64 m, .string s, lv] 33).alloc (.cells #[.pointer (some ⟨bb, 0, none⟩), .pointer (some ⟨rb, 0, none⟩)] 44)).drew
  have hX := (Blk.new (w.alloc (.cells #[.int .i64 3, .int .i64 m, .string s, lv] 33)) [.pointer (some ⟨bb, 0, none⟩), .pointer (some ⟨rb, 0, none⟩)] 44).drew
  rw [stp_size] at hX
  have hB := stp_two w (.cells #[.int .i64 3, .int .i64 m, .string s, lv] 33) (.cells #[.pointer (some ⟨bb, 0, none⟩), .pointer (some ⟨rb, 0, none⟩)] 44)
  go_enter Tryz.func10, Tryz.ntmps10
  go_wp2_with fail
  go_region
  go_wp2_with (first
    | (go_at_call 16; refine (hp _ w.heap.size (w.heap.size + 1) hB hO hX).mono ?_; rintro e w1 ⟨rfl, hq1, hO1, hX1⟩; have x1 : w1.cell? ⟨w.heap.size + 1, 1, none⟩ = some (.pointer (some ⟨rb, 0, none⟩)) := hX1.cell 1; have o2 : w1.cell? ⟨w.heap.size, 2, none⟩ = some (.string s) := hO1.cell 2)
    | (go_at_call 17; refine (hr _ hq1).mono ?_; rintro e w2 ⟨rfl, hq2⟩))
  go_ret
  exact ⟨rfl, hq2⟩

set_option maxHeartbeats 2000000 in
set_option maxRecDepth 100000 in
theorem step_retract_c (w : World) (wb g n cap bb rb : Nat) (hv lv : Value) (m : Int) (s : ByteArray) (x y : Nat) (Q1 Q2 : World → Prop) (hW : Blk w wb [.slice (some ⟨g, 0, none⟩) n cap, hv] 29) (hn : 0 < n) (hn2 : n ≤ 5000000000001) (hg : g < w.heap.size)
    (c0 : w.cell? ⟨g, pick m n * 2, none⟩ = some (.pointer (some ⟨bb, 0, none⟩))) (c1 : w.cell? ⟨g, pick m n * 2 + 1, none⟩ = some (.pointer (some ⟨rb, 0, none⟩)))
    (hp : ∀ W ob xb, Below w.heap.size w W → Blk W ob [.int .i64 4, .int .i64 m, .string s, lv] 33 → Blk W xb [.pointer (some ⟨bb, 0, none⟩), .pointer (some ⟨rb, 0, none⟩)] 44 → Calls Tryz.prog 18 #[.pointer (some ⟨bb, 0, none⟩), .string s] W fun e w' => e = .returned (.tuple #[.int .i64 (x : Nat), .int .i64 (y : Nat)]) ∧ Q1 w' ∧ Blk w' ob [.int .i64 4, .int .i64 m, .string s, lv] 33 ∧ Blk w' xb [.pointer (some ⟨bb, 0, none⟩), .pointer (some ⟨rb, 0, none⟩)] 44)
    (hr : ∀ w1, Q1 w1 → Calls Tryz.prog 19 #[.pointer (some ⟨rb, 0, none⟩), .string s] w1 fun e w' => e = .returned (.tuple #[.int .i64 (x : Nat), .int .i64 (y : Nat)]) ∧ Q2 w') :
    Calls Tryz.prog 10 #[.pointer (some ⟨wb, 0, none⟩), .agg #[.int .i64 4, .int .i64 m, .string s, lv]] w fun e w' => e = .returned (.bool true) ∧ Q2 w' := by
  obtain ⟨f1, f2, f3⟩ := pick_facts m n hn hn2
  have p0 : w.cell? ⟨wb, 0, none⟩ = some (.slice (some ⟨g, 0, none⟩) n cap) := hW.cell 0
  have hlw := hW.lt
  have hn0 : ¬ (n : Int) = 0 := by omega
  generalize pick m n = i at *
  have hO := ((Blk.new w [.int .i64 4, .int .i64 m, .string s, lv] 33).alloc (.cells #[.pointer (some ⟨bb, 0, none⟩), .pointer (some ⟨rb, 0, none⟩)] 44)).drew
  have hX := (Blk.new (w.alloc (.cells #[.int .i64 4, .int .i64 m, .string s, lv] 33)) [.pointer (some ⟨bb, 0, none⟩), .pointer (some ⟨rb, 0, none⟩)] 44).drew
  rw [stp_size] at hX
  have hB := stp_two w (.cells #[.int .i64 4, .int .i64 m, .string s, lv] 33) (.cells #[.pointer (some ⟨bb, 0, none⟩), .pointer (some ⟨rb, 0, none⟩)] 44)
  go_enter Tryz.func10, Tryz.ntmps10
  go_wp2_with fail
  go_region
  go_wp2_with (first
    | (go_at_call 18; refine (hp _ w.heap.size (w.heap.size + 1) hB hO hX).mono ?_; rintro e w1 ⟨rfl, hq1, hO1, hX1⟩; have x1 : w1.cell? ⟨w.heap.size + 1, 1, none⟩ = some (.pointer (some ⟨rb, 0, none⟩)) := hX1.cell 1; have o2 : w1.cell? ⟨w.heap.size, 2, none⟩ = some (.string s) := hO1.cell 2)
    | (go_at_call 19; refine (hr _ hq1).mono ?_; rintro e w2 ⟨rfl, hq2⟩))
  go_ret
  exact ⟨rfl, hq2⟩

set_option maxHeartbeats 2000000 in
set_option maxRecDepth 100000 in
theorem step_layer_c (w : World) (wb g n cap bb rb : Nat) (hv lv : Value) (m : Int) (s : ByteArray) (z : Int) (Q1 Q2 : World → Prop) (hW : Blk w wb [.slice (some ⟨g, 0, none⟩) n cap, hv] 29) (hn : 0 < n) (hn2 : n ≤ 5000000000001) (hg : g < w.heap.size)
    (c0 : w.cell? ⟨g, pick m n * 2, none⟩ = some (.pointer (some ⟨bb, 0, none⟩))) (c1 : w.cell? ⟨g, pick m n * 2 + 1, none⟩ = some (.pointer (some ⟨rb, 0, none⟩)))
    (hp : ∀ W ob xb, Below w.heap.size w W → Blk W ob [.int .i64 5, .int .i64 m, .string s, lv] 33 → Blk W xb [.pointer (some ⟨bb, 0, none⟩), .pointer (some ⟨rb, 0, none⟩)] 44 → Calls Tryz.prog 20 #[.pointer (some ⟨bb, 0, none⟩), .string s] W fun e w' => e = .returned (.int .i64 z) ∧ Q1 w' ∧ Blk w' ob [.int .i64 5, .int .i64 m, .string s, lv] 33 ∧ Blk w' xb [.pointer (some ⟨bb, 0, none⟩), .pointer (some ⟨rb, 0, none⟩)] 44)
    (hr : ∀ w1, Q1 w1 → Calls Tryz.prog 21 #[.pointer (some ⟨rb, 0, none⟩), .string s] w1 fun e w' => e = .returned (.int .i64 z) ∧ Q2 w') :
    Calls Tryz.prog 10 #[.pointer (some ⟨wb, 0, none⟩), .agg #[.int .i64 5, .int .i64 m, .string s, lv]] w fun e w' => e = .returned (.bool true) ∧ Q2 w' := by
  obtain ⟨f1, f2, f3⟩ := pick_facts m n hn hn2
  have p0 : w.cell? ⟨wb, 0, none⟩ = some (.slice (some ⟨g, 0, none⟩) n cap) := hW.cell 0
  have hlw := hW.lt
  have hn0 : ¬ (n : Int) = 0 := by omega
  generalize pick m n = i at *
  have hO := ((Blk.new w [.int .i64 5, .int .i64 m, .string s, lv] 33).alloc (.cells #[.pointer (some ⟨bb, 0, none⟩), .pointer (some ⟨rb, 0, none⟩)] 44)).drew
  have hX := (Blk.new (w.alloc (.cells #[.int .i64 5, .int .i64 m, .string s, lv] 33)) [.pointer (some ⟨bb, 0, none⟩), .pointer (some ⟨rb, 0, none⟩)] 44).drew
  rw [stp_size] at hX
  have hB := stp_two w (.cells #[.int .i64 5, .int .i64 m, .string s, lv] 33) (.cells #[.pointer (some ⟨bb, 0, none⟩), .pointer (some ⟨rb, 0, none⟩)] 44)
  go_enter Tryz.func10, Tryz.ntmps10
  go_wp2_with fail
  go_region
  go_wp2_with (first
    | (go_at_call 20; refine (hp _ w.heap.size (w.heap.size + 1) hB hO hX).mono ?_; rintro e w1 ⟨rfl, hq1, hO1, hX1⟩; have x1 : w1.cell? ⟨w.heap.size + 1, 1, none⟩ = some (.pointer (some ⟨rb, 0, none⟩)) := hX1.cell 1; have o2 : w1.cell? ⟨w.heap.size, 2, none⟩ = some (.string s) := hO1.cell 2)
    | (go_at_call 21; refine (hr _ hq1).mono ?_; rintro e w2 ⟨rfl, hq2⟩))
  go_ret
  exact ⟨rfl, hq2⟩

set_option maxHeartbeats 2000000 in
set_option maxRecDepth 100000 in
theorem step_load_c (w : World) (wb : Nat) (lv : Value) (m : Int) (s : ByteArray) (Q : World → Prop)
    (hl : ∀ W, Below w.heap.size w W → Calls Tryz.prog 9 #[.pointer (some ⟨wb, 0, none⟩), .string s] W fun e w' => e = .returned (.bool true) ∧ Q w') :
    Calls Tryz.prog 10 #[.pointer (some ⟨wb, 0, none⟩), .agg #[.int .i64 1, .int .i64 m, .string s, lv]] w fun e w' => e = .returned (.bool true) ∧ Q w' := by
  have hB := stp_one w (.cells #[.int .i64 1, .int .i64 m, .string s, lv] 33)
  go_enter Tryz.func10, Tryz.ntmps10
  go_wp2_with (go_at_call 9; refine (hl _ hB).mono ?_; rintro e w1 ⟨rfl, hq⟩)
  go_ret
  exact ⟨rfl, hq⟩

set_option maxHeartbeats 2000000 in
set_option maxRecDepth 100000 in
theorem step_none_c (w : World) (wb g n cap bb rb : Nat) (hv lv : Value) (kd m : Int) (s : ByteArray) (hW : Blk w wb [.slice (some ⟨g, 0, none⟩) n cap, hv] 29) (hn : 0 < n) (hn2 : n ≤ 5000000000001) (hg : g < w.heap.size) (hk : kd < 1 ∨ 7 < kd)
    (c0 : w.cell? ⟨g, pick m n * 2, none⟩ = some (.pointer (some ⟨bb, 0, none⟩))) (c1 : w.cell? ⟨g, pick m n * 2 + 1, none⟩ = some (.pointer (some ⟨rb, 0, none⟩))) :
    Calls Tryz.prog 10 #[.pointer (some ⟨wb, 0, none⟩), .agg #[.int .i64 kd, .int .i64 m, .string s, lv]] w fun e w' => e = .returned (.bool true) ∧ Below w.heap.size w w' := by
  obtain ⟨f1, f2, f3⟩ := pick_facts m n hn hn2
  have p0 : w.cell? ⟨wb, 0, none⟩ = some (.slice (some ⟨g, 0, none⟩) n cap) := hW.cell 0
  have hlw := hW.lt
  have hn0 : ¬ (n : Int) = 0 := by omega
  have k1 : (kd == 1) = false := by simp; omega
  have k2 : (kd == 2) = false := by simp; omega
  have k3 : (kd == 3) = false := by simp; omega
  have k4 : (kd == 4) = false := by simp; omega
  have k5 : (kd == 5) = false := by simp; omega
  have k6 : (kd == 6) = false := by simp; omega
  have k7 : (kd == 7) = false := by simp; omega
  generalize pick m n = i at *
  have hB := stp_two w (.cells #[.int .i64 kd, .int .i64 m, .string s, lv] 33) (.cells #[.pointer (some ⟨bb, 0, none⟩), .pointer (some ⟨rb, 0, none⟩)] 44)
  go_enter Tryz.func10, Tryz.ntmps10
  go_wp2_with fail
  go_region
  go_wp2_with fail
  go_ret
  exact ⟨rfl, hB⟩

set_option maxHeartbeats 2000000 in
set_option maxRecDepth 100000 in
theorem looks_c (w : World) (wb : Nat) (pv : Value) (hW : Blk w wb [pv, .slice none 0 0] 29) :
    Calls Tryz.prog 11 #[.pointer (some ⟨wb, 0, none⟩)] w fun e w' => e = .returned (.bool true) ∧ Below w.heap.size w w' := by
  have p1 : w.cell? ⟨wb, 1, none⟩ = some (.slice none 0 0) := hW.cell 1
  have hlw := hW.lt
  go_enter Tryz.func11, Tryz.ntmps11
  go_wp2_with fail
  go_loopw [3] (fun iv wr => iv = .int .i64 0 ∧ wr = w) (fun _ _ => 0)
  case atStart => exact ⟨rfl, rfl⟩
  case round =>
    obtain ⟨rfl, rfl⟩ := hrel
    go_wp2_with fail
    go_ret
    exact ⟨rfl, Below.refl _ _⟩

end Go.Proofs.YtpbfiffgcgnidaaGreatDoor

namespace Go.Proofs.YtpbfiffgcgnidaaGreatDoor
open Go.RowKit Go.WideMaps Go.Maps

/-- What one call leaves. -/
def StepPost (w : World) (B wb : Nat) (hv : Value) (ps : List PR) (e : Ending) (w' : World) : Prop :=
  e = .returned (.bool true) ∧ (∃ ps', WorldIs w' B wb hv ps' ∧ ps.length ≤ ps'.length ∧ ps'.length ≤ ps.length + 1) ∧ Below B w w' ∧ (∀ ob cs, Blk w ob cs 33 → Blk w' ob cs 33)

theorem pair_at {w : World} {B : Nat} {ao : Option Addr} {cap : Nat} {ps : List PR} (h : w.ownsRow B 44 2 (.slice ao ps.length cap) ps.length (ps.flatMap PR.ptrs)) (i : Nat) (hi : i < ps.length) :
    ∃ g, ao = some ⟨g, 0, none⟩ ∧ g < w.heap.size ∧ w.cell? ⟨g, i * 2, none⟩ = some (.pointer (some ⟨ps[i].bb, 0, none⟩)) ∧ w.cell? ⟨g, i * 2 + 1, none⟩ = some (.pointer (some ⟨ps[i].rb, 0, none⟩)) := by
  have h' := h
  rw [List.flatMap_def] at h'
  obtain ⟨g, rfl, _, hc⟩ := own_at h' (by intro r hr; obtain ⟨p, _, rfl⟩ := List.mem_map.1 hr; rfl) (by simp) i hi
  have e : (ps.map PR.ptrs).getD i [] = (ps[i]).ptrs := by rw [List.getD_eq_getElem?_getD, List.getElem?_map, List.getElem?_eq_getElem hi]; rfl
  have c0 := hc 0 (by decide)
  have c1 := hc 1 (by decide)
  rw [e] at c0 c1
  exact ⟨g, rfl, (h.lt g rfl).2, c0, c1⟩

/-- Between the two: the document's base is as it was. -/
theorem change_mid {w w1 : World} {B wb : Nat} {hv : Value} {ps : List PR} (h : WorldIs w B wb hv ps) {i : Nat} {x : PR} (hi : ps[i]? = some x) {r : (Nat × Nat) × List RC} {e : Ending} (hc : PChange w B x.bb x.v r e w1) (hg : Fine r.2) :
    EndsIs w1 ∧ 0 < w1.heap.size ∧ B ≤ w1.heap.size ∧ RIs w1 B x.rb x.r x.ds := by
  have hlt := (List.getElem?_eq_some_iff.1 hi).1
  have hx := h.bases.prog i x hi
  obtain ⟨v', hb1⟩ := h.bases.pchange hi hc hg
  have hi1 : (ps.set i { x with v := v', cs := r.2 })[i]? = some { x with v := v', cs := r.2 } := by rw [List.getElem?_set, if_pos rfl, if_pos hlt]
  have hy1 := hb1.ref i _ hi1
  have hB1 : Below B w w1 := hc.2.2.below h.le (by rintro k (rfl | hk); exact hx.up; exact (hx.lt k hk).1)
  have := hB1.size
  have := h.le
  have := h.pos
  exact ⟨h.ends.below hB1 h.pos, by omega, by omega, hy1⟩

theorem step_kept (w : World) (B wb : Nat) (hv : Value) (ps : List PR) (hI : WorldIs w B wb hv ps) (hps : 0 < ps.length) (hn : ps.length ≤ 5000000000000) (kd m : Int) (s : ByteArray) (hs : s.size ≤ maxLen) (lv : Value) (hk : kd ≤ 4) :
    Calls Tryz.prog 10 #[.pointer (some ⟨wb, 0, none⟩), .agg #[.int .i64 kd, .int .i64 m, .string s, lv]] w fun e w' => StepPost w B wb hv ps e w' := by
  have hsame := hI.same
  have hle := hI.le
  obtain ⟨pv, hW, hP⟩ := hI.row
  obtain ⟨ao, cap, rfl⟩ := own_form hP
  obtain ⟨-, -, hpk⟩ := pick_facts m ps.length hps (by omega)
  obtain ⟨g, rfl, hg, c0, c1⟩ := pair_at hP (pick m ps.length) hpk
  have hi : ps[pick m ps.length]? = some ps[pick m ps.length] := List.getElem?_eq_getElem hpk
  have hds := hsame _ (List.getElem_mem hpk)
  have hx := hI.bases.prog _ _ hi
  have hy := hI.bases.ref _ _ hi
  generalize hxe : ps[pick m ps.length] = x at *
  rw [hds] at hy
  have hf := hx.good
  by_cases h1 : kd = 1
  · subst h1
    refine (step_load_c w wb lv m s (fun w' => (∃ ps', WorldIs w' B wb hv ps' ∧ ps.length ≤ ps'.length ∧ ps'.length ≤ ps.length + 1) ∧ Below B w w' ∧ (∀ ob cs, Blk w ob cs 33 → Blk w' ob cs 33)) ?_).mono fun e w' h => h
    intro W hB
    refine (wloads_c W B wb hv ps (hI.below hB) hn s hs).mono ?_
    rintro e w' ⟨rfl, ⟨ps', hI', hl⟩, hB', hop⟩
    refine ⟨rfl, ⟨ps', hI', ?_, ?_⟩, (hB.mono hle).trans hB', fun ob c hb => hop ob c (hb.below hB)⟩
    · rw [hl]; split <;> omega
    · rw [hl]; split <;> omega
  · by_cases h2 : kd = 2
    · subst h2
      refine (step_print_c w wb g ps.length cap x.bb x.rb hv lv m s (bs (rshown x.cs)) (fun w' => Below w.heap.size w w') (fun w' => Below w.heap.size w w') hW hps (by omega) hg c0 c1 ?_ ?_).mono ?_
      · intro W ob xb hB hO hX
        have hxW := hx.below hB
        refine (print_c W B x.bb (x.cs.map RC.d) ⟨x.v, hxW.blk, hxW.row⟩ hf.wf (by simpa using hf.few)).mono ?_
        rintro e w' ⟨rfl, hB'⟩
        exact ⟨by rw [shown_all x.cs (fun c hc => (hf.good c hc).neg)], hB.trans (hB'.mono hB.size), hO.below hB', hX.below hB'⟩
      · intro w1 hB1
        have hy1 := hy.below hB1
        refine (rprint_c w1 B x.rb x.cs ⟨x.r, hy1.blk, hy1.row⟩ (fun c hc => (hf.good c hc).small) hf.few).mono ?_
        rintro e w' ⟨rfl, hB'⟩
        exact ⟨rfl, hB1.trans (hB'.mono hB1.size)⟩
      · rintro e w' ⟨rfl, hB⟩
        exact ⟨rfl, ⟨ps, hI.below hB, Nat.le_refl _, by omega⟩, hB.mono hle, fun ob c hb => hb.below hB⟩
    · by_cases h3 : kd = 3
      · subst h3
        have hgr := fine_assert x.cs s hf
        refine (step_assert_c w wb g ps.length cap x.bb x.rb hv lv m s (assertC x.cs s).1.1 (assertC x.cs s).1.2 (fun w' => ∃ W e, Below w.heap.size w W ∧ PChange W B x.bb x.v (assertC x.cs s) e w') (fun w' => (∃ ps', WorldIs w' B wb hv ps' ∧ ps.length ≤ ps'.length ∧ ps'.length ≤ ps.length + 1) ∧ Below B w w' ∧ (∀ ob cs, Blk w ob cs 33 → Blk w' ob cs 33)) hW hps (by omega) hg c0 c1 ?_ ?_).mono fun e w' h => h
        · intro W ob xb hB hO hX
          have hxW := hx.below hB
          refine (passert_c W B x.bb x.v x.cs (Nat.le_trans hle hB.size) hxW.blk hxW.row hf.good hf.wf hf.few s hs).mono ?_
          intro e w' hc
          exact ⟨hc.1, ⟨W, e, hB, hc⟩, hO.only hc.2.2 (typed_ne (hxW.typed _ (by decide) (by decide)) hO), hX.only hc.2.2 (typed_ne (hxW.typed _ (by decide) (by decide)) hX)⟩
        · rintro w1 ⟨W, e, hB, hc⟩
          obtain ⟨e1, e2, e3, hy1⟩ := change_mid (hI.below hB) hi hc hgr
          rw [hds] at hy1
          refine (rassert_c w1 e1 e2 B x.rb x.r x.cs e3 hy1.blk hy1.row hf.few (fun c hc => (hf.good c hc).small.few) (fun c hc => (hf.good c hc).small) s hs).mono ?_
          intro e' w2 hd
          obtain ⟨ps', hl, hI', hB', hop⟩ := (hI.below hB).change hi hc hd hgr
          exact ⟨hd.1, ⟨ps', hI', by omega, by omega⟩, (hB.mono hle).trans hB', fun ob c hb => hop ob c (hb.below hB)⟩
      · by_cases h4 : kd = 4
        · subst h4
          have hgr := fine_retract x.cs s hf
          refine (step_retract_c w wb g ps.length cap x.bb x.rb hv lv m s (retractC x.cs s).1.1 (retractC x.cs s).1.2 (fun w' => ∃ W e, Below w.heap.size w W ∧ PChange W B x.bb x.v (retractC x.cs s) e w') (fun w' => (∃ ps', WorldIs w' B wb hv ps' ∧ ps.length ≤ ps'.length ∧ ps'.length ≤ ps.length + 1) ∧ Below B w w' ∧ (∀ ob cs, Blk w ob cs 33 → Blk w' ob cs 33)) hW hps (by omega) hg c0 c1 ?_ ?_).mono fun e w' h => h
          · intro W ob xb hB hO hX
            have hxW := hx.below hB
            refine (pretract_c W B x.bb x.v x.cs (Nat.le_trans hle hB.size) hxW.blk hxW.row hf.good hf.wf hf.few s hs).mono ?_
            intro e w' hc
            exact ⟨hc.1, ⟨W, e, hB, hc⟩, hO.only hc.2.2 (typed_ne (hxW.typed _ (by decide) (by decide)) hO), hX.only hc.2.2 (typed_ne (hxW.typed _ (by decide) (by decide)) hX)⟩
          · rintro w1 ⟨W, e, hB, hc⟩
            obtain ⟨e1, e2, e3, hy1⟩ := change_mid (hI.below hB) hi hc hgr
            rw [hds] at hy1
            refine (rretract_c w1 e1 e2 B x.rb x.r x.cs e3 hy1.blk hy1.row hf.few (fun c hc => (hf.good c hc).small.few) (fun c hc => (hf.good c hc).small) s hs).mono ?_
            intro e' w2 hd
            obtain ⟨ps', hl, hI', hB', hop⟩ := (hI.below hB).change hi hc hd hgr
            exact ⟨hd.1, ⟨ps', hI', by omega, by omega⟩, (hB.mono hle).trans hB', fun ob c hb => hop ob c (hb.below hB)⟩
        · refine (step_none_c w wb g ps.length cap x.bb x.rb hv lv kd m s hW hps (by omega) hg (by omega) c0 c1).mono ?_
          rintro e w' ⟨rfl, hB⟩
          exact ⟨rfl, ⟨ps, hI.below hB, Nat.le_refl _, by omega⟩, hB.mono hle, fun ob c hb => hb.below hB⟩

end Go.Proofs.YtpbfiffgcgnidaaGreatDoor
