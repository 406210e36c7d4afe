/-
  OUR OWN. Contracts of the reader's small functions.
-/
import Derived.Test.YtpbfiffgcgnidaaGreatDoorXBase
import Derived.Test.YtpbfiffgcgnidaaGreatDoorRows
namespace Go.Proofs.YtpbfiffgcgnidaaGreatDoor
open Go.RowKit

def small (c : Int) : Bool := decide (97 ≤ c) && decide (c ≤ 122)
def great (c : Int) : Bool := decide (65 ≤ c) && decide (c ≤ 90)
def smallDig (c : Int) : Bool := small c || (decide (48 ≤ c) && decide (c ≤ 57))
def letterDig (c : Int) : Bool := great c || smallDig c

set_option maxHeartbeats 400000 in
theorem isSmall_c (c : Int) (w : World) : Calls Tryz.prog 132 #[.int .u8 c] w fun e w' => e = .returned (.bool (small c)) ∧ w' = w := by
  by_cases h1 : 97 ≤ c <;> by_cases h2 : c ≤ 122
  all_goals
    go_enter Tryz.func132, Tryz.ntmps132
    go_wp2
    go_ret
    exact ⟨by simp [small, h1, h2], rfl⟩

set_option maxHeartbeats 400000 in
theorem isGreat_c (c : Int) (w : World) : Calls Tryz.prog 137 #[.int .u8 c] w fun e w' => e = .returned (.bool (great c)) ∧ w' = w := by
  by_cases h1 : 65 ≤ c <;> by_cases h2 : c ≤ 90
  all_goals
    go_enter Tryz.func137, Tryz.ntmps137
    go_wp2
    go_ret
    exact ⟨by simp [great, h1, h2], rfl⟩

set_option maxHeartbeats 400000 in
theorem isSmallOrDigit_c (c : Int) (w : World) : Calls Tryz.prog 134 #[.int .u8 c] w fun e w' => e = .returned (.bool (smallDig c)) ∧ w' = w := by
  cases h0 : small c
  · by_cases h1 : 48 ≤ c <;> by_cases h2 : c ≤ 57
    all_goals try (exfalso; omega)
    all_goals
      go_enter Tryz.func134, Tryz.ntmps134
      go_wp2_with (go_at_call 132; refine (isSmall_c _ _).mono ?_; rintro e w' ⟨rfl, rfl⟩)
      go_ret
      exact ⟨by simp [smallDig, h0, h1, h2], rfl⟩
  · go_enter Tryz.func134, Tryz.ntmps134
    go_wp2_with (go_at_call 132; refine (isSmall_c _ _).mono ?_; rintro e w' ⟨rfl, rfl⟩)
    go_ret
    exact ⟨by simp [smallDig, h0], rfl⟩

set_option maxHeartbeats 400000 in
theorem isLetterOrDigit_c (c : Int) (w : World) : Calls Tryz.prog 167 #[.int .u8 c] w fun e w' => e = .returned (.bool (letterDig c)) ∧ w' = w := by
  cases h0 : great c
  all_goals
    go_enter Tryz.func167, Tryz.ntmps167
    go_wp2_with (first | (go_at_call 137; refine (isGreat_c _ _).mono ?_; rintro e w' ⟨rfl, rfl⟩) | (go_at_call 134; refine (isSmallOrDigit_c _ _).mono ?_; rintro e w' ⟨rfl, rfl⟩))
    go_ret
    exact ⟨by simp [letterDig, h0], rfl⟩

/-- The reader's block. -/
def Rdr (w : World) (b : Nat) (s : ByteArray) (i : Nat) : Prop := Blk w b [.string s, .int .i64 i] 114
def pk (s : ByteArray) (i : Nat) : Int := if h : i < s.size then (s[i].toNat : Int) else 0

theorem Rdr.c0 {w : World} {b : Nat} {s : ByteArray} {i : Nat} (h : Rdr w b s i) : w.cell? ⟨b, 0, none⟩ = some (.string s) := by rw [Blk.cell h]; rfl
theorem Rdr.c1 {w : World} {b : Nat} {s : ByteArray} {i : Nat} (h : Rdr w b s i) : w.cell? ⟨b, 1, none⟩ = some (.int .i64 i) := by rw [Blk.cell h]; rfl
theorem Rdr.f1 {w : World} {b : Nat} {s : ByteArray} {i : Nat} (h : Rdr w b s i) : w.frozen? ⟨b, 1, none⟩ = false := Blk.frozen h 1

set_option maxHeartbeats 400000 in
theorem peek_c (w : World) (b : Nat) (s : ByteArray) (i : Nat) (hR : Rdr w b s i) (hi : i ≤ s.size) (hs : s.size ≤ maxLen) :
    Calls Tryz.prog 131 #[.pointer (some ⟨b, 0, none⟩)] w fun e w' => e = .returned (.int .u8 (pk s i)) ∧ ∃ n, w' = w.drewN n := by
  have c0 := hR.c0
  have c1 := hR.c1
  have hs' := hs
  unfold maxLen at hs'
  by_cases h : i < s.size
  · have hb : ((i : Int) == (s.size : Int)) = false := by rw [beq_eq_false_iff_ne]; omega
    go_enter Tryz.func131, Tryz.ntmps131
    go_wp2
    go_quiet (fail)
    go_wp2
    go_quiet (fail)
    go_wp2
    go_ret
    exact ⟨by simp [pk, h], _, World.drewN_drewN _ _ _⟩
  · have hb : ((i : Int) == (s.size : Int)) = true := by rw [beq_iff_eq]; omega
    go_enter Tryz.func131, Tryz.ntmps131
    go_wp2
    go_quiet (fail)
    go_wp2
    go_ret
    exact ⟨by simp [pk, h], _, rfl⟩

theorem cast_beq (m n : Nat) : ((m : Int) == (n : Int)) = (m == n) := by
  rw [Bool.eq_iff_iff, beq_iff_eq, beq_iff_eq]; omega
def blank (c : Int) : Bool := c == 32 || c == 10
def rpos (w : World) (b : Nat) : Nat := (intOf ((w.cell? ⟨b, 1, none⟩).getD .nilIface)).toNat
theorem Rdr.pos {w : World} {b : Nat} {s : ByteArray} {i : Nat} (h : Rdr w b s i) : rpos w b = i := by simp [rpos, h.c1, intOf]
theorem Rdr.drewN {w : World} {b : Nat} {s : ByteArray} {i : Nat} (h : Rdr w b s i) (n : Nat) : Rdr (w.drewN n) b s i := h
theorem Rdr.to {w : World} {b : Nat} {s : ByteArray} {i : Nat} (h : Rdr w b s i) {j : Nat} {x : Int} (hx : x = j) : Rdr (w.setCell ⟨b, 1, none⟩ (.int .i64 x)) b s j := by
  subst hx; exact Blk.setCell h 1 _
theorem Rdr.next {w : World} {b : Nat} {s : ByteArray} {i : Nat} (h : Rdr w b s i) (n : Nat) : Rdr ((w.drewN n).setCell ⟨b, 1, none⟩ (.int .i64 ((i : Int) + 1))) b s (i + 1) := Rdr.to (h.drewN n) (by omega)
/-- Where the blanks end, from i on. -/
def skipTo (s : ByteArray) (i : Nat) : Nat → Nat
  | 0 => i
  | f + 1 => if i < s.size ∧ blank (pk s i) = true then skipTo s (i + 1) f else i
def skip (s : ByteArray) (i : Nat) : Nat := skipTo s i (s.size - i)

theorem skipTo_le (s : ByteArray) (f i : Nat) (h : i ≤ s.size) : i ≤ skipTo s i f ∧ skipTo s i f ≤ s.size := by
  induction f generalizing i with
  | zero => exact ⟨Nat.le_refl _, h⟩
  | succ f ih =>
    unfold skipTo
    split
    · next hc => have := ih (i + 1) (by omega); omega
    · omega
theorem skip_le (s : ByteArray) (i : Nat) (h : i ≤ s.size) : i ≤ skip s i ∧ skip s i ≤ s.size := skipTo_le s _ i h
theorem skip_yes (s : ByteArray) (i : Nat) (h : i < s.size) (hb : blank (pk s i) = true) : skip s i = skip s (i + 1) := by
  unfold skip
  rw [show s.size - i = (s.size - (i + 1)) + 1 by omega, skipTo, if_pos ⟨h, hb⟩]
theorem skip_no (s : ByteArray) (i : Nat) (hb : blank (pk s i) = false) : skip s i = i := by
  unfold skip
  cases s.size - i with
  | zero => rfl
  | succ n => rw [skipTo, if_neg (by simp [hb])]
theorem blank_end (s : ByteArray) (i : Nat) (h : ¬ i < s.size) : blank (pk s i) = false := by simp [pk, h, blank]

set_option maxHeartbeats 400000 in
theorem skipBlanks_c (w : World) (b : Nat) (s : ByteArray) (i : Nat) (hR : Rdr w b s i) (hi : i ≤ s.size) (hs : s.size ≤ maxLen) :
    Calls Tryz.prog 87 #[.pointer (some ⟨b, 0, none⟩)] w fun e w' => e = .returned (.tuple #[]) ∧ Rdr w' b s (skip s i) ∧ Kept b w w' := by
  have hs' := hs
  unfold maxLen at hs'
  go_enter Tryz.func87, Tryz.ntmps87
  go_wp2
  go_loopw [] (fun wr => ∃ k : Nat, k ≤ s.size ∧ Rdr wr b s k ∧ skip s k = skip s i ∧ Kept b w wr) (fun wr => s.size - rpos wr b)
  case atStart => exact ⟨i, hi, hR, rfl, Kept.refl _ _⟩
  case round =>
    obtain ⟨k, hk, hRk, hsk, hK⟩ := hrel
    have c1 := hRk.c1
    have f1 := hRk.f1
    cases h1 : (pk s k == 32)
    · cases h2 : (pk s k == 10)
      · have HN : Hid (skip s k = k) := skip_no s k (by simp [blank, h1, h2])
        have HS : Hid (skip s k = skip s i) := hsk
        clear hsk
        go_wp2_with (go_at_call 131; refine (peek_c _ b s k (by exact hRk) hk hs).mono ?_; rintro e w' ⟨rfl, n, rfl⟩)
        go_end0
        refine ⟨rfl, ?_, ?_⟩
        · rw [← HS.out, HN.out]; exact hRk
        · exact hK.draws _
      · have hlt : k < s.size := by
          apply Classical.byContradiction
          intro h; have := blank_end s k h; simp [blank, h2] at this
        have HN : Hid (skip s k = skip s (k + 1)) := skip_yes s k hlt (by simp [blank, h2])
        have HS : Hid (skip s k = skip s i) := hsk
        clear hsk
        go_wp2_with (go_at_call 131; refine (peek_c _ b s k (by exact hRk) hk hs).mono ?_; rintro e w' ⟨rfl, n, rfl⟩)
        exact ⟨⟨k + 1, hlt, hRk.next _, by rw [← HS.out, HN.out], (hK.draws _).set _ _⟩, by rw [(hRk.next _).pos, hRk.pos]; omega⟩
    · have hlt : k < s.size := by
        apply Classical.byContradiction
        intro h; have := blank_end s k h; simp [blank, h1] at this
      have HN : Hid (skip s k = skip s (k + 1)) := skip_yes s k hlt (by simp [blank, h1])
      have HS : Hid (skip s k = skip s i) := hsk
      clear hsk
      go_wp2_with (go_at_call 131; refine (peek_c _ b s k (by exact hRk) hk hs).mono ?_; rintro e w' ⟨rfl, n, rfl⟩)
      exact ⟨⟨k + 1, hlt, hRk.next _, by rw [← HS.out, HN.out], (hK.draws _).set _ _⟩, by rw [(hRk.next _).pos, hRk.pos]; omega⟩

/-- take: the place behind, and whether the mark was there. -/
def took (s : ByteArray) (i : Nat) (m : Int) : Bool := pk s (skip s i) == m
def tookAt (s : ByteArray) (i : Nat) (m : Int) : Nat := if took s i m = true then skip s i + 1 else skip s i

theorem pk_pos_lt (s : ByteArray) (i : Nat) (m : Int) (h : (pk s i == m) = true) (hm : 0 < m) : i < s.size := by
  apply Classical.byContradiction
  intro hn
  simp [pk, hn] at h
  omega
theorem tookAt_le (s : ByteArray) (i : Nat) (m : Int) (hm : 0 < m) (hi : i ≤ s.size) : skip s i ≤ tookAt s i m ∧ tookAt s i m ≤ s.size := by
  have := skip_le s i hi
  unfold tookAt
  cases h : took s i m
  · simp; omega
  · have := pk_pos_lt s (skip s i) m h hm
    simp; omega

set_option maxHeartbeats 400000 in
theorem take_c (w : World) (b : Nat) (s : ByteArray) (i : Nat) (m : Int) (hR : Rdr w b s i) (hi : i ≤ s.size) (hs : s.size ≤ maxLen) (hm : 0 < m) :
    Calls Tryz.prog 89 #[.pointer (some ⟨b, 0, none⟩), .int .u8 m] w fun e w' => e = .returned (.bool (took s i m)) ∧ Rdr w' b s (tookAt s i m) ∧ Kept b w w' := by
  have hs' := hs
  unfold maxLen at hs'
  have hsk := skip_le s i hi
  cases h : (pk s (skip s i) == m)
  · have hne : (pk s (skip s i) != m) = true := by simp [bne, h]
    go_enter Tryz.func89, Tryz.ntmps89
    go_wp2_with (first | (go_at_call 87; refine (skipBlanks_c _ b s i (by exact hR) hi hs).mono ?_; rintro e w1 ⟨rfl, hR1, hK1⟩) | (go_at_call 131; refine (peek_c _ b s (skip s i) (by assumption) hsk.2 hs).mono ?_; rintro e w' ⟨rfl, n, rfl⟩))
    go_ret
    exact ⟨by simp [took, h], by simp [tookAt, took, h]; exact hR1, hK1.draws _⟩
  · have hne : (pk s (skip s i) != m) = false := by simp [bne, h]
    have hlt := pk_pos_lt s (skip s i) m h hm
    go_enter Tryz.func89, Tryz.ntmps89
    go_wp2_with (first | (go_at_call 87; refine (skipBlanks_c _ b s i (by exact hR) hi hs).mono ?_; rintro e w1 ⟨rfl, hR1, hK1⟩; have c1 := hR1.c1; have f1 := hR1.f1) | (go_at_call 131; refine (peek_c _ b s (skip s i) (by assumption) hsk.2 hs).mono ?_; rintro e w' ⟨rfl, n, rfl⟩))
    go_ret
    refine ⟨by simp [took, h], ?_, (hK1.draws _).set _ _⟩
    simp only [tookAt, took, h, if_pos]
    exact hR1.next _

set_option maxHeartbeats 400000 in
theorem atEnd_c (w : World) (b : Nat) (s : ByteArray) (i : Nat) (hR : Rdr w b s i) (hi : i ≤ s.size) (hs : s.size ≤ maxLen) :
    Calls Tryz.prog 56 #[.pointer (some ⟨b, 0, none⟩)] w fun e w' => e = .returned (.bool (skip s i == s.size)) ∧ Rdr w' b s (skip s i) ∧ Kept b w w' := by
  have hs' := hs
  unfold maxLen at hs'
  have hsk := skip_le s i hi
  go_enter Tryz.func56, Tryz.ntmps56
  go_wp2_with (go_at_call 87; refine (skipBlanks_c _ b s i (by exact hR) hi hs).mono ?_; rintro e w1 ⟨rfl, hR1, hK1⟩; have c0 := hR1.c0; have c1 := hR1.c1)
  go_quiet (fail)
  go_wp2
  go_ret
  exact ⟨by rw [cast_beq]; rfl, hR1, hK1.draws _⟩

end Go.Proofs.YtpbfiffgcgnidaaGreatDoor
