/-
  OUR OWN. The reader's words and terms over what is left of the text.
-/
import Derived.Test.YtpbfiffgcgnidaaWord1
import Derived.Test.YtpbfiffgcgnidaaWord2
namespace Go.Proofs.Ytpbfiffgcgnidaa
open Go.RowKit


/-- Where l begins in s. -/
def posOf (s : ByteArray) (l : List UInt8) : Nat := s.size - l.length
theorem Rd.at {w : World} {b : Nat} {s : ByteArray} {l : List UInt8} (h : Rd w b s l) : Rdr w b s (posOf s l) ∧ posOf s l ≤ s.size ∧ s.data.toList.drop (posOf s l) = l := by
  obtain ⟨i, hi, rfl, hr⟩ := h
  have e : posOf s (s.data.toList.drop i) = i := by unfold posOf; simp; omega
  rw [e]
  exact ⟨hr, hi, rfl⟩
theorem Rd.c0 {w : World} {b : Nat} {s : ByteArray} {l : List UInt8} (h : Rd w b s l) : w.cell? ⟨b, 0, none⟩ = some (.string s) := h.at.1.c0
theorem Rd.c1 {w : World} {b : Nat} {s : ByteArray} {l : List UInt8} (h : Rd w b s l) : w.cell? ⟨b, 1, none⟩ = some (.int .i64 (posOf s l)) := h.at.1.c1
theorem Rd.f1 {w : World} {b : Nat} {s : ByteArray} {l : List UInt8} (h : Rd w b s l) : w.frozen? ⟨b, 1, none⟩ = false := h.at.1.f1
theorem Rd.lt {w : World} {b : Nat} {s : ByteArray} {l : List UInt8} (h : Rd w b s l) : b < w.heap.size := Blk.lt h.at.1
theorem Rd.drewN {w : World} {b : Nat} {s : ByteArray} {l : List UInt8} (h : Rd w b s l) (n : Nat) : Rd (w.drewN n) b s l := h
theorem Rd.drew {w : World} {b : Nat} {s : ByteArray} {l : List UInt8} (h : Rd w b s l) : Rd w.drew b s l := h
theorem Rd.alloc {w : World} {b : Nat} {s : ByteArray} {l : List UInt8} (h : Rd w b s l) (o : Obj) : Rd (w.alloc o) b s l := by
  obtain ⟨i, hi, hl, hr⟩ := h
  exact ⟨i, hi, hl, Blk.alloc hr o⟩
theorem Rd.setOther {w : World} {b : Nat} {s : ByteArray} {l : List UInt8} (h : Rd w b s l) (p : Addr) (v : Value) (hn : b ≠ p.block) : Rd (w.setCell p v) b s l := by
  obtain ⟨i, hi, hl, hr⟩ := h
  exact ⟨i, hi, hl, Blk.setOther hr p v hn⟩

theorem word1_l (w : World) (b : Nat) (s : ByteArray) (l : List UInt8) (hR : Rd w b s l) (hs : s.size ≤ 281474976710656) :
    Calls Try.prog 59 #[.pointer (some ⟨b, 0, none⟩), .func (.func 60) #[] #[]] w fun e w' => e = .returned (.string (bs (l.take (wlen smallDig 12 l)))) ∧ Rd w' b s (l.drop (wlen smallDig 12 l)) ∧ Kept b w w' := by
  obtain ⟨i, hi, rfl, hr⟩ := hR
  refine (word1_c w b s i hr hi hs).mono ?_
  rintro e w' ⟨he, h1, h2⟩
  refine ⟨he, ⟨_, ?_, ?_, h1⟩, h2⟩
  · have := (wlen_le smallDig 12 (s.data.toList.drop i)).1; simp at this; omega
  · rw [List.drop_drop]
theorem word2_l (w : World) (b : Nat) (s : ByteArray) (l : List UInt8) (hR : Rd w b s l) (hs : s.size ≤ 281474976710656) :
    Calls Try.prog 59 #[.pointer (some ⟨b, 0, none⟩), .func (.func 69) #[] #[]] w fun e w' => e = .returned (.string (bs (l.take (wlen letterDig 12 l)))) ∧ Rd w' b s (l.drop (wlen letterDig 12 l)) ∧ Kept b w w' := by
  obtain ⟨i, hi, rfl, hr⟩ := hR
  refine (word2_c w b s i hr hi hs).mono ?_
  rintro e w' ⟨he, h1, h2⟩
  refine ⟨he, ⟨_, ?_, ?_, h1⟩, h2⟩
  · have := (wlen_le letterDig 12 (s.data.toList.drop i)).1; simp at this; omega
  · rw [List.drop_drop]

/-- A term: is there one (behind blanks); its word; what is left. -/
def termB (l : List UInt8) : Bool := small (hd (skipL l)) || great (hd (skipL l))
def termN (l : List UInt8) : Nat := if small (hd (skipL l)) = true then wlen smallDig 12 (skipL l) else if great (hd (skipL l)) = true then wlen letterDig 12 (skipL l) else 0
def termW (l : List UInt8) : List UInt8 := (skipL l).take (termN l)
def termL (l : List UInt8) : List UInt8 := (skipL l).drop (termN l)
def termV (s : ByteArray) (l : List UInt8) : Value := if termB l = true then .tuple #[.int .i64 (posOf s (skipL l)), .string (bs (termW l)), .bool true] else .tuple #[.int .i64 0, .string ⟨#[]⟩, .bool false]

set_option maxHeartbeats 400000 in
theorem term_l (w : World) (b : Nat) (s : ByteArray) (l : List UInt8) (hR : Rd w b s l) (hs : s.size ≤ 281474976710656) :
    Calls Try.prog 61 #[.pointer (some ⟨b, 0, none⟩)] w fun e w' => e = .returned (termV s l) ∧ Rd w' b s (termL l) ∧ Kept b w w' := by
  have hsm : s.size ≤ maxLen := by unfold maxLen; omega
  obtain ⟨m, HM⟩ : ∃ m, Hid (m = skipL l) := ⟨_, rfl⟩
  cases h1 : small (hd m)
  · cases h2 : great (hd m)
    · go_enter Try.func61, Try.ntmps61
      go_wp2_with (first | (go_at_call 45; refine (skipBlanks_l _ b s l (by exact hR) hsm).mono ?_; rintro e w1 ⟨rfl, hR1, hK1⟩; rw [← HM.out] at hR1; have c1 := hR1.c1) | (go_at_call 57; refine (peek_l _ b s m (by exact hR1) hsm).mono ?_; rintro e w' ⟨rfl, n, rfl⟩) | (go_at_call 58; refine (isSmall_c _ _).mono ?_; rintro e w' ⟨rfl, rfl⟩) | (go_at_call 56; refine (isGreat_c _ _).mono ?_; rintro e w' ⟨rfl, rfl⟩))
      go_ret3
      rw [HM.out] at h1 h2 hR1
      exact ⟨by simp [termV, termB, h1, h2], by simpa [termL, termN, h1, h2] using hR1.drewN _, hK1.draws _⟩
    · go_enter Try.func61, Try.ntmps61
      go_wp2_with (first | (go_at_call 45; refine (skipBlanks_l _ b s l (by exact hR) hsm).mono ?_; rintro e w1 ⟨rfl, hR1, hK1⟩; rw [← HM.out] at hR1; have c1 := hR1.c1) | (go_at_call 57; refine (peek_l _ b s m (by exact hR1) hsm).mono ?_; rintro e w' ⟨rfl, n, rfl⟩) | (go_at_call 58; refine (isSmall_c _ _).mono ?_; rintro e w' ⟨rfl, rfl⟩) | (go_at_call 56; refine (isGreat_c _ _).mono ?_; rintro e w' ⟨rfl, rfl⟩) | (go_at_call 59; refine (word2_l _ b s m (by exact hR1) hs).mono ?_; rintro e w2 ⟨rfl, hR2, hK2⟩))
      go_ret3
      rw [HM.out] at h1 h2 hR2
      exact ⟨by simp [termV, termB, termW, termN, h1, h2, HM.out], by simpa [termL, termN, h1, h2] using hR2, (hK1.draws _).trans hK2⟩
  · go_enter Try.func61, Try.ntmps61
    go_wp2_with (first | (go_at_call 45; refine (skipBlanks_l _ b s l (by exact hR) hsm).mono ?_; rintro e w1 ⟨rfl, hR1, hK1⟩; rw [← HM.out] at hR1; have c1 := hR1.c1) | (go_at_call 57; refine (peek_l _ b s m (by exact hR1) hsm).mono ?_; rintro e w' ⟨rfl, n, rfl⟩) | (go_at_call 58; refine (isSmall_c _ _).mono ?_; rintro e w' ⟨rfl, rfl⟩) | (go_at_call 59; refine (word1_l _ b s m (by exact hR1) hs).mono ?_; rintro e w2 ⟨rfl, hR2, hK2⟩))
    go_ret3
    rw [HM.out] at h1 hR2
    exact ⟨by simp [termV, termB, termW, termN, h1, HM.out], by simpa [termL, termN, h1] using hR2, (hK1.draws _).trans hK2⟩

theorem term_yes (w : World) (b : Nat) (s : ByteArray) (l : List UInt8) (hR : Rd w b s l) (hs : s.size ≤ 281474976710656) (h : termB l = true) :
    Calls Try.prog 61 #[.pointer (some ⟨b, 0, none⟩)] w fun e w' => e = .returned (.tuple #[.int .i64 (posOf s (skipL l)), .string (bs (termW l)), .bool true]) ∧ Rd w' b s (termL l) ∧ Kept b w w' := by
  have := term_l w b s l hR hs
  rw [show termV s l = .tuple #[.int .i64 (posOf s (skipL l)), .string (bs (termW l)), .bool true] by simp [termV, h]] at this
  exact this
theorem term_not (w : World) (b : Nat) (s : ByteArray) (l : List UInt8) (hR : Rd w b s l) (hs : s.size ≤ 281474976710656) (h : termB l = false) :
    Calls Try.prog 61 #[.pointer (some ⟨b, 0, none⟩)] w fun e w' => e = .returned (.tuple #[.int .i64 0, .string ⟨#[]⟩, .bool false]) ∧ Rd w' b s (termL l) ∧ Kept b w w' := by
  have := term_l w b s l hR hs
  rw [show termV s l = .tuple #[.int .i64 0, .string ⟨#[]⟩, .bool false] by simp [termV, h]] at this
  exact this

end Go.Proofs.Ytpbfiffgcgnidaa
