/-
  OUR OWN. The reader's words and terms over what is left of the text.
-/
import Derived.Test.YtpbfiffgcgnidaaGreatDoorXWord1
import Derived.Test.YtpbfiffgcgnidaaGreatDoorXWord2
import Derived.Test.YtpbfiffgcgnidaaGreatDoorXBase
namespace Go.Proofs.YtpbfiffgcgnidaaGreatDoor
open Go.RowKit


/-- Where l begins in s. -/
def posOf (s : ByteArray) (l : List UInt8) : Nat := s.size - l.length
theorem Rd.at {w : World} {b : Nat} {s : ByteArray} {l : List UInt8} (h : Rd w b s l) : Rdr w b s (posOf s l) ∧ posOf s l ≤ s.size ∧ s.data.toList.drop (posOf s l) = l := by
  obtain ⟨i, hi, rfl, hr⟩ := h
  have e : posOf s (s.data.toList.drop i) = i := by unfold posOf; simp; omega
  rw [e]
  exact ⟨hr, hi, rfl⟩
theorem Rd.c0 {w : World} {b : Nat} {s : ByteArray} {l : List UInt8} (h : Rd w b s l) : w.cell? ⟨b, 0, none⟩ = some (.string s) := h.at.1.c0
theorem Rd.c1 {w : World} {b : Nat} {s : ByteArray} {l : List UInt8} (h : Rd w b s l) : w.cell? ⟨b, 1, none⟩ = some (.int .i64 (posOf s l)) := h.at.1.c1
theorem Rd.f1 {w : World} {b : Nat} {s : ByteArray} {l : List UInt8} (h : Rd w b s l) : w.frozen? ⟨b, 1, none⟩ = false := h.at.1.f1
theorem Rd.lt {w : World} {b : Nat} {s : ByteArray} {l : List UInt8} (h : Rd w b s l) : b < w.heap.size := Blk.lt h.at.1
theorem Rd.drewN {w : World} {b : Nat} {s : ByteArray} {l : List UInt8} (h : Rd w b s l) (n : Nat) : Rd (w.drewN n) b s l := h
theorem Rd.drew {w : World} {b : Nat} {s : ByteArray} {l : List UInt8} (h : Rd w b s l) : Rd w.drew b s l := h
theorem Rd.alloc {w : World} {b : Nat} {s : ByteArray} {l : List UInt8} (h : Rd w b s l) (o : Obj) : Rd (w.alloc o) b s l := by
  obtain ⟨i, hi, hl, hr⟩ := h
  exact ⟨i, hi, hl, Blk.alloc hr o⟩
theorem Rd.setOther {w : World} {b : Nat} {s : ByteArray} {l : List UInt8} (h : Rd w b s l) (p : Addr) (v : Value) (hn : b ≠ p.block) : Rd (w.setCell p v) b s l := by
  obtain ⟨i, hi, hl, hr⟩ := h
  exact ⟨i, hi, hl, Blk.setOther hr p v hn⟩

theorem word1_l (w : World) (b : Nat) (s : ByteArray) (l : List UInt8) (hR : Rd w b s l) (hs : s.size ≤ 281474976710656) :
    Calls Tryz.prog 133 #[.pointer (some ⟨b, 0, none⟩), .func (.func 134) #[] #[]] w fun e w' => e = .returned (.string (bs (l.take (wlen smallDig 12 l)))) ∧ Rd w' b s (l.drop (wlen smallDig 12 l)) ∧ Kept b w w' := by
  obtain ⟨i, hi, rfl, hr⟩ := hR
  refine (word1_c w b s i hr hi hs).mono ?_
  rintro e w' ⟨he, h1, h2⟩
  refine ⟨he, ⟨_, ?_, ?_, h1⟩, h2⟩
  · have := (wlen_le smallDig 12 (s.data.toList.drop i)).1; simp at this; omega
  · rw [List.drop_drop]
theorem word2_l (w : World) (b : Nat) (s : ByteArray) (l : List UInt8) (hR : Rd w b s l) (hs : s.size ≤ 281474976710656) :
    Calls Tryz.prog 133 #[.pointer (some ⟨b, 0, none⟩), .func (.func 167) #[] #[]] w fun e w' => e = .returned (.string (bs (l.take (wlen letterDig 12 l)))) ∧ Rd w' b s (l.drop (wlen letterDig 12 l)) ∧ Kept b w w' := by
  obtain ⟨i, hi, rfl, hr⟩ := hR
  refine (word2_c w b s i hr hi hs).mono ?_
  rintro e w' ⟨he, h1, h2⟩
  refine ⟨he, ⟨_, ?_, ?_, h1⟩, h2⟩
  · have := (wlen_le letterDig 12 (s.data.toList.drop i)).1; simp at this; omega
  · rw [List.drop_drop]

/-- A term: is there one (behind blanks); its word; what is left. -/
def termB (l : List UInt8) : Bool := small (hd (skipL l)) || great (hd (skipL l))
def termN (l : List UInt8) : Nat := if small (hd (skipL l)) = true then wlen smallDig 12 (skipL l) else if great (hd (skipL l)) = true then wlen letterDig 12 (skipL l) else 0
def termW (l : List UInt8) : List UInt8 := (skipL l).take (termN l)
def termL (l : List UInt8) : List UInt8 := (skipL l).drop (termN l)
def termV (s : ByteArray) (l : List UInt8) : Value := if termB l = true then .tuple #[.int .i64 (posOf s (skipL l)), .string (bs (termW l)), .bool true] else .tuple #[.int .i64 0, .string ⟨#[]⟩, .bool false]

set_option maxHeartbeats 400000 in
theorem term_l (w : World) (b : Nat) (s : ByteArray) (l : List UInt8) (hR : Rd w b s l) (hs : s.size ≤ 281474976710656) :
    Calls Tryz.prog 135 #[.pointer (some ⟨b, 0, none⟩)] w fun e w' => e = .returned (termV s l) ∧ Rd w' b s (termL l) ∧ Kept b w w' := by
  have hsm : s.size ≤ maxLen := by unfold maxLen; omega
  obtain ⟨m, HM⟩ : ∃ m, Hid (m = skipL l) := ⟨_, rfl⟩
  cases h1 : small (hd m)
  · cases h2 : great (hd m)
    · go_enter Tryz.func135, Tryz.ntmps135
      go_wp2_with (first | (go_at_call 87; refine (skipBlanks_l _ b s l (by exact hR) hsm).mono ?_; rintro e w1 ⟨rfl, hR1, hK1⟩; rw [← HM.out] at hR1; have c1 := hR1.c1) | (go_at_call 131; refine (peek_l _ b s m (by exact hR1) hsm).mono ?_; rintro e w' ⟨rfl, n, rfl⟩) | (go_at_call 132; refine (isSmall_c _ _).mono ?_; rintro e w' ⟨rfl, rfl⟩) | (go_at_call 137; refine (isGreat_c _ _).mono ?_; rintro e w' ⟨rfl, rfl⟩))
      go_ret3
      rw [HM.out] at h1 h2 hR1
      exact ⟨by simp [termV, termB, h1, h2], by simpa [termL, termN, h1, h2] using hR1.drewN _, hK1.draws _⟩
    · go_enter Tryz.func135, Tryz.ntmps135
      go_wp2_with (first | (go_at_call 87; refine (skipBlanks_l _ b s l (by exact hR) hsm).mono ?_; rintro e w1 ⟨rfl, hR1, hK1⟩; rw [← HM.out] at hR1; have c1 := hR1.c1) | (go_at_call 131; refine (peek_l _ b s m (by exact hR1) hsm).mono ?_; rintro e w' ⟨rfl, n, rfl⟩) | (go_at_call 132; refine (isSmall_c _ _).mono ?_; rintro e w' ⟨rfl, rfl⟩) | (go_at_call 137; refine (isGreat_c _ _).mono ?_; rintro e w' ⟨rfl, rfl⟩) | (go_at_call 133; refine (word2_l _ b s m (by exact hR1) hs).mono ?_; rintro e w2 ⟨rfl, hR2, hK2⟩))
      go_ret3
      rw [HM.out] at h1 h2 hR2
      exact ⟨by simp [termV, termB, termW, termN, h1, h2, HM.out], by simpa [termL, termN, h1, h2] using hR2, (hK1.draws _).trans hK2⟩
  · go_enter Tryz.func135, Tryz.ntmps135
    go_wp2_with (first | (go_at_call 87; refine (skipBlanks_l _ b s l (by exact hR) hsm).mono ?_; rintro e w1 ⟨rfl, hR1, hK1⟩; rw [← HM.out] at hR1; have c1 := hR1.c1) | (go_at_call 131; refine (peek_l _ b s m (by exact hR1) hsm).mono ?_; rintro e w' ⟨rfl, n, rfl⟩) | (go_at_call 132; refine (isSmall_c _ _).mono ?_; rintro e w' ⟨rfl, rfl⟩) | (go_at_call 133; refine (word1_l _ b s m (by exact hR1) hs).mono ?_; rintro e w2 ⟨rfl, hR2, hK2⟩))
    go_ret3
    rw [HM.out] at h1 hR2
    exact ⟨by simp [termV, termB, termW, termN, h1, HM.out], by simpa [termL, termN, h1] using hR2, (hK1.draws _).trans hK2⟩

theorem term_yes (w : World) (b : Nat) (s : ByteArray) (l : List UInt8) (hR : Rd w b s l) (hs : s.size ≤ 281474976710656) (h : termB l = true) :
    Calls Tryz.prog 135 #[.pointer (some ⟨b, 0, none⟩)] w fun e w' => e = .returned (.tuple #[.int .i64 (posOf s (skipL l)), .string (bs (termW l)), .bool true]) ∧ Rd w' b s (termL l) ∧ Kept b w w' := by
  have := term_l w b s l hR hs
  rw [show termV s l = .tuple #[.int .i64 (posOf s (skipL l)), .string (bs (termW l)), .bool true] by simp [termV, h]] at this
  exact this
theorem term_not (w : World) (b : Nat) (s : ByteArray) (l : List UInt8) (hR : Rd w b s l) (hs : s.size ≤ 281474976710656) (h : termB l = false) :
    Calls Tryz.prog 135 #[.pointer (some ⟨b, 0, none⟩)] w fun e w' => e = .returned (.tuple #[.int .i64 0, .string ⟨#[]⟩, .bool false]) ∧ Rd w' b s (termL l) ∧ Kept b w w' := by
  have := term_l w b s l hR hs
  rw [show termV s l = .tuple #[.int .i64 0, .string ⟨#[]⟩, .bool false] by simp [termV, h]] at this
  exact this

end Go.Proofs.YtpbfiffgcgnidaaGreatDoor

namespace Go.Proofs.YtpbfiffgcgnidaaGreatDoor
open Go.RowKit

theorem hid {p : Prop} (h : p) : Hid p := h
theorem drewN_alloc (w : World) (n : Nat) (o : Obj) : (w.drewN n).alloc o = (w.alloc o).drewN n := rfl
theorem drewN_setCell (w : World) (n : Nat) (a : Addr) (v : Value) : (w.drewN n).setCell a v = (w.setCell a v).drewN n := rfl

theorem Kept.drewn {b : Nat} {u w : World} (h : Kept b u w) : Kept b u w.drew := h.trans (Kept.drew b w)
theorem Kept.set5 {b : Nat} {u w : World} (h : Kept b u w) (A : Nat) (hA : u.heap.size ≤ A) (x0 x1 x2 x3 x4 : Value) :
    Kept b u (((((w.setCell ⟨A, 0, none⟩ x0).setCell ⟨A, 1, none⟩ x1).setCell ⟨A, 2, none⟩ x2).setCell ⟨A, 3, none⟩ x3).setCell ⟨A, 4, none⟩ x4) :=
  ((((h.setNew (p := ⟨A, 0, none⟩) hA x0).setNew (p := ⟨A, 1, none⟩) hA x1).setNew (p := ⟨A, 2, none⟩) hA x2).setNew (p := ⟨A, 3, none⟩) hA x3).setNew (p := ⟨A, 4, none⟩) hA x4
theorem Blk.setOther5 {w : World} {b : Nat} {cs : List Value} {t : TypeId} (h : Blk w b cs t) (A : Nat) (hA : b ≠ A) (x0 x1 x2 x3 x4 : Value) :
    Blk (((((w.setCell ⟨A, 0, none⟩ x0).setCell ⟨A, 1, none⟩ x1).setCell ⟨A, 2, none⟩ x2).setCell ⟨A, 3, none⟩ x3).setCell ⟨A, 4, none⟩ x4) b cs t :=
  ((((h.setOther ⟨A, 0, none⟩ x0 hA).setOther ⟨A, 1, none⟩ x1 hA).setOther ⟨A, 2, none⟩ x2 hA).setOther ⟨A, 3, none⟩ x3 hA).setOther ⟨A, 4, none⟩ x4 hA

end Go.Proofs.YtpbfiffgcgnidaaGreatDoor

namespace Go.Proofs.YtpbfiffgcgnidaaGreatDoor
open Go.RowKit

/-- What the reader's atom gives: its name and terms, their places, what is left. -/
structure AtR where
  ok : Bool
  name : List UInt8
  ts : List (List UInt8)
  np : Nat
  ps : List Nat
  rest : List UInt8

def atomCells (n : List UInt8) (ts : List (List UInt8)) : List Value :=
  [.string (bs n), .int .i64 ts.length, .string (bs (ts.getD 0 [])), .string (bs (ts.getD 1 [])), .string (bs (ts.getD 2 []))]
def spotCells (mark np : Nat) (ps : List Nat) : List Value :=
  [.int .i64 mark, .int .i64 np, .int .i64 (ps.getD 0 0 : Nat), .int .i64 (ps.getD 1 0 : Nat), .int .i64 (ps.getD 2 0 : Nat)]

/-- The terms: at most f more. -/
def argsR (s : ByteArray) (name : List UInt8) (np : Nat) : Nat → List (List UInt8) → List Nat → List UInt8 → AtR
  | 0, ts, ps, l => ⟨tookB l 41, name, ts, np, ps, tookL l 41⟩
  | f + 1, ts, ps, l =>
    if termB l = false then ⟨false, [], [], 0, [], termL l⟩
    else if f = 0 then ⟨tookB (termL l) 41, name, ts ++ [termW l], np, ps ++ [posOf s (skipL l)], tookL (termL l) 41⟩
    else if tookB (termL l) 44 = false then ⟨tookB (tookL (termL l) 44) 41, name, ts ++ [termW l], np, ps ++ [posOf s (skipL l)], tookL (tookL (termL l) 44) 41⟩
    else argsR s name np f (ts ++ [termW l]) (ps ++ [posOf s (skipL l)]) (tookL (termL l) 44)

def atomR (s : ByteArray) (l : List UInt8) : AtR :=
  let m := skipL l
  let n := wlen smallDig 12 m
  if small (hd m) = false then ⟨false, [], [], 0, [], m⟩
  else if tookB (m.drop n) 40 = false then ⟨true, m.take n, [], posOf s m, [], tookL (m.drop n) 40⟩
  else argsR s (m.take n) (posOf s m) 3 [] [] (tookL (m.drop n) 40)

def AtR.val (r : AtR) : Value := .tuple #[.agg (atomCells r.name r.ts).toArray, .agg (spotCells 0 r.np r.ps).toArray, .bool r.ok]

theorem Rd.set5 {w : World} {b : Nat} {s : ByteArray} {l : List UInt8} (h : Rd w b s l) (A : Nat) (hA : b ≠ A) (x0 x1 x2 x3 x4 : Value) :
    Rd (((((w.setCell ⟨A, 0, none⟩ x0).setCell ⟨A, 1, none⟩ x1).setCell ⟨A, 2, none⟩ x2).setCell ⟨A, 3, none⟩ x3).setCell ⟨A, 4, none⟩ x4) b s l := by
  obtain ⟨i, hi, hl, hr⟩ := h
  exact ⟨i, hi, hl, Blk.setOther5 hr A hA x0 x1 x2 x3 x4⟩
def zA : List Value := [.string ⟨#[]⟩, .int .i64 0, .string ⟨#[]⟩, .string ⟨#[]⟩, .string ⟨#[]⟩]
def zS : List Value := [.int .i64 0, .int .i64 0, .int .i64 0, .int .i64 0, .int .i64 0]
theorem new_one (w : World) (cs : List Value) (t : TypeId) (cs' : List Value) (t' : TypeId) : Blk ((w.alloc (.cells cs.toArray t)).alloc (.cells cs'.toArray t')) w.heap.size cs t := (Blk.new w cs t).alloc _
theorem new_two (w : World) (o : Obj) (cs' : List Value) (t' : TypeId) : Blk ((w.alloc o).alloc (.cells cs'.toArray t')) (w.heap.size + 1) cs' t' := by
  have h := Blk.new (w.alloc o) cs' t'
  have e : (w.alloc o).heap.size = w.heap.size + 1 := by simp
  rwa [e] at h

set_option maxHeartbeats 400000 in
set_option maxRecDepth 100000 in
theorem atom_no (w : World) (b : Nat) (s : ByteArray) (l : List UInt8) (hR : Rd w b s l) (hs : s.size ≤ 281474976710656) (h1 : small (hd (skipL l)) = false) :
    Calls Tryz.prog 88 #[.pointer (some ⟨b, 0, none⟩)] w fun e w' => e = .returned (atomR s l).val ∧ Rd w' b s (atomR s l).rest ∧ Kept b w w' := by
  have hsm : s.size ≤ maxLen := by unfold maxLen; omega
  have hlt := hR.lt
  obtain ⟨m, HM⟩ : ∃ m, Hid (m = skipL l) := ⟨_, rfl⟩
  rw [← HM.out] at h1
  go_enter Tryz.func88, Tryz.ntmps88
  go_wp2_with (first | (go_at_call 87; refine (skipBlanks_l _ b s l (by exact (hR.alloc _).alloc _) hsm).mono ?_; rintro e w1 ⟨rfl, hR1, hK1⟩; rw [← HM.out] at hR1; have hA := (new_one w zA 80 zS 141).kept hK1 (by omega); have hS := (new_two w _ zS 141).kept hK1 (by omega); obtain ⟨a0, a1, a2, a3, a4⟩ := hA.c5; have fA := hA.frozen; obtain ⟨s0, s1, s2, s3, s4⟩ := hS.c5; have fS := hS.frozen) | (go_at_call 131; refine (peek_l _ b s m (by exact hR1) hsm).mono ?_; rintro e w' ⟨rfl, n, rfl⟩) | (go_at_call 132; refine (isSmall_c _ _).mono ?_; rintro e w' ⟨rfl, rfl⟩))
  have er : atomR s l = ⟨false, [], [], 0, [], m⟩ := by simp [atomR, ← HM.out, h1]
  rw [er]
  refine bodyPost_ret (v := AtR.val ⟨false, [], [], 0, [], m⟩) (by simp [results, Tryz.results88, go_sem, AtR.val, atomCells, spotCells, bs, a0, a1, a2, a3, a4, s0, s1, s2, s3, s4]) rfl ⟨rfl, ?_, ?_⟩
  · repeat (refine Rd.setOther ?_ _ _ (by simp only [ne_eq]; omega))
    exact hR1.drewN _
  · repeat (refine Kept.setNew ?_ (by simp only []; omega) _)
    exact ((((Kept.refl b w).allocs _).allocs _).trans hK1).draws _

end Go.Proofs.YtpbfiffgcgnidaaGreatDoor

namespace Go.Proofs.YtpbfiffgcgnidaaGreatDoor
open Go.RowKit
attribute [local go_sem] drewN_alloc drewN_setCell

set_option maxHeartbeats 800000 in
set_option maxRecDepth 100000 in
theorem atom_bare (w : World) (b : Nat) (s : ByteArray) (l : List UInt8) (hR : Rd w b s l) (hs : s.size ≤ 281474976710656) (h1 : small (hd (skipL l)) = true)
    (h2 : tookB ((skipL l).drop (wlen smallDig 12 (skipL l))) 40 = false) :
    Calls Tryz.prog 88 #[.pointer (some ⟨b, 0, none⟩)] w fun e w' => e = .returned (atomR s l).val ∧ Rd w' b s (atomR s l).rest ∧ Kept b w w' := by
  have hsm : s.size ≤ maxLen := by unfold maxLen; omega
  have hlt := hR.lt
  obtain ⟨m, HM⟩ : ∃ m, Hid (m = skipL l) := ⟨_, rfl⟩
  rw [← HM.out] at h1 h2
  obtain ⟨q, HQ⟩ : ∃ q, Hid (q = m.drop (wlen smallDig 12 m)) := ⟨_, rfl⟩
  rw [← HQ.out] at h2
  obtain ⟨nm, HN⟩ : ∃ nm, Hid (nm = bs (m.take (wlen smallDig 12 m))) := ⟨_, rfl⟩
  obtain ⟨p, HP⟩ : ∃ p : Nat, Hid (p = posOf s m) := ⟨_, rfl⟩
  go_enter Tryz.func88, Tryz.ntmps88
  go_wp2_with (first
    | (go_at_call 87; refine (skipBlanks_l _ b s l (by exact (hR.alloc _).alloc _) hsm).mono ?_; rintro e w1 ⟨rfl, hR1, hK1⟩; rw [← HM.out] at hR1; have hA1 := (new_one w zA 80 zS 141).kept hK1 (by omega); have hS1 := (new_two w _ zS 141).kept hK1 (by omega); have c1 := hR1.c1; rw [← HP.out] at c1; have hz1 : w.heap.size + 1 < w1.heap.size := hS1.lt)
    | (go_at_call 131; refine (peek_l _ b s m (by exact hR1) hsm).mono ?_; rintro e w' ⟨rfl, n, rfl⟩)
    | (go_at_call 132; refine (isSmall_c _ _).mono ?_; rintro e w' ⟨rfl, rfl⟩)
    | (go_at_call 133; refine (word1_l _ b s m (by exact (hR1.alloc _).drewN _) hs).mono ?_; rintro e w2 ⟨he, hR2, hK2⟩; rw [← HN.out] at he; subst he; rw [← HQ.out] at hR2; clear c1; have hsp2 := ((Blk.new w1 [.int .i64 0, .int .i64 p, .int .i64 0, .int .i64 0, .int .i64 0] 141).drewN n).kept hK2 (by omega); have hA2 := ((hA1.alloc _).drewN n).kept hK2 (by omega); have hS2 := ((hS1.alloc _).drewN n).kept hK2 (by omega); have hz2 : w1.heap.size < w2.heap.size := hsp2.lt)
    | (go_at_call 89; refine (take_l _ b s q 40 (by exact hR2.alloc _) hsm (by omega)).mono ?_; rintro e w3 ⟨rfl, hR3, hK3⟩; have hat3 := (Blk.new w2 [.string nm, .int .i64 0, .string ⟨#[]⟩, .string ⟨#[]⟩, .string ⟨#[]⟩] 80).kept hK3 (by omega); have hsp3 := (hsp2.alloc _).kept hK3 (by omega); have hA3 := (hA2.alloc _).kept hK3 (by omega); have hS3 := (hS2.alloc _).kept hK3 (by omega); obtain ⟨a0, a1, a2, a3, a4⟩ := hA3.c5; have fA := hA3.frozen; obtain ⟨s0, s1, s2, s3, s4⟩ := hS3.c5; have fS := hS3.frozen; obtain ⟨t0, t1, t2, t3, t4⟩ := hat3.c5; obtain ⟨p0, p1, p2, p3, p4⟩ := hsp3.c5; clear hA1 hS1 hsp2 hA2 hS2 hat3 hsp3 hA3 hS3; have HK3 : Hid (Kept b w w3) := ((((((Kept.refl b w).allocs _).allocs _).trans hK1).allocs _).draws _ |>.trans hK2 |>.allocs _).trans hK3; clear hK1 hK2 hK3))
  go_region
  go_wp2
  have er : atomR s l = ⟨true, m.take (wlen smallDig 12 m), [], posOf s m, [], tookL q 40⟩ := by simp [atomR, ← HM.out, h1, ← HQ.out, h2]
  rw [er]
  refine bodyPost_ret (v := AtR.val ⟨true, m.take (wlen smallDig 12 m), [], posOf s m, [], tookL q 40⟩) (by simp [results, Tryz.results88, go_sem, AtR.val, atomCells, spotCells, bs, ← HP.out, HN.out, a0, a1, a2, a3, a4, s0, s1, s2, s3, s4]) rfl ⟨rfl, ?_, ?_⟩
  · exact Rd.drew ((hR3.set5 _ (by omega) _ _ _ _ _).set5 _ (by omega) _ _ _ _ _)
  · exact ((HK3.out.set5 _ (by omega) _ _ _ _ _).set5 _ (by omega) _ _ _ _ _).drewn

end Go.Proofs.YtpbfiffgcgnidaaGreatDoor
