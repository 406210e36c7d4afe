/-
  OUR OWN. The reader's atom, whatever the text.
-/
import Derived.Test.YtpbfiffgcgnidaaGreatDoorXT1
import Derived.Test.YtpbfiffgcgnidaaGreatDoorXAtom3
namespace Go.Proofs.YtpbfiffgcgnidaaGreatDoor
open Go.RowKit

theorem atom_l (w : World) (b : Nat) (s : ByteArray) (l : List UInt8) (hR : Rd w b s l) (hs : s.size ≤ 281474976710656) :
    Calls Tryz.prog 88 #[.pointer (some ⟨b, 0, none⟩)] w fun e w' => e = .returned (atomR s l).val ∧ Rd w' b s (atomR s l).rest ∧ Kept b w w' := by
  cases h1 : small (hd (skipL l))
  · exact atom_no w b s l hR hs h1
  · cases h2 : tookB ((skipL l).drop (wlen smallDig 12 (skipL l))) 40
    · exact atom_bare w b s l hR hs h1 h2
    · exact atom_args w b s l hR hs h1 h2

end Go.Proofs.YtpbfiffgcgnidaaGreatDoor

namespace Go.Proofs.YtpbfiffgcgnidaaGreatDoor
open Go.RowKit
attribute [local go_sem] drewN_alloc drewN_setCell

def litCells (n : List UInt8) (ts : List (List UInt8)) (neg : Bool) : List Value :=
  [.string (bs n), .int .i64 ts.length, .string (bs (ts.getD 0 [])), .string (bs (ts.getD 1 [])), .string (bs (ts.getD 2 [])), .bool neg]
def litNeg (l : List UInt8) : Bool := tookB l 33
def litMark (s : ByteArray) (l : List UInt8) : Nat := if tookB l 33 = true then posOf s (tookL l 33) - 1 else 0
def litAt (s : ByteArray) (l : List UInt8) : AtR := atomR s (tookL l 33)
def litVal (s : ByteArray) (l : List UInt8) : Value :=
  .tuple #[.agg (litCells (litAt s l).name (litAt s l).ts (litNeg l)).toArray, .agg (spotCells (litMark s l) (litAt s l).np (litAt s l).ps).toArray, .bool (litAt s l).ok]

theorem skipL_le (l : List UInt8) : (skipL l).length ≤ l.length := by
  induction l with
  | nil => exact Nat.le_refl _
  | cons c l ih => unfold skipL; split <;> simp <;> omega
theorem tookL_lt (l : List UInt8) (m : Int) (h : tookB l m = true) (hm : 0 < m) : (tookL l m).length < l.length := by
  have h' := h
  unfold tookB at h
  have hl := skipL_le l
  simp only [tookL, h', if_pos]
  cases hs : skipL l with
  | nil => rw [hs] at h; simp [hd] at h; omega
  | cons c r => rw [hs] at hl; simp at hl ⊢; omega
theorem Rd.len {w : World} {b : Nat} {s : ByteArray} {l : List UInt8} (h : Rd w b s l) : l.length ≤ s.size := by
  obtain ⟨i, hi, rfl, hr⟩ := h
  simp

def AtR.nm (r : AtR) : ByteArray := bs r.name
def AtR.cn (r : AtR) : Int := r.ts.length
def AtR.t (r : AtR) (i : Nat) : ByteArray := bs (r.ts.getD i [])
def AtR.np' (r : AtR) : Int := r.np
def AtR.p (r : AtR) (i : Nat) : Int := (r.ps.getD i 0 : Nat)
theorem AtR.val_eq (r : AtR) : r.val = .tuple #[.agg #[.string r.nm, .int .i64 r.cn, .string (r.t 0), .string (r.t 1), .string (r.t 2)], .agg #[.int .i64 0, .int .i64 r.np', .int .i64 (r.p 0), .int .i64 (r.p 1), .int .i64 (r.p 2)], .bool r.ok] := rfl
theorem litVal_no (s : ByteArray) (l r0 : List UInt8) (A : AtR) (h0 : r0 = tookL l 33) (hA : A = atomR s r0) (h1 : tookB l 33 = false) :
    litVal s l = .tuple #[.agg #[.string A.nm, .int .i64 A.cn, .string (A.t 0), .string (A.t 1), .string (A.t 2), .bool false], .agg #[.int .i64 0, .int .i64 A.np', .int .i64 (A.p 0), .int .i64 (A.p 1), .int .i64 (A.p 2)], .bool A.ok] := by
  subst h0; subst hA
  simp only [litVal, litNeg, litMark, h1]
  rfl
theorem litVal_yes (s : ByteArray) (l r0 : List UInt8) (A : AtR) (h0 : r0 = tookL l 33) (hA : A = atomR s r0) (h1 : tookB l 33 = true) (hp : 1 ≤ posOf s r0) :
    litVal s l = .tuple #[.agg #[.string A.nm, .int .i64 A.cn, .string (A.t 0), .string (A.t 1), .string (A.t 2), .bool true], .agg #[.int .i64 ((posOf s r0 : Int) - 1), .int .i64 A.np', .int .i64 (A.p 0), .int .i64 (A.p 1), .int .i64 (A.p 2)], .bool A.ok] := by
  have e : ((posOf s r0 : Nat) : Int) - 1 = ((posOf s r0 - 1 : Nat) : Int) := by omega
  rw [e]
  subst h0; subst hA
  simp only [litVal, litNeg, litMark, h1]
  rfl
theorem Kept.set6 {b : Nat} {u w : World} (h : Kept b u w) (A : Nat) (hA : u.heap.size ≤ A) (x0 x1 x2 x3 x4 x5 : Value) :
    Kept b u ((((((w.setCell ⟨A, 0, none⟩ x0).setCell ⟨A, 1, none⟩ x1).setCell ⟨A, 2, none⟩ x2).setCell ⟨A, 3, none⟩ x3).setCell ⟨A, 4, none⟩ x4).setCell ⟨A, 5, none⟩ x5) :=
  (h.set5 A hA x0 x1 x2 x3 x4).setNew (p := ⟨A, 5, none⟩) hA x5
theorem Rd.set6 {w : World} {b : Nat} {s : ByteArray} {l : List UInt8} (h : Rd w b s l) (A : Nat) (hA : b ≠ A) (x0 x1 x2 x3 x4 x5 : Value) :
    Rd ((((((w.setCell ⟨A, 0, none⟩ x0).setCell ⟨A, 1, none⟩ x1).setCell ⟨A, 2, none⟩ x2).setCell ⟨A, 3, none⟩ x3).setCell ⟨A, 4, none⟩ x4).setCell ⟨A, 5, none⟩ x5) b s l :=
  (h.set5 A hA x0 x1 x2 x3 x4).setOther ⟨A, 5, none⟩ x5 hA
def zL : List Value := [.string ⟨#[]⟩, .int .i64 0, .string ⟨#[]⟩, .string ⟨#[]⟩, .string ⟨#[]⟩, .bool false]

set_option maxHeartbeats 1000000 in
set_option maxRecDepth 100000 in
theorem literal_no (w : World) (b : Nat) (s : ByteArray) (l : List UInt8) (hR : Rd w b s l) (hs : s.size ≤ 281474976710656) (h1 : tookB l 33 = false) :
    Calls Tryz.prog 136 #[.pointer (some ⟨b, 0, none⟩)] w fun e w' => e = .returned (litVal s l) ∧ Rd w' b s (litAt s l).rest ∧ Kept b w w' := by
  have hsm : s.size ≤ maxLen := by unfold maxLen; omega
  have hlt := hR.lt
  have hll := hR.len
  obtain ⟨r0, H0⟩ : ∃ r0, Hid (r0 = tookL l 33) := ⟨_, rfl⟩
  obtain ⟨A, HA⟩ : ∃ A, Hid (A = atomR s r0) := ⟨_, rfl⟩
  have HE2 : Hid ((litAt s l).rest = A.rest) := by show (litAt s l).rest = _; simp [litAt, ← H0.out, ← HA.out]
  rw [litVal_no s l r0 A H0.out HA.out h1, HE2.out]
  go_enter Tryz.func136, Tryz.ntmps136
  go_wp2_with (first
    | (go_at_call 89; refine (take_l _ b s l 33 (by exact (hR.alloc _).alloc _) hsm (by omega)).mono ?_; rintro e w1 ⟨rfl, hR1, hK1⟩; rw [← H0.out] at hR1; have c1 := hR1.c1; have hA1 := (new_one w zL 186 zS 141).kept hK1 (by omega); have hS1 := (new_two w _ zS 141).kept hK1 (by omega); have hz1 : w.heap.size + 1 < w1.heap.size := hS1.lt)
    | (go_at_call 88; refine (atom_l _ b s r0 (by exact hR1) hs).mono ?_; rintro e w2 ⟨he, hR2, hK2⟩; rw [← HA.out] at he hR2; rw [AtR.val_eq] at he; subst he; clear c1; have hA2 := hA1.kept hK2 (by omega); have hS2 := hS1.kept hK2 (by omega); have hz2 : w1.heap.size ≤ w2.heap.size := hK2.size; obtain ⟨a0, a1, a2, a3, a4, a5⟩ := hA2.c6; have fA := hA2.frozen; obtain ⟨s0, s1, s2, s3, s4⟩ := hS2.c5; have fS := hS2.frozen; have HK2 : Hid (Kept b w w2) := ((((Kept.refl b w).allocs _).allocs _).trans hK1).trans hK2; clear hK1 hK2 hA1 hS1 hA2 hS2; have hz3 : w.heap.size < w2.heap.size := (by omega); have hz4 : w.heap.size + 1 < w2.heap.size := (by omega); have hz5 : w.heap.size < w2.heap.size + 1 := (by omega); have hz6 : w.heap.size + 1 < w2.heap.size + 1 := (by omega)))
  go_region
  go_wp2
  exact bodyPost_ret (v := .tuple #[.agg #[.string A.nm, .int .i64 A.cn, .string (A.t 0), .string (A.t 1), .string (A.t 2), .bool false], .agg #[.int .i64 0, .int .i64 A.np', .int .i64 (A.p 0), .int .i64 (A.p 1), .int .i64 (A.p 2)], .bool A.ok]) (by simp [results, Tryz.results136, go_sem, a0, a1, a2, a3, a4, a5, s0, s1, s2, s3, s4, hz3, hz4, hz5]) rfl ⟨rfl, ((((hR2.set6 _ (by omega) _ _ _ _ _ _).set5 _ (by omega) _ _ _ _ _).alloc _).alloc _).drew, ((((HK2.out.set6 _ (by omega) _ _ _ _ _ _).set5 _ (by omega) _ _ _ _ _).allocs _).allocs _).drewn⟩

set_option maxHeartbeats 1000000 in
set_option maxRecDepth 100000 in
theorem literal_yes (w : World) (b : Nat) (s : ByteArray) (l : List UInt8) (hR : Rd w b s l) (hs : s.size ≤ 281474976710656) (h1 : tookB l 33 = true) :
    Calls Tryz.prog 136 #[.pointer (some ⟨b, 0, none⟩)] w fun e w' => e = .returned (litVal s l) ∧ Rd w' b s (litAt s l).rest ∧ Kept b w w' := by
  have hsm : s.size ≤ maxLen := by unfold maxLen; omega
  have hlt := hR.lt
  have hll := hR.len
  obtain ⟨r0, H0⟩ : ∃ r0, Hid (r0 = tookL l 33) := ⟨_, rfl⟩
  obtain ⟨A, HA⟩ : ∃ A, Hid (A = atomR s r0) := ⟨_, rfl⟩
  have hp : 1 ≤ posOf s r0 := by
    have := tookL_lt l 33 h1 (by omega)
    rw [← H0.out] at this
    unfold posOf; omega
  have hps : posOf s r0 ≤ 281474976710656 := by unfold posOf; omega
  have HE2 : Hid ((litAt s l).rest = A.rest) := by show (litAt s l).rest = _; simp [litAt, ← H0.out, ← HA.out]
  rw [litVal_yes s l r0 A H0.out HA.out h1 hp, HE2.out]
  go_enter Tryz.func136, Tryz.ntmps136
  go_wp2_with (first
    | (go_at_call 89; refine (take_l _ b s l 33 (by exact (hR.alloc _).alloc _) hsm (by omega)).mono ?_; rintro e w1 ⟨rfl, hR1, hK1⟩; rw [← H0.out] at hR1; have c1 := hR1.c1; have hA1 := (new_one w zL 186 zS 141).kept hK1 (by omega); have hS1 := (new_two w _ zS 141).kept hK1 (by omega); have hz1 : w.heap.size + 1 < w1.heap.size := hS1.lt)
    | (go_at_call 88; refine (atom_l _ b s r0 (by exact hR1) hs).mono ?_; rintro e w2 ⟨he, hR2, hK2⟩; rw [← HA.out] at he hR2; rw [AtR.val_eq] at he; subst he; clear c1; have hA2 := hA1.kept hK2 (by omega); have hS2 := hS1.kept hK2 (by omega); have hz2 : w1.heap.size ≤ w2.heap.size := hK2.size; obtain ⟨a0, a1, a2, a3, a4, a5⟩ := hA2.c6; have fA := hA2.frozen; obtain ⟨s0, s1, s2, s3, s4⟩ := hS2.c5; have fS := hS2.frozen; have HK2 : Hid (Kept b w w2) := ((((Kept.refl b w).allocs _).allocs _).trans hK1).trans hK2; clear hK1 hK2 hA1 hS1 hA2 hS2; have hz3 : w.heap.size < w2.heap.size := (by omega); have hz4 : w.heap.size + 1 < w2.heap.size := (by omega); have hz5 : w.heap.size < w2.heap.size + 1 := (by omega); have hz6 : w.heap.size + 1 < w2.heap.size + 1 := (by omega)))
  go_region
  go_wp2
  exact bodyPost_ret (v := .tuple #[.agg #[.string A.nm, .int .i64 A.cn, .string (A.t 0), .string (A.t 1), .string (A.t 2), .bool true], .agg #[.int .i64 ((posOf s r0 : Int) - 1), .int .i64 A.np', .int .i64 (A.p 0), .int .i64 (A.p 1), .int .i64 (A.p 2)], .bool A.ok]) (by simp [results, Tryz.results136, go_sem, a0, a1, a2, a3, a4, a5, s0, s1, s2, s3, s4, hz3, hz4, hz5]) rfl ⟨rfl, ((((hR2.set6 _ (by omega) _ _ _ _ _ _).set5 _ (by omega) _ _ _ _ _).alloc _).alloc _).drew, ((((HK2.out.set6 _ (by omega) _ _ _ _ _ _).set5 _ (by omega) _ _ _ _ _).allocs _).allocs _).drewn⟩

theorem literal_l (w : World) (b : Nat) (s : ByteArray) (l : List UInt8) (hR : Rd w b s l) (hs : s.size ≤ 281474976710656) :
    Calls Tryz.prog 136 #[.pointer (some ⟨b, 0, none⟩)] w fun e w' => e = .returned (litVal s l) ∧ Rd w' b s (litAt s l).rest ∧ Kept b w w' := by
  cases h1 : tookB l 33
  · exact literal_no w b s l hR hs h1
  · exact literal_yes w b s l hR hs h1

end Go.Proofs.YtpbfiffgcgnidaaGreatDoor
