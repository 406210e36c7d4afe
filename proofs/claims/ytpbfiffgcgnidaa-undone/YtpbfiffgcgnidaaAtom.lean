/-
  OUR OWN. The reader's atom.
-/
import Derived.Test.YtpbfiffgcgnidaaTerm
import Derived.Test.YtpbfiffgcgnidaaBase2
namespace Go.Proofs.Ytpbfiffgcgnidaa
open Go.RowKit

/-- What the reader's atom gives: its name and terms, their places, what is left. -/
structure AtR where
  ok : Bool
  name : List UInt8
  ts : List (List UInt8)
  np : Nat
  ps : List Nat
  rest : List UInt8

def atomCells (n : List UInt8) (ts : List (List UInt8)) : List Value :=
  [.string (bs n), .int .i64 ts.length, .string (bs (ts.getD 0 [])), .string (bs (ts.getD 1 [])), .string (bs (ts.getD 2 []))]
def spotCells (mark np : Nat) (ps : List Nat) : List Value :=
  [.int .i64 mark, .int .i64 np, .int .i64 (ps.getD 0 0 : Nat), .int .i64 (ps.getD 1 0 : Nat), .int .i64 (ps.getD 2 0 : Nat)]

/-- The terms: at most f more. -/
def argsR (s : ByteArray) (name : List UInt8) (np : Nat) : Nat → List (List UInt8) → List Nat → List UInt8 → AtR
  | 0, ts, ps, l => ⟨tookB l 41, name, ts, np, ps, tookL l 41⟩
  | f + 1, ts, ps, l =>
    if termB l = false then ⟨false, [], [], 0, [], termL l⟩
    else if f = 0 then ⟨tookB (termL l) 41, name, ts ++ [termW l], np, ps ++ [posOf s (skipL l)], tookL (termL l) 41⟩
    else if tookB (termL l) 44 = false then ⟨tookB (tookL (termL l) 44) 41, name, ts ++ [termW l], np, ps ++ [posOf s (skipL l)], tookL (tookL (termL l) 44) 41⟩
    else argsR s name np f (ts ++ [termW l]) (ps ++ [posOf s (skipL l)]) (tookL (termL l) 44)

def atomR (s : ByteArray) (l : List UInt8) : AtR :=
  let m := skipL l
  let n := wlen smallDig 12 m
  if small (hd m) = false then ⟨false, [], [], 0, [], m⟩
  else if tookB (m.drop n) 40 = false then ⟨true, m.take n, [], posOf s m, [], tookL (m.drop n) 40⟩
  else argsR s (m.take n) (posOf s m) 3 [] [] (tookL (m.drop n) 40)

def AtR.val (r : AtR) : Value := .tuple #[.agg (atomCells r.name r.ts).toArray, .agg (spotCells 0 r.np r.ps).toArray, .bool r.ok]

theorem Rd.set5 {w : World} {b : Nat} {s : ByteArray} {l : List UInt8} (h : Rd w b s l) (A : Nat) (hA : b ≠ A) (x0 x1 x2 x3 x4 : Value) :
    Rd (((((w.setCell ⟨A, 0, none⟩ x0).setCell ⟨A, 1, none⟩ x1).setCell ⟨A, 2, none⟩ x2).setCell ⟨A, 3, none⟩ x3).setCell ⟨A, 4, none⟩ x4) b s l := by
  obtain ⟨i, hi, hl, hr⟩ := h
  exact ⟨i, hi, hl, Blk.setOther5 hr A hA x0 x1 x2 x3 x4⟩
def zA : List Value := [.string ⟨#[]⟩, .int .i64 0, .string ⟨#[]⟩, .string ⟨#[]⟩, .string ⟨#[]⟩]
def zS : List Value := [.int .i64 0, .int .i64 0, .int .i64 0, .int .i64 0, .int .i64 0]
theorem new_one (w : World) (cs : List Value) (t : TypeId) (cs' : List Value) (t' : TypeId) : Blk ((w.alloc (.cells cs.toArray t)).alloc (.cells cs'.toArray t')) w.heap.size cs t := (Blk.new w cs t).alloc _
theorem new_two (w : World) (o : Obj) (cs' : List Value) (t' : TypeId) : Blk ((w.alloc o).alloc (.cells cs'.toArray t')) (w.heap.size + 1) cs' t' := by
  have h := Blk.new (w.alloc o) cs' t'
  have e : (w.alloc o).heap.size = w.heap.size + 1 := by simp
  rwa [e] at h

set_option maxHeartbeats 400000 in
set_option maxRecDepth 100000 in
theorem atom_no (w : World) (b : Nat) (s : ByteArray) (l : List UInt8) (hR : Rd w b s l) (hs : s.size ≤ 281474976710656) (h1 : small (hd (skipL l)) = false) :
    Calls Try.prog 46 #[.pointer (some ⟨b, 0, none⟩)] w fun e w' => e = .returned (atomR s l).val ∧ Rd w' b s (atomR s l).rest ∧ Kept b w w' := by
  have hsm : s.size ≤ maxLen := by unfold maxLen; omega
  have hlt := hR.lt
  obtain ⟨m, HM⟩ : ∃ m, Hid (m = skipL l) := ⟨_, rfl⟩
  rw [← HM.out] at h1
  go_enter Try.func46, Try.ntmps46
  go_wp2_with (first | (go_at_call 45; refine (skipBlanks_l _ b s l (by exact (hR.alloc _).alloc _) hsm).mono ?_; rintro e w1 ⟨rfl, hR1, hK1⟩; rw [← HM.out] at hR1; have hA := (new_one w zA 48 zS 73).kept hK1 (by omega); have hS := (new_two w _ zS 73).kept hK1 (by omega); obtain ⟨a0, a1, a2, a3, a4⟩ := hA.c5; have fA := hA.frozen; obtain ⟨s0, s1, s2, s3, s4⟩ := hS.c5; have fS := hS.frozen) | (go_at_call 57; refine (peek_l _ b s m (by exact hR1) hsm).mono ?_; rintro e w' ⟨rfl, n, rfl⟩) | (go_at_call 58; refine (isSmall_c _ _).mono ?_; rintro e w' ⟨rfl, rfl⟩))
  have er : atomR s l = ⟨false, [], [], 0, [], m⟩ := by simp [atomR, ← HM.out, h1]
  rw [er]
  refine bodyPost_ret (v := AtR.val ⟨false, [], [], 0, [], m⟩) (by simp [results, Try.results46, go_sem, AtR.val, atomCells, spotCells, bs, a0, a1, a2, a3, a4, s0, s1, s2, s3, s4]) rfl ⟨rfl, ?_, ?_⟩
  · repeat (refine Rd.setOther ?_ _ _ (by simp only [ne_eq]; omega))
    exact hR1.drewN _
  · repeat (refine Kept.setNew ?_ (by simp only []; omega) _)
    exact ((((Kept.refl b w).allocs _).allocs _).trans hK1).draws _

end Go.Proofs.Ytpbfiffgcgnidaa
