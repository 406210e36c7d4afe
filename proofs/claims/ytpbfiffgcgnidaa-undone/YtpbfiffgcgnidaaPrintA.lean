/-
  OUR OWN. Printing: an atom, a clause, a program.
-/
import Derived.Test.YtpbfiffgcgnidaaBuild
namespace Go.Proofs.Ytpbfiffgcgnidaa
open Go.RowKit Go.WideMaps Go.Maps
attribute [local go_sem] drewN_alloc drewN_setCell

def showA (n : List UInt8) (ts : List (List UInt8)) : List UInt8 := if ts.length = 0 then n else n ++ [40] ++ Lib.join ts [44] ++ [41]
theorem bs_data (l : List UInt8) : (bs l).data.toList = l := by simp [bs]
theorem Bld.alloc {w : World} {B b : Nat} {l : List UInt8} (h : Bld w B b l) (o : Obj) : Bld (w.alloc o) B b l := by
  obtain ⟨p, v, h1, h2, h3, h4⟩ := h
  exact ⟨p, v, h1.alloc o, h2, h3.alloc o, h4⟩
theorem Bld.below {w w' : World} {B b : Nat} {l : List UInt8} (h : Bld w B b l) (hb : Below w.heap.size w w') : Bld w' B b l := by
  obtain ⟨p, v, h1, h2, h3, h4⟩ := h
  exact ⟨p, v, h1.below hb, h2, own_below h3 hb, h4⟩
theorem KeptX.below {base sb : Nat} {T : List TypeId} {w w' : World} (h : Below w.heap.size w w') (hb : base ≤ w.heap.size) : KeptX base sb T w w' :=
  ⟨h.os, h.tape, h.output, h.size, fun k hk _ => h.block k (by omega), fun _ _ _ _ _ h3 => h3.below h⟩
theorem Bld.lt {w : World} {B b : Nat} {l : List UInt8} (h : Bld w B b l) : b < w.heap.size := by
  obtain ⟨p, v, h1, _⟩ := h
  exact h1.lt
theorem tail_len (ts : List (List UInt8)) (h : ∀ t ∈ ts, t.length ≤ 12) : (Lib.joinTail [44] ts).length ≤ 13 * ts.length := by
  induction ts with
  | nil => simp [Lib.joinTail]
  | cons t r ih =>
    have h1 := h t (by simp)
    have h2 := ih (fun x hx => h x (by simp [hx]))
    simp only [Lib.joinTail, List.map_cons, List.flatten_cons, List.length_append, List.length_cons, List.length_nil] at h2 ⊢
    omega
theorem join_len (ts : List (List UInt8)) (h : ∀ t ∈ ts, t.length ≤ 12) : (Lib.join ts [44]).length ≤ 13 * ts.length := by
  cases ts with
  | nil => simp [Lib.join_nil]
  | cons t r =>
    rw [Lib.join_cons]
    have h1 := h t (by simp)
    have h2 := tail_len r (fun x hx => h x (by simp [hx]))
    simp only [List.length_append, List.length_cons]
    omega
/-- The terms of an atom in its box, joined. -/
theorem joinTerms_c (w : World) (R : Nat) (ts : List (List UInt8)) (hR : R < w.heap.size) (h3 : ts.length ≤ 3) (ht : ∀ t ∈ ts, t.length ≤ 12) (hc : ∀ (j : Nat) x, (ts.map bs)[j]? = some x → w.cell? ⟨R, 2 + j, none⟩ = some (.string x)) :
    Calls Try.prog 53 #[.slice (some ⟨R, 2, none⟩) ts.length 3, .string ⟨#[44]⟩] w fun e w' => e = .returned (.string (bs (Lib.join ts [44]))) ∧ Below w.heap.size w w' := by
  have hjl := join_len ts ht
  have e1 : (ts.map bs).map (fun x : ByteArray => x.data.toList) = ts := by
    rw [List.map_map, show ((fun x : ByteArray => x.data.toList) ∘ bs) = id from funext bs_data, List.map_id]
  have e2 : (⟨#[44]⟩ : ByteArray).data.toList = [44] := rfl
  have hjn := Try.strings_Join R 2 3 (ts.map bs) ⟨#[44]⟩ w hc hR (by simp; omega) (by simpa using h3) (by rw [e1, e2]; omega)
  rw [List.length_map, e1, e2] at hjn
  exact hjn

set_option maxHeartbeats 1000000 in
set_option maxRecDepth 100000 in
theorem printAtom_c (w : World) (B b : Nat) (l : List UInt8) (n : List UInt8) (ts : List (List UInt8)) (h : Bld w B b l) (hB : B ≤ w.heap.size) (hl : l.length ≤ 900000) (hn : n.length ≤ 12) (h3 : ts.length ≤ 3) (ht : ∀ t ∈ ts, t.length ≤ 12) :
    Calls Try.prog 37 #[.pointer (some ⟨b, 0, none⟩), .agg #[.string (bs n), .int .i64 (ts.length : Nat), .string (bs (ts.getD 0 [])), .string (bs (ts.getD 1 [])), .string (bs (ts.getD 2 []))]] w fun e w' => e = .returned (.tuple #[]) ∧ Bld w' B b (l ++ showA n ts) ∧ KeptX B b [5] w w' := by
  have hblt := h.lt
  have hjl := join_len ts ht
  obtain ⟨y0, Y0⟩ : ∃ y0, Hid (y0 = bs (ts.getD 0 [])) := ⟨_, rfl⟩
  obtain ⟨y1, Y1⟩ : ∃ y1, Hid (y1 = bs (ts.getD 1 [])) := ⟨_, rfl⟩
  obtain ⟨y2, Y2⟩ : ∃ y2, Hid (y2 = bs (ts.getD 2 [])) := ⟨_, rfl⟩
  rw [← Y0.out, ← Y1.out, ← Y2.out]
  have hbx0 := Blk.new w [Value.string (bs n), .int .i64 (ts.length : Nat), .string y0, .string y1, .string y2] 48
  have hX0 : KeptX B b [5] w (w.alloc (.cells #[Value.string (bs n), .int .i64 (ts.length : Nat), .string y0, .string y1, .string y2] 48)) := KeptX.alloc _ _ hB
  by_cases h0 : ts.length = 0
  · have hq : ((ts.length : Int) == 0) = true := by rw [beq_iff_eq]; omega
    have HS := hid (show showA n ts = n by simp [showA, h0])
    clear h0
    go_enter Try.func37, Try.ntmps37
    go_wp2_with (go_at_call 38; refine (writeString_c _ B b l n (by exact h.alloc _) (by simp; omega) (by omega) (by omega)).mono ?_; rintro e w1 ⟨rfl, hb1, hX1⟩; have hbx1 := hX1.ty _ _ _ (by omega) (by decide) hbx0; obtain ⟨c0, c1, c2, c3, c4⟩ := hbx1.c5)
    rw [HS.out]
    exact bodyPost_ret (v := .tuple #[]) (by simp [results, Try.results37, go_sem]) rfl ⟨rfl, hb1, hX0.trans hX1⟩
  · have hq : ((ts.length : Int) == 0) = false := by rw [beq_eq_false_iff_ne]; omega
    have HS := hid (show showA n ts = n ++ [40] ++ Lib.join ts [44] ++ [41] by simp [showA, h0])
    clear h0
    have hsl := fun W : World => sliceN ts.length h3 w.heap.size 2 W
    have hcells : ∀ W : World, Blk W w.heap.size [.string (bs n), .int .i64 (ts.length : Nat), .string y0, .string y1, .string y2] 48 → ∀ (j : Nat) x, (ts.map bs)[j]? = some x → W.cell? ⟨w.heap.size, 2 + j, none⟩ = some (.string x) := by
      intro W hW j x hx
      have hj : j < ts.length := by
        have := (List.getElem?_eq_some_iff.1 hx).1; simpa using this
      have hx' : x = bs ts[j] := by simp [hj] at hx; exact hx.symm
      rw [hW.cell, Y0.out, Y1.out, Y2.out, hx']
      have h : j = 0 ∨ j = 1 ∨ j = 2 := by omega
      rcases h with rfl | rfl | rfl <;> simp [hj]
    go_enter Try.func37, Try.ntmps37
    go_wp2_with fail
    refine (writeString_c _ B b l n (by exact h.alloc _) (by simp; omega) (by omega) (by omega)).mono ?_
    rintro e w1 ⟨rfl, hb1, hX1⟩
    have hbx1 := hX1.ty _ _ _ (by omega) (by decide) hbx0
    obtain ⟨c0, c1, c2, c3, c4⟩ := hbx1.c5
    have hs1 : B ≤ w1.heap.size := by have := hX1.size; simp at this; omega
    go_wp2_with fail
    refine (writeByte_c _ B b (l ++ n) 40 _ rfl hb1 hs1 (by simp; omega)).mono ?_
    rintro e w2 ⟨rfl, hb2, hX2⟩
    have hbx2 := hX2.ty _ _ _ (by omega) (by decide) hbx1
    clear c0 c1 c2 c3 c4
    obtain ⟨c0, c1, c2, c3, c4⟩ := hbx2.c5
    have hs2 : B ≤ w2.heap.size := by have := hX2.size; omega
    go_wp2_with fail
    refine (joinTerms_c w2 w.heap.size ts hbx2.lt h3 ht (hcells w2 hbx2)).mono ?_
    rintro e w3 ⟨rfl, hB3⟩
    have hb3 := hb2.below hB3
    have hX3 : KeptX B b [5] w2 w3 := KeptX.below hB3 hs2
    have hs3 : B ≤ w3.heap.size := by have := hB3.size; omega
    clear c0 c1 c2 c3 c4
    go_wp2_with fail
    refine (writeString_c _ B b (l ++ n ++ [40]) (Lib.join ts [44]) hb3 hs3 (by simp; omega) (by omega)).mono ?_
    rintro e w4 ⟨rfl, hb4, hX4⟩
    have hs4 : B ≤ w4.heap.size := by have := hX4.size; omega
    go_wp2_with fail
    refine (writeByte_c _ B b (l ++ n ++ [40] ++ Lib.join ts [44]) 41 _ rfl hb4 hs4 (by simp; omega)).mono ?_
    rintro e w5 ⟨rfl, hb5, hX5⟩
    go_wp2_with fail
    go_end0
    rw [HS.out]
    exact ⟨rfl, by simpa using hb5, (((hX0.trans hX1).trans hX2).trans hX3).trans (hX4.trans hX5)⟩

end Go.Proofs.Ytpbfiffgcgnidaa
