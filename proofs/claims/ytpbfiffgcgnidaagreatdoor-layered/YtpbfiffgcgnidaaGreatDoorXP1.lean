/-
  OUR OWN. strings.Builder: what is written by bytes and by strings.
-/
import Derived.Test.YtpbfiffgcgnidaaGreatDoorXLoad
import Derived.Test.YtpbfiffgcgnidaaGreatDoorXShelf2
import Derived.Deep.CutRange
namespace Go.Proofs.YtpbfiffgcgnidaaGreatDoor
open Go.RowKit Go.WideMaps Go.Maps
attribute [local go_sem] drewN_alloc drewN_setCell

/-- A builder at block b that holds these bytes; its row is from B on. -/
def Bld (w : World) (B b : Nat) (l : List UInt8) : Prop := ∃ p v, Blk w b [p, v] 134 ∧ (p = .pointer none ∨ p = .pointer (some ⟨b, 0, none⟩)) ∧ w.ownsRow B 5 1 v l.length (Lib.byteCells l) ∧ B ≤ b
/-- .. that has been written. -/
def BldU (w : World) (B b : Nat) (l : List UInt8) : Prop := ∃ v, Blk w b [.pointer (some ⟨b, 0, none⟩), v] 134 ∧ w.ownsRow B 5 1 v l.length (Lib.byteCells l) ∧ B ≤ b
theorem BldU.bld {w : World} {B b : Nat} {l : List UInt8} (h : BldU w B b l) : Bld w B b l := by
  obtain ⟨v, h1, h2, h3⟩ := h
  exact ⟨_, v, h1, .inr rfl, h2, h3⟩

theorem infoBuilder : (Tryz.prog.info? 134).map (fun i => i.size) = some 2 := by kernel_rfl
theorem liesBuilder : liesAt Tryz.prog Tryz.prog.depth 134 (2 / Tryz.prog.cellsOf 134) 0 134 1 = true := by kernel_rfl

set_option maxHeartbeats 1000000 in
set_option maxRecDepth 100000 in
theorem copyCheck_used (b : Nat) (w : World) (h0 : w.cell? ⟨b, 0, none⟩ = some (.pointer (some ⟨b, 0, none⟩))) :
    Calls Tryz.prog 103 #[.pointer (some ⟨b, 0, none⟩)] w fun e w' => e = .returned (.tuple #[]) ∧ w' = w := by
  obtain ⟨j, hj, _⟩ := Option.map_eq_some_iff.1 infoBuilder
  go_enter Tryz.func103, Tryz.ntmps103
  go_wp2
  rw [Lib.run_neq_ptr_same w _ Tryz.underlying131 hj]
  go_wp2
  go_end0
  exact ⟨rfl, rfl⟩

set_option maxHeartbeats 1000000 in
set_option maxRecDepth 100000 in
theorem copyCheck_fresh (b : Nat) (w : World) (h0 : w.cell? ⟨b, 0, none⟩ = some (.pointer none)) (hsh : w.shape? b = some (134, 2)) (hfz : w.frozen? ⟨b, 0, none⟩ = false) :
    Calls Tryz.prog 103 #[.pointer (some ⟨b, 0, none⟩)] w fun e w' => e = .returned (.tuple #[]) ∧ w' = w.setCell ⟨b, 0, none⟩ (.pointer (some ⟨b, 0, none⟩)) := by
  obtain ⟨j, hj, hjs⟩ := Option.map_eq_some_iff.1 infoBuilder
  go_enter Tryz.func103, Tryz.ntmps103
  go_wp2
  rw [Lib.run_to_unsafe w ⟨b, 0, none⟩ Tryz.underlying131 Tryz.underlying238 hj (by rw [hjs]; decide) hsh (Nat.zero_lt_succ 1)]
  simp only [Result.andThen]
  rw [Oper.upon_value]
  go_wp2
  rw [run_callFunc_extern Tryz.func141 (by kernel_rfl) (by kernel_rfl) (by kernel_rfl) (e := Extern.AbiNoEscape.same) (by kernel_rfl)]
  rw [Lib.run_noEscape]
  simp only [Result.andThen]
  rw [Oper.upon_value]
  go_wp2
  rw [Lib.run_from_unsafe w ⟨b, 0, none⟩ Tryz.underlying238 Tryz.underlying131 hj hsh liesBuilder]
  simp only [Result.andThen]
  rw [Oper.upon_value]
  go_wp2
  go_end0
  exact ⟨rfl, rfl⟩

theorem copyCheck_c (w : World) (B b : Nat) (l : List UInt8) (h : Bld w B b l) (hB : B ≤ w.heap.size) :
    Calls Tryz.prog 103 #[.pointer (some ⟨b, 0, none⟩)] w fun e w' => e = .returned (.tuple #[]) ∧ BldU w' B b l ∧ KeptX B b [5] w w' := by
  obtain ⟨p, v, hb, hp, ho, hBb⟩ := h
  rcases hp with rfl | rfl
  · refine (copyCheck_fresh b w (hb.cell 0) (by unfold Blk at hb; simp [World.shape?, hb]) (hb.frozen 0)).mono ?_
    rintro e w' ⟨rfl, rfl⟩
    exact ⟨rfl, ⟨v, hb.setCell 0 _, own_set ho ⟨b, 0, none⟩ _ (own_ne ho hb (by decide)), hBb⟩, KeptX.kept (Kept.setCell (b := b) w (p := ⟨b, 0, none⟩) rfl _) hB⟩
  · refine (copyCheck_used b w (hb.cell 0)).mono ?_
    rintro e w' ⟨rfl, rfl⟩
    exact ⟨rfl, ⟨v, hb, ho, hBb⟩, KeptX.refl _ _ _ _⟩

theorem infoByte : (Tryz.prog.info? 5).map (fun i => (i.zero, i.size, i.bytes)) = some (some (.int .u8 0), 1, 1) := by kernel_rfl
theorem byteCells_snoc (l : List UInt8) (c : UInt8) : Lib.byteCells (l ++ [c]) = Lib.byteCells l ++ [.int .u8 (c.toNat : Int)] := by simp [Lib.byteCells]

set_option maxHeartbeats 1000000 in
set_option maxRecDepth 100000 in
theorem writeByte_c (w : World) (B b : Nat) (l : List UInt8) (c : UInt8) (x : Int) (hx : x = (c.toNat : Int)) (h : Bld w B b l) (hB : B ≤ w.heap.size) (hl : l.length ≤ 1000000) :
    Calls Tryz.prog 66 #[.pointer (some ⟨b, 0, none⟩), .int .u8 x] w fun e w' => e = .returned .nilIface ∧ Bld w' B b (l ++ [c]) ∧ KeptX B b [5] w w' := by
  have HX := hid hx
  clear hx
  obtain ⟨i0, hi, hz0, hz1, hz2⟩ := info_parts infoByte
  go_enter Tryz.func66, Tryz.ntmps66
  go_wp2_with (first
    | (go_at_call 103; refine (copyCheck_c _ B b l h hB).mono ?_; rintro e w1 ⟨rfl, hU1, hX1⟩; obtain ⟨v, hb1, ho1, hBb⟩ := hU1; obtain ⟨ao, cap, rfl⟩ := own_form ho1; have c1 := hb1.cell 1; simp at c1; have hs1 := hX1.size)
    | (at_builtin; refine wpList_append_ownS _ rfl _ _ 132 rfl B 5 i0 _ 1 1 Tryz.underlying132 hi hz0 hz1 hz2 rfl (by decide) _ l.length (Lib.byteCells l) rfl (ho1.alloc _) ⟨w1.heap.size, 0, none⟩ 1 [.int .u8 x] rfl rfl (new_cells _ _ _) (by intro u hu; simp at hu; subst hu; rfl) (by unfold maxLen; omega) (by omega) (by simp; omega) ?_; intro g cap2 w2 ho2 hg2; have hb2 := (hb1.alloc _).grown hg2 (own_ne ho1 hb1 (by decide)); have d1 := hb2.cell 1; have f2 := hb2.frozen; simp at d1))
  go_ret
  refine ⟨rfl, ⟨_, _, hb2.setCell 1 _, .inr rfl, ?_, hBb⟩, ?_⟩
  · rw [byteCells_snoc, ← HX.out, List.length_append]
    exact own_set ho2 ⟨b, 1, none⟩ _ (own_ne ho2 hb2 (by decide))
  · have hX2 : KeptX B b [5] w w2 := (hX1.trans (KeptX.alloc _ _ (by omega))).trans (KeptX.grown hg2 (ho1.alloc _) (Nat.le_refl _) (by simp; omega) (by simp))
    exact hX2.trans (KeptX.kept (Kept.setCell (b := b) w2 (p := ⟨b, 1, none⟩) rfl _) (by have := hX2.size; omega))

set_option maxHeartbeats 1000000 in
set_option maxRecDepth 100000 in
theorem writeString_c (w : World) (B b : Nat) (l : List UInt8) (s : List UInt8) (h : Bld w B b l) (hB : B ≤ w.heap.size) (hl : l.length ≤ 1000000) (hs : s.length ≤ 1000000) :
    Calls Tryz.prog 102 #[.pointer (some ⟨b, 0, none⟩), .string (bs s)] w fun e w' => e = .returned (.tuple #[.int .i64 s.length, .nilIface]) ∧ Bld w' B b (l ++ s) ∧ KeptX B b [5] w w' := by
  obtain ⟨i0, hi, hz0, hz1, hz2⟩ := info_parts infoByte
  have hsz := bs_size s
  go_enter Tryz.func102, Tryz.ntmps102
  go_wp2_with (first
    | (go_at_call 103; refine (copyCheck_c _ B b l h hB).mono ?_; rintro e w1 ⟨rfl, hU1, hX1⟩; obtain ⟨v, hb1, ho1, hBb⟩ := hU1; obtain ⟨ao, cap, rfl⟩ := own_form ho1; have c1 := hb1.cell 1; simp at c1; have hs1 := hX1.size)
    | (at_builtin; refine Lib.wpList_append_own_string _ rfl _ _ 132 9 rfl B 5 i0 Tryz.underlying132 Tryz.underlying9 hi hz0 hz1 hz2 _ _ _ rfl ho1 (bs s) rfl (by rw [hsz]; unfold maxLen; omega) (by rw [hsz]; omega) (by omega) ?_; intro v2 w2 ho2 hg2 hn2; obtain ⟨ao2, cap2, rfl⟩ := own_form ho2; have hb2 := hb1.grown hg2 (own_ne ho1 hb1 (by decide)); have d1 := hb2.cell 1; have f2 := hb2.frozen; simp at d1))
  go_ret2
  rw [hsz] at ho2
  refine ⟨rfl, ⟨_, _, hb2.setCell 1 _, .inr rfl, ?_, hBb⟩, ?_⟩
  · rw [Lib.byteCells_append, List.length_append]
    exact own_set ho2 ⟨b, 1, none⟩ _ (own_ne ho2 hb2 (by decide))
  · have hX2 : KeptX B b [5] w w2 := hX1.trans (KeptX.grown hg2 ho1 (Nat.le_refl _) (by omega) (by simp))
    exact hX2.trans (KeptX.kept (Kept.setCell (b := b) w2 (p := ⟨b, 1, none⟩) rfl _) (by have := hX2.size; omega))

end Go.Proofs.YtpbfiffgcgnidaaGreatDoor

namespace Go.Proofs.YtpbfiffgcgnidaaGreatDoor
open Go.RowKit Go.WideMaps Go.Maps
attribute [local go_sem] drewN_alloc drewN_setCell

def showA (n : List UInt8) (ts : List (List UInt8)) : List UInt8 := if ts.length = 0 then n else n ++ [40] ++ Lib.join ts [44] ++ [41]
theorem bs_data (l : List UInt8) : (bs l).data.toList = l := by simp [bs]
theorem Bld.alloc {w : World} {B b : Nat} {l : List UInt8} (h : Bld w B b l) (o : Obj) : Bld (w.alloc o) B b l := by
  obtain ⟨p, v, h1, h2, h3, h4⟩ := h
  exact ⟨p, v, h1.alloc o, h2, h3.alloc o, h4⟩
theorem Bld.below {w w' : World} {B b : Nat} {l : List UInt8} (h : Bld w B b l) (hb : Below w.heap.size w w') : Bld w' B b l := by
  obtain ⟨p, v, h1, h2, h3, h4⟩ := h
  exact ⟨p, v, h1.below hb, h2, own_below h3 hb, h4⟩
theorem KeptX.below {base sb : Nat} {T : List TypeId} {w w' : World} (h : Below w.heap.size w w') (hb : base ≤ w.heap.size) : KeptX base sb T w w' :=
  ⟨h.os, h.tape, h.output, h.size, fun k hk _ => h.block k (by omega), fun _ _ _ _ _ h3 => h3.below h⟩
theorem Bld.lt {w : World} {B b : Nat} {l : List UInt8} (h : Bld w B b l) : b < w.heap.size := by
  obtain ⟨p, v, h1, _⟩ := h
  exact h1.lt
theorem tail_len (ts : List (List UInt8)) (h : ∀ t ∈ ts, t.length ≤ 12) : (Lib.joinTail [44] ts).length ≤ 13 * ts.length := by
  induction ts with
  | nil => simp [Lib.joinTail]
  | cons t r ih =>
    have h1 := h t (by simp)
    have h2 := ih (fun x hx => h x (by simp [hx]))
    simp only [Lib.joinTail, List.map_cons, List.flatten_cons, List.length_append, List.length_cons, List.length_nil] at h2 ⊢
    omega
theorem join_len (ts : List (List UInt8)) (h : ∀ t ∈ ts, t.length ≤ 12) : (Lib.join ts [44]).length ≤ 13 * ts.length := by
  cases ts with
  | nil => simp [Lib.join_nil]
  | cons t r =>
    rw [Lib.join_cons]
    have h1 := h t (by simp)
    have h2 := tail_len r (fun x hx => h x (by simp [hx]))
    simp only [List.length_append, List.length_cons]
    omega
/-- The terms of an atom in its box, joined. -/
theorem joinTerms_c (w : World) (R : Nat) (ts : List (List UInt8)) (hR : R < w.heap.size) (h3 : ts.length ≤ 3) (ht : ∀ t ∈ ts, t.length ≤ 12) (hc : ∀ (j : Nat) x, (ts.map bs)[j]? = some x → w.cell? ⟨R, 2 + j, none⟩ = some (.string x)) :
    Calls Tryz.prog 140 #[.slice (some ⟨R, 2, none⟩) ts.length 3, .string ⟨#[44]⟩] w fun e w' => e = .returned (.string (bs (Lib.join ts [44]))) ∧ Below w.heap.size w w' := by
  have hjl := join_len ts ht
  have e1 : (ts.map bs).map (fun x : ByteArray => x.data.toList) = ts := by
    rw [List.map_map, show ((fun x : ByteArray => x.data.toList) ∘ bs) = id from funext bs_data, List.map_id]
  have e2 : (⟨#[44]⟩ : ByteArray).data.toList = [44] := rfl
  have hjn := Tryz.strings_Join R 2 3 (ts.map bs) ⟨#[44]⟩ w hc hR (by simp; omega) (by simpa using h3) (by rw [e1, e2]; omega)
  rw [List.length_map, e1, e2] at hjn
  exact hjn

set_option maxHeartbeats 1000000 in
set_option maxRecDepth 100000 in
theorem printAtom_c (w : World) (B b : Nat) (l : List UInt8) (n : List UInt8) (ts : List (List UInt8)) (h : Bld w B b l) (hB : B ≤ w.heap.size) (hl : l.length ≤ 900000) (hn : n.length ≤ 12) (h3 : ts.length ≤ 3) (ht : ∀ t ∈ ts, t.length ≤ 12) :
    Calls Tryz.prog 101 #[.pointer (some ⟨b, 0, none⟩), .agg #[.string (bs n), .int .i64 (ts.length : Nat), .string (bs (ts.getD 0 [])), .string (bs (ts.getD 1 [])), .string (bs (ts.getD 2 []))]] w fun e w' => e = .returned (.tuple #[]) ∧ Bld w' B b (l ++ showA n ts) ∧ KeptX B b [5] w w' := by
  have hblt := h.lt
  have hjl := join_len ts ht
  obtain ⟨y0, Y0⟩ : ∃ y0, Hid (y0 = bs (ts.getD 0 [])) := ⟨_, rfl⟩
  obtain ⟨y1, Y1⟩ : ∃ y1, Hid (y1 = bs (ts.getD 1 [])) := ⟨_, rfl⟩
  obtain ⟨y2, Y2⟩ : ∃ y2, Hid (y2 = bs (ts.getD 2 [])) := ⟨_, rfl⟩
  rw [← Y0.out, ← Y1.out, ← Y2.out]
  have hbx0 := Blk.new w [Value.string (bs n), .int .i64 (ts.length : Nat), .string y0, .string y1, .string y2] 80
  have hX0 : KeptX B b [5] w (w.alloc (.cells #[Value.string (bs n), .int .i64 (ts.length : Nat), .string y0, .string y1, .string y2] 80)) := KeptX.alloc _ _ hB
  by_cases h0 : ts.length = 0
  · have hq : ((ts.length : Int) == 0) = true := by rw [beq_iff_eq]; omega
    have HS := hid (show showA n ts = n by simp [showA, h0])
    clear h0
    go_enter Tryz.func101, Tryz.ntmps101
    go_wp2_with (go_at_call 102; refine (writeString_c _ B b l n (by exact h.alloc _) (by simp; omega) (by omega) (by omega)).mono ?_; rintro e w1 ⟨rfl, hb1, hX1⟩; have hbx1 := hX1.ty _ _ _ (by omega) (by decide) hbx0; obtain ⟨c0, c1, c2, c3, c4⟩ := hbx1.c5)
    rw [HS.out]
    exact bodyPost_ret (v := .tuple #[]) (by simp [results, Tryz.results101, go_sem]) rfl ⟨rfl, hb1, hX0.trans hX1⟩
  · have hq : ((ts.length : Int) == 0) = false := by rw [beq_eq_false_iff_ne]; omega
    have HS := hid (show showA n ts = n ++ [40] ++ Lib.join ts [44] ++ [41] by simp [showA, h0])
    clear h0
    have hsl := fun W : World => sliceN ts.length h3 w.heap.size 2 W
    have hcells : ∀ W : World, Blk W w.heap.size [.string (bs n), .int .i64 (ts.length : Nat), .string y0, .string y1, .string y2] 80 → ∀ (j : Nat) x, (ts.map bs)[j]? = some x → W.cell? ⟨w.heap.size, 2 + j, none⟩ = some (.string x) := by
      intro W hW j x hx
      have hj : j < ts.length := by
        have := (List.getElem?_eq_some_iff.1 hx).1; simpa using this
      have hx' : x = bs ts[j] := by simp [hj] at hx; exact hx.symm
      rw [hW.cell, Y0.out, Y1.out, Y2.out, hx']
      have h : j = 0 ∨ j = 1 ∨ j = 2 := by omega
      rcases h with rfl | rfl | rfl <;> simp [hj]
    go_enter Tryz.func101, Tryz.ntmps101
    go_wp2_with fail
    refine (writeString_c _ B b l n (by exact h.alloc _) (by simp; omega) (by omega) (by omega)).mono ?_
    rintro e w1 ⟨rfl, hb1, hX1⟩
    have hbx1 := hX1.ty _ _ _ (by omega) (by decide) hbx0
    obtain ⟨c0, c1, c2, c3, c4⟩ := hbx1.c5
    have hs1 : B ≤ w1.heap.size := by have := hX1.size; simp at this; omega
    go_wp2_with fail
    refine (writeByte_c _ B b (l ++ n) 40 _ rfl hb1 hs1 (by simp; omega)).mono ?_
    rintro e w2 ⟨rfl, hb2, hX2⟩
    have hbx2 := hX2.ty _ _ _ (by omega) (by decide) hbx1
    clear c0 c1 c2 c3 c4
    obtain ⟨c0, c1, c2, c3, c4⟩ := hbx2.c5
    have hs2 : B ≤ w2.heap.size := by have := hX2.size; omega
    go_wp2_with fail
    refine (joinTerms_c w2 w.heap.size ts hbx2.lt h3 ht (hcells w2 hbx2)).mono ?_
    rintro e w3 ⟨rfl, hB3⟩
    have hb3 := hb2.below hB3
    have hX3 : KeptX B b [5] w2 w3 := KeptX.below hB3 hs2
    have hs3 : B ≤ w3.heap.size := by have := hB3.size; omega
    clear c0 c1 c2 c3 c4
    go_wp2_with fail
    refine (writeString_c _ B b (l ++ n ++ [40]) (Lib.join ts [44]) hb3 hs3 (by simp; omega) (by omega)).mono ?_
    rintro e w4 ⟨rfl, hb4, hX4⟩
    have hs4 : B ≤ w4.heap.size := by have := hX4.size; omega
    go_wp2_with fail
    refine (writeByte_c _ B b (l ++ n ++ [40] ++ Lib.join ts [44]) 41 _ rfl hb4 hs4 (by simp; omega)).mono ?_
    rintro e w5 ⟨rfl, hb5, hX5⟩
    go_wp2_with fail
    go_end0
    rw [HS.out]
    exact ⟨rfl, by simpa using hb5, (((hX0.trans hX1).trans hX2).trans hX3).trans (hX4.trans hX5)⟩

end Go.Proofs.YtpbfiffgcgnidaaGreatDoor

namespace Go.Proofs.YtpbfiffgcgnidaaGreatDoor
open Go.RowKit Go.WideMaps Go.Maps
attribute [local go_sem] drewN_alloc drewN_setCell

def showL (i : Nat) (l : LitD) : List UInt8 := (if i = 0 then [58, 45] else [44]) ++ ((if l.neg = true then [33] else []) ++ showA l.name l.ts)
def showB : Nat → List LitD → List UInt8
  | _, [] => []
  | i, l :: r => showL i l ++ showB (i + 1) r
def ClD.shown (d : ClD) : List UInt8 := showA d.name d.ts ++ showB 0 d.lits ++ [46]
def shownAll (ds : List ClD) : List UInt8 := ds.flatMap fun d => d.shown ++ [10]
theorem showB_snoc (i : Nat) (ls : List LitD) (l : LitD) : showB i (ls ++ [l]) = showB i ls ++ showL (i + ls.length) l := by
  induction ls generalizing i with
  | nil => simp [showB]
  | cons a r ih => simp only [List.cons_append, showB, ih, List.length_cons, List.append_assoc]; rw [show i + 1 + r.length = i + (r.length + 1) by omega]
theorem showA_len (n : List UInt8) (ts : List (List UInt8)) (hn : n.length ≤ 12) (h3 : ts.length ≤ 3) (ht : ∀ t ∈ ts, t.length ≤ 12) : (showA n ts).length ≤ 60 := by
  have := join_len ts ht
  unfold showA
  split
  · omega
  · simp; omega

set_option maxHeartbeats 2000000 in
set_option maxRecDepth 100000 in
theorem printClause_c (w : World) (B b base : Nat) (l : List UInt8) (d : ClD) (bo : Option Addr) (bcap : Nat) (h : Bld w B b l) (hB : B ≤ w.heap.size) (hl : l.length ≤ 500000) (hwf : d.WF)
    (hL : w.ownsRow base 186 6 (.slice bo d.lits.length bcap) d.lits.length (d.lits.flatMap LitD.cells)) :
    Calls Tryz.prog 65 #[.pointer (some ⟨b, 0, none⟩), .agg #[.string (bs d.name), .int .i64 (d.ts.length : Nat), .string (bs (d.ts.getD 0 [])), .string (bs (d.ts.getD 1 [])), .string (bs (d.ts.getD 2 [])), .slice bo d.lits.length bcap]] w fun e w' => e = .returned (.tuple #[]) ∧ Bld w' B b (l ++ d.shown) ∧ KeptX B b [5] w w' := by
  have hblt := h.lt
  have hl4 := hwf.lits
  have hh := hwf.words (d.name, d.ts) (by simp [ClD.atoms])
  have hha := showA_len d.name d.ts hh.1 hh.2.1 hh.2.2
  obtain ⟨y0, Y0⟩ : ∃ y0, Hid (y0 = bs (d.ts.getD 0 [])) := ⟨_, rfl⟩
  obtain ⟨y1, Y1⟩ : ∃ y1, Hid (y1 = bs (d.ts.getD 1 [])) := ⟨_, rfl⟩
  obtain ⟨y2, Y2⟩ : ∃ y2, Hid (y2 = bs (d.ts.getD 2 [])) := ⟨_, rfl⟩
  have hpa := fun (W : World) (hb : Bld W B b l) (hs : B ≤ W.heap.size) => printAtom_c W B b l d.name d.ts hb hs (by omega) hh.1 hh.2.1 hh.2.2
  rw [← Y0.out, ← Y1.out, ← Y2.out]
  rw [← Y0.out, ← Y1.out, ← Y2.out] at hpa
  have HPA := hid hpa
  clear hpa
  have hbx0 := Blk.new w [Value.string (bs d.name), .int .i64 (d.ts.length : Nat), .string y0, .string y1, .string y2, .slice bo d.lits.length bcap] 86
  have hX0 : KeptX B b [5] w (w.alloc (.cells #[Value.string (bs d.name), .int .i64 (d.ts.length : Nat), .string y0, .string y1, .string y2, .slice bo d.lits.length bcap] 86)) := KeptX.alloc _ _ hB
  go_enter Tryz.func65, Tryz.ntmps65
  go_wp2_with (go_at_call 101; refine (HPA.out _ (by exact h.alloc _) (by simp; omega)).mono ?_; rintro e w1 ⟨rfl, hb1, hX1⟩; have hbx1 := hX1.ty _ _ _ (by omega) (by decide) hbx0; have f5 := hbx1.cell 5; simp at f5)
  have hXw1 := hX0.trans hX1
  clear hX0 hX1 hbx0
  go_loopw [13] (fun kv wr => ∃ (k : Nat), k ≤ d.lits.length ∧ kv = .int .i64 k ∧ (l ++ showA d.name d.ts ++ showB 0 (d.lits.take k)).length ≤ 500060 + 70 * k ∧ Bld wr B b (l ++ showA d.name d.ts ++ showB 0 (d.lits.take k)) ∧ KeptX B b [5] w wr) (fun kv _ => d.lits.length - (intOf kv).toNat)
  case atStart => exact ⟨0, by omega, rfl, by simp [showB]; omega, by simpa [showB] using hb1, hXw1⟩
  case round =>
    clear hb1 hXw1 f5 hbx1
    obtain ⟨k, hk, rfl, hlk, hb, hX⟩ := hrel
    have hsz : B ≤ wr.heap.size := by have := hX.size; omega
    have hbl := hb.lt
    by_cases hlt : k < d.lits.length
    · obtain ⟨g0, hao, hg0, e0, e1, e2, e3, e4, e5⟩ := lits_at (hX.own hL (by obtain ⟨p, v, h1, _⟩ := h; exact own_ne hL h1 (by decide)) (by decide)) k hlt
      subst hao
      have hwl := hwf.words (d.lits[k].name, d.lits[k].ts) (by simp only [ClD.atoms, List.mem_cons, List.mem_map]; exact .inr ⟨d.lits[k], List.getElem_mem hlt, rfl⟩)
      have HT := hid (show showB 0 (d.lits.take (k + 1)) = showB 0 (d.lits.take k) ++ showL k d.lits[k] by rw [List.take_succ_eq_append_getElem hlt, showB_snoc]; simp; rw [Nat.min_eq_left (by omega)])
      generalize d.lits[k] = L at *
      generalize hacc0 : l ++ showA d.name d.ts ++ showB 0 (d.lits.take k) = acc at *
      have HACC := hid hacc0
      clear hacc0
      have hsa := showA_len L.name L.ts hwl.1 hwl.2.1 hwl.2.2
      have HPL : Hid (∀ (W : World) (ac : List UInt8), Bld W B b ac → B ≤ W.heap.size → ac.length ≤ 900000 → Calls Tryz.prog 101 #[.pointer (some ⟨b, 0, none⟩), .agg #[.string L.nm, .int .i64 L.cn, .string (L.t 0), .string (L.t 1), .string (L.t 2)]] W fun e w' => e = .returned (.tuple #[]) ∧ Bld w' B b (ac ++ showA L.name L.ts) ∧ KeptX B b [5] W w') :=
        fun W ac h1 h2 h3 => printAtom_c W B b ac L.name L.ts h1 h2 h3 hwl.1 hwl.2.1 hwl.2.2
      have hbx0 := Blk.new wr [Value.string L.nm, .int .i64 L.cn, .string (L.t 0), .string (L.t 1), .string (L.t 2), .bool L.neg] 186
      by_cases hk0 : k = 0
      · cases hng : L.neg
        · have HLs := hid (show showL k L = [58, 45] ++ ([] ++ showA L.name L.ts) by simp [showL, hng, hk0])
          have hq : (((k : Nat) : Int) == 0) = true := by rw [beq_iff_eq]; omega
          clear hk0
          rw [hng] at e5 hbx0
          go_wp2_with fail
          refine (writeString_c _ B b acc [58, 45] (by exact hb.alloc _) (by simp; omega) (by omega) (by simp)).mono ?_
          rintro e w1 ⟨rfl, hb1, hX1⟩
          have hbx1 := hX1.ty _ _ _ (by omega) (by decide) hbx0
          have hs1 : B ≤ w1.heap.size := by have := hX1.size; simp at this; omega
          obtain ⟨c0, c1, c2, c3, c4, c5⟩ := hbx1.c6
          go_wp2_with fail
          refine (HPL.out _ (acc ++ [58, 45]) hb1 hs1 (by simp; omega)).mono ?_
          rintro e w3 ⟨rfl, hb3, hX3⟩
          go_wp2_with fail
          have hfin : acc ++ showL k L = acc ++ [58, 45] ++ showA L.name L.ts := by rw [HLs.out]; simp
          exact ⟨⟨k + 1, hlt, by go_num, by rw [HT.out, ← List.append_assoc, HACC.out, hfin]; simp; omega, by rw [HT.out, ← List.append_assoc, HACC.out, hfin]; exact hb3, ((hX.trans (KeptX.alloc _ _ hsz)).trans hX1).trans hX3⟩, by simp [intOf]; omega⟩
        · have HLs := hid (show showL k L = [58, 45] ++ ([33] ++ showA L.name L.ts) by simp [showL, hng, hk0])
          have hq : (((k : Nat) : Int) == 0) = true := by rw [beq_iff_eq]; omega
          clear hk0
          rw [hng] at e5 hbx0
          go_wp2_with fail
          refine (writeString_c _ B b acc [58, 45] (by exact hb.alloc _) (by simp; omega) (by omega) (by simp)).mono ?_
          rintro e w1 ⟨rfl, hb1, hX1⟩
          have hbx1 := hX1.ty _ _ _ (by omega) (by decide) hbx0
          have hs1 : B ≤ w1.heap.size := by have := hX1.size; simp at this; omega
          obtain ⟨c0, c1, c2, c3, c4, c5⟩ := hbx1.c6
          go_wp2_with fail
          refine (writeByte_c _ B b (acc ++ [58, 45]) 33 _ rfl hb1 hs1 (by simp; omega)).mono ?_
          rintro e w2 ⟨rfl, hb2, hX2⟩
          have hbx2 := hX2.ty _ _ _ (by omega) (by decide) hbx1
          have hs2 : B ≤ w2.heap.size := by have := hX2.size; omega
          clear c0 c1 c2 c3 c4 c5
          obtain ⟨c0, c1, c2, c3, c4, c5⟩ := hbx2.c6
          go_wp2_with fail
          refine (HPL.out _ (acc ++ [58, 45] ++ [33]) hb2 hs2 (by simp; omega)).mono ?_
          rintro e w3 ⟨rfl, hb3, hX3⟩
          go_wp2_with fail
          have hfin : acc ++ showL k L = acc ++ [58, 45] ++ [33] ++ showA L.name L.ts := by rw [HLs.out]; simp
          exact ⟨⟨k + 1, hlt, by go_num, by rw [HT.out, ← List.append_assoc, HACC.out, hfin]; simp; omega, by rw [HT.out, ← List.append_assoc, HACC.out, hfin]; exact hb3, (((hX.trans (KeptX.alloc _ _ hsz)).trans hX1).trans hX2).trans hX3⟩, by simp [intOf]; omega⟩
      · cases hng : L.neg
        · have HLs := hid (show showL k L = [44] ++ ([] ++ showA L.name L.ts) by simp [showL, hng, hk0])
          have hq : (((k : Nat) : Int) == 0) = false := by rw [beq_eq_false_iff_ne]; omega
          clear hk0
          rw [hng] at e5 hbx0
          go_wp2_with fail
          refine (writeByte_c _ B b acc 44 _ rfl (by exact hb.alloc _) (by simp; omega) (by omega)).mono ?_
          rintro e w1 ⟨rfl, hb1, hX1⟩
          have hbx1 := hX1.ty _ _ _ (by omega) (by decide) hbx0
          have hs1 : B ≤ w1.heap.size := by have := hX1.size; simp at this; omega
          obtain ⟨c0, c1, c2, c3, c4, c5⟩ := hbx1.c6
          go_wp2_with fail
          refine (HPL.out _ (acc ++ [44]) hb1 hs1 (by simp; omega)).mono ?_
          rintro e w3 ⟨rfl, hb3, hX3⟩
          go_wp2_with fail
          have hfin : acc ++ showL k L = acc ++ [44] ++ showA L.name L.ts := by rw [HLs.out]; simp
          exact ⟨⟨k + 1, hlt, by go_num, by rw [HT.out, ← List.append_assoc, HACC.out, hfin]; simp; omega, by rw [HT.out, ← List.append_assoc, HACC.out, hfin]; exact hb3, ((hX.trans (KeptX.alloc _ _ hsz)).trans hX1).trans hX3⟩, by simp [intOf]; omega⟩
        · have HLs := hid (show showL k L = [44] ++ ([33] ++ showA L.name L.ts) by simp [showL, hng, hk0])
          have hq : (((k : Nat) : Int) == 0) = false := by rw [beq_eq_false_iff_ne]; omega
          clear hk0
          rw [hng] at e5 hbx0
          go_wp2_with fail
          refine (writeByte_c _ B b acc 44 _ rfl (by exact hb.alloc _) (by simp; omega) (by omega)).mono ?_
          rintro e w1 ⟨rfl, hb1, hX1⟩
          have hbx1 := hX1.ty _ _ _ (by omega) (by decide) hbx0
          have hs1 : B ≤ w1.heap.size := by have := hX1.size; simp at this; omega
          obtain ⟨c0, c1, c2, c3, c4, c5⟩ := hbx1.c6
          go_wp2_with fail
          refine (writeByte_c _ B b (acc ++ [44]) 33 _ rfl hb1 hs1 (by simp; omega)).mono ?_
          rintro e w2 ⟨rfl, hb2, hX2⟩
          have hbx2 := hX2.ty _ _ _ (by omega) (by decide) hbx1
          have hs2 : B ≤ w2.heap.size := by have := hX2.size; omega
          clear c0 c1 c2 c3 c4 c5
          obtain ⟨c0, c1, c2, c3, c4, c5⟩ := hbx2.c6
          go_wp2_with fail
          refine (HPL.out _ (acc ++ [44] ++ [33]) hb2 hs2 (by simp; omega)).mono ?_
          rintro e w3 ⟨rfl, hb3, hX3⟩
          go_wp2_with fail
          have hfin : acc ++ showL k L = acc ++ [44] ++ [33] ++ showA L.name L.ts := by rw [HLs.out]; simp
          exact ⟨⟨k + 1, hlt, by go_num, by rw [HT.out, ← List.append_assoc, HACC.out, hfin]; simp; omega, by rw [HT.out, ← List.append_assoc, HACC.out, hfin]; exact hb3, (((hX.trans (KeptX.alloc _ _ hsz)).trans hX1).trans hX2).trans hX3⟩, by simp [intOf]; omega⟩
    · have hke : k = d.lits.length := by omega
      have HS := hid (show l ++ d.shown = l ++ showA d.name d.ts ++ showB 0 (d.lits.take k) ++ [46] by rw [hke, List.take_length]; simp [ClD.shown])
      clear hke
      go_wp2_with (go_at_call 66; refine (writeByte_c _ B b _ 46 _ rfl hb hsz (by omega)).mono ?_; rintro e w1 ⟨rfl, hb1, hX1⟩)
      go_end0
      rw [HS.out]
      exact ⟨rfl, hb1, hX.trans hX1⟩

end Go.Proofs.YtpbfiffgcgnidaaGreatDoor
