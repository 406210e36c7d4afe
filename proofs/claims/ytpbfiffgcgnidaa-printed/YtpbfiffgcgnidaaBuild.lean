/-
  OUR OWN. strings.Builder: what is written by bytes and by strings.
-/
import Derived.Test.YtpbfiffgcgnidaaLoad
import Derived.Test.YtpbfiffgcgnidaaShelf2
import Derived.Deep.CutRange
namespace Go.Proofs.Ytpbfiffgcgnidaa
open Go.RowKit Go.WideMaps Go.Maps
attribute [local go_sem] drewN_alloc drewN_setCell

/-- A builder at block b that holds these bytes; its row is from B on. -/
def Bld (w : World) (B b : Nat) (l : List UInt8) : Prop := ∃ p v, Blk w b [p, v] 66 ∧ (p = .pointer none ∨ p = .pointer (some ⟨b, 0, none⟩)) ∧ w.ownsRow B 5 1 v l.length (Lib.byteCells l) ∧ B ≤ b
/-- .. that has been written. -/
def BldU (w : World) (B b : Nat) (l : List UInt8) : Prop := ∃ v, Blk w b [.pointer (some ⟨b, 0, none⟩), v] 66 ∧ w.ownsRow B 5 1 v l.length (Lib.byteCells l) ∧ B ≤ b
theorem BldU.bld {w : World} {B b : Nat} {l : List UInt8} (h : BldU w B b l) : Bld w B b l := by
  obtain ⟨v, h1, h2, h3⟩ := h
  exact ⟨_, v, h1, .inr rfl, h2, h3⟩

theorem infoBuilder : (Try.prog.info? 66).map (fun i => i.size) = some 2 := by kernel_rfl
theorem liesBuilder : liesAt Try.prog Try.prog.depth 66 (2 / Try.prog.cellsOf 66) 0 66 1 = true := by kernel_rfl

set_option maxHeartbeats 1000000 in
set_option maxRecDepth 100000 in
theorem copyCheck_used (b : Nat) (w : World) (h0 : w.cell? ⟨b, 0, none⟩ = some (.pointer (some ⟨b, 0, none⟩))) :
    Calls Try.prog 39 #[.pointer (some ⟨b, 0, none⟩)] w fun e w' => e = .returned (.tuple #[]) ∧ w' = w := by
  obtain ⟨j, hj, _⟩ := Option.map_eq_some_iff.1 infoBuilder
  go_enter Try.func39, Try.ntmps39
  go_wp2
  rw [Lib.run_neq_ptr_same w _ Try.underlying63 hj]
  go_wp2
  go_end0
  exact ⟨rfl, rfl⟩

set_option maxRecDepth 100000 in
theorem toPtr_run (b : Nat) (w : World) (hsh : w.shape? b = some (66, 2)) :
    (convert 63 118 (.pointer (some ⟨b, 0, none⟩))).run Try.prog w = .ok (.pointer (some ⟨b, 0, none⟩)) w := by
  obtain ⟨j, hj, hjs⟩ := Option.map_eq_some_iff.1 infoBuilder
  simp [convert, run_underlying Try.underlying63, run_underlying Try.underlying118]
  change Sem.run Try.prog (underlying 63 >>= _) w = _
  simp [run_underlying Try.underlying63, run_underlying Try.underlying118, Conv.seenAt, viewAt, cellsIn, hsh, sizeOf, typeInfo, hj, hjs]
set_option maxRecDepth 100000 in
theorem ofPtr_run (b : Nat) (w : World) (hsh : w.shape? b = some (66, 2)) :
    (convert 118 63 (.pointer (some ⟨b, 0, none⟩))).run Try.prog w = .ok (.pointer (some ⟨b, 0, none⟩)) w := by
  obtain ⟨j, hj, hjs⟩ := Option.map_eq_some_iff.1 infoBuilder
  simp [convert, run_underlying Try.underlying63, run_underlying Try.underlying118]
  change Sem.run Try.prog (underlying 118 >>= _) w = _
  simp [run_underlying Try.underlying63, run_underlying Try.underlying118, Conv.seenAt, viewAt, hsh, variablesAt, liesBuilder, sizeOf, typeInfo, hj]

set_option maxHeartbeats 1000000 in
set_option maxRecDepth 100000 in
theorem copyCheck_fresh (b : Nat) (w : World) (h0 : w.cell? ⟨b, 0, none⟩ = some (.pointer none)) (hsh : w.shape? b = some (66, 2)) (hfz : w.frozen? ⟨b, 0, none⟩ = false) :
    Calls Try.prog 39 #[.pointer (some ⟨b, 0, none⟩)] w fun e w' => e = .returned (.tuple #[]) ∧ w' = w.setCell ⟨b, 0, none⟩ (.pointer (some ⟨b, 0, none⟩)) := by
  go_enter Try.func39, Try.ntmps39
  go_wp2
  rw [toPtr_run b w hsh]
  simp only [Result.andThen]
  rw [Oper.upon_value]
  go_wp2
  rw [run_callFunc_extern Try.func54 (by kernel_rfl) (by kernel_rfl) (by kernel_rfl) (e := Extern.AbiNoEscape.same) (by kernel_rfl)]
  rw [Lib.run_noEscape]
  simp only [Result.andThen]
  rw [Oper.upon_value]
  go_wp2
  rw [ofPtr_run b w hsh]
  simp only [Result.andThen]
  rw [Oper.upon_value]
  go_wp2
  go_end0
  exact ⟨rfl, rfl⟩

theorem copyCheck_c (w : World) (B b : Nat) (l : List UInt8) (h : Bld w B b l) (hB : B ≤ w.heap.size) :
    Calls Try.prog 39 #[.pointer (some ⟨b, 0, none⟩)] w fun e w' => e = .returned (.tuple #[]) ∧ BldU w' B b l ∧ KeptX B b [5] w w' := by
  obtain ⟨p, v, hb, hp, ho, hBb⟩ := h
  rcases hp with rfl | rfl
  · refine (copyCheck_fresh b w (hb.cell 0) (by unfold Blk at hb; simp [World.shape?, hb]) (hb.frozen 0)).mono ?_
    rintro e w' ⟨rfl, rfl⟩
    exact ⟨rfl, ⟨v, hb.setCell 0 _, own_set ho ⟨b, 0, none⟩ _ (own_ne ho hb (by decide)), hBb⟩, KeptX.kept (Kept.setCell (b := b) w (p := ⟨b, 0, none⟩) rfl _) hB⟩
  · refine (copyCheck_used b w (hb.cell 0)).mono ?_
    rintro e w' ⟨rfl, rfl⟩
    exact ⟨rfl, ⟨v, hb, ho, hBb⟩, KeptX.refl _ _ _ _⟩

theorem infoByte : (Try.prog.info? 5).map (fun i => (i.zero, i.size, i.bytes)) = some (some (.int .u8 0), 1, 1) := by kernel_rfl
theorem byteCells_snoc (l : List UInt8) (c : UInt8) : Lib.byteCells (l ++ [c]) = Lib.byteCells l ++ [.int .u8 (c.toNat : Int)] := by simp [Lib.byteCells]

set_option maxHeartbeats 1000000 in
set_option maxRecDepth 100000 in
theorem writeByte_c (w : World) (B b : Nat) (l : List UInt8) (c : UInt8) (x : Int) (hx : x = (c.toNat : Int)) (h : Bld w B b l) (hB : B ≤ w.heap.size) (hl : l.length ≤ 1000000) :
    Calls Try.prog 25 #[.pointer (some ⟨b, 0, none⟩), .int .u8 x] w fun e w' => e = .returned .nilIface ∧ Bld w' B b (l ++ [c]) ∧ KeptX B b [5] w w' := by
  have HX := hid hx
  clear hx
  obtain ⟨i0, hi, hz0, hz1, hz2⟩ := info_parts infoByte
  go_enter Try.func25, Try.ntmps25
  go_wp2_with (first
    | (go_at_call 39; refine (copyCheck_c _ B b l h hB).mono ?_; rintro e w1 ⟨rfl, hU1, hX1⟩; obtain ⟨v, hb1, ho1, hBb⟩ := hU1; obtain ⟨ao, cap, rfl⟩ := own_form ho1; have c1 := hb1.cell 1; simp at c1; have hs1 := hX1.size)
    | (at_builtin; refine wpList_append_ownS _ rfl _ _ 64 rfl B 5 i0 _ 1 1 Try.underlying64 hi hz0 hz1 hz2 rfl (by decide) _ l.length (Lib.byteCells l) rfl (ho1.alloc _) ⟨w1.heap.size, 0, none⟩ 1 [.int .u8 x] rfl rfl (new_cells _ _ _) (by intro u hu; simp at hu; subst hu; rfl) (by unfold maxLen; omega) (by omega) (by simp; omega) ?_; intro g cap2 w2 ho2 hg2; have hb2 := (hb1.alloc _).grown hg2 (own_ne ho1 hb1 (by decide)); have d1 := hb2.cell 1; have f2 := hb2.frozen; simp at d1))
  go_ret
  refine ⟨rfl, ⟨_, _, hb2.setCell 1 _, .inr rfl, ?_, hBb⟩, ?_⟩
  · rw [byteCells_snoc, ← HX.out, List.length_append]
    exact own_set ho2 ⟨b, 1, none⟩ _ (own_ne ho2 hb2 (by decide))
  · have hX2 : KeptX B b [5] w w2 := (hX1.trans (KeptX.alloc _ _ (by omega))).trans (KeptX.grown hg2 (ho1.alloc _) (Nat.le_refl _) (by simp; omega) (by simp))
    exact hX2.trans (KeptX.kept (Kept.setCell (b := b) w2 (p := ⟨b, 1, none⟩) rfl _) (by have := hX2.size; omega))

set_option maxHeartbeats 1000000 in
set_option maxRecDepth 100000 in
theorem writeString_c (w : World) (B b : Nat) (l : List UInt8) (s : List UInt8) (h : Bld w B b l) (hB : B ≤ w.heap.size) (hl : l.length ≤ 1000000) (hs : s.length ≤ 1000000) :
    Calls Try.prog 38 #[.pointer (some ⟨b, 0, none⟩), .string (bs s)] w fun e w' => e = .returned (.tuple #[.int .i64 s.length, .nilIface]) ∧ Bld w' B b (l ++ s) ∧ KeptX B b [5] w w' := by
  obtain ⟨i0, hi, hz0, hz1, hz2⟩ := info_parts infoByte
  have hsz := bs_size s
  go_enter Try.func38, Try.ntmps38
  go_wp2_with (first
    | (go_at_call 39; refine (copyCheck_c _ B b l h hB).mono ?_; rintro e w1 ⟨rfl, hU1, hX1⟩; obtain ⟨v, hb1, ho1, hBb⟩ := hU1; obtain ⟨ao, cap, rfl⟩ := own_form ho1; have c1 := hb1.cell 1; simp at c1; have hs1 := hX1.size)
    | (at_builtin; refine Lib.wpList_append_own_string _ rfl _ _ 64 9 rfl B 5 i0 Try.underlying64 Try.underlying9 hi hz0 hz1 hz2 _ _ _ rfl ho1 (bs s) rfl (by rw [hsz]; unfold maxLen; omega) (by rw [hsz]; omega) (by omega) ?_; intro v2 w2 ho2 hg2 hn2; obtain ⟨ao2, cap2, rfl⟩ := own_form ho2; have hb2 := hb1.grown hg2 (own_ne ho1 hb1 (by decide)); have d1 := hb2.cell 1; have f2 := hb2.frozen; simp at d1))
  go_ret2
  rw [hsz] at ho2
  refine ⟨rfl, ⟨_, _, hb2.setCell 1 _, .inr rfl, ?_, hBb⟩, ?_⟩
  · rw [Lib.byteCells_append, List.length_append]
    exact own_set ho2 ⟨b, 1, none⟩ _ (own_ne ho2 hb2 (by decide))
  · have hX2 : KeptX B b [5] w w2 := hX1.trans (KeptX.grown hg2 ho1 (Nat.le_refl _) (by omega) (by simp))
    exact hX2.trans (KeptX.kept (Kept.setCell (b := b) w2 (p := ⟨b, 1, none⟩) rfl _) (by have := hX2.size; omega))

end Go.Proofs.Ytpbfiffgcgnidaa
