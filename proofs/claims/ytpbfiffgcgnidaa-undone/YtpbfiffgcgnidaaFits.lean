/-
  OUR OWN. How many terms a name stands with: Fits.
-/
import Derived.Test.YtpbfiffgcgnidaaAtoms
import Derived.Deep.CutRange
namespace Go.Proofs.Ytpbfiffgcgnidaa
open Go.RowKit Go.WideMaps Go.Maps
attribute [local go_sem] drewN_alloc drewN_setCell

def CountsIs (w : World) (base : Nat) (mv lv cv : Value) (xs : List (List UInt8)) (ns : List Nat) : Prop :=
  SetIs w base mv lv xs ∧ ns.length = xs.length ∧ w.ownsRow base 3 1 cv xs.length (ns.map fun n => .int .i64 (n : Nat))

theorem infoInt : (Try.prog.info? 3).map (fun i => (i.zero, i.size, i.bytes)) = some (some (.int .i64 0), 1, 8) := by kernel_rfl

theorem SetIs.keptX {base sb : Nat} {w w' : World} {mv lv : Value} {xs : List (List UInt8)} (h : SetIs w base mv lv xs) (hk : Kept sb w w') {cs : List Value} {t : TypeId} (hb : Blk w sb cs t) (ht : t ≠ 9) : SetIs w' base mv lv xs := by
  refine ⟨own_kept h.1 hk (own_ne h.1 hb ht), ?_⟩
  rcases h.2 with h2 | ⟨r, D, hm, hr, ho, hD⟩
  · exact .inl h2
  · exact .inr ⟨r, D, hm, hr, map_kept ho hk (map_ne ho hb).symm, hD⟩
theorem SetIs.alloc {base : Nat} {w : World} {mv lv : Value} {xs : List (List UInt8)} (h : SetIs w base mv lv xs) (o : Obj) : SetIs (w.alloc o) base mv lv xs := by
  refine ⟨h.1.alloc o, ?_⟩
  rcases h.2 with h2 | ⟨r, D, hm, hr, ho, hD⟩
  · exact .inl h2
  · exact .inr ⟨r, D, hm, hr, ho.alloc o, hD⟩
theorem SetIs.drew {base : Nat} {w : World} {mv lv : Value} {xs : List (List UInt8)} (h : SetIs w base mv lv xs) : SetIs w.drew base mv lv xs := h
theorem SetIs.drewN {base : Nat} {w : World} {mv lv : Value} {xs : List (List UInt8)} (h : SetIs w base mv lv xs) (n : Nat) : SetIs (w.drewN n) base mv lv xs := h
/-- Another row has grown. -/
theorem SetIs.grown {base : Nat} {w w' : World} {mv lv : Value} {xs : List (List UInt8)} (h : SetIs w base mv lv xs) {base' : Nat} {e : TypeId} {size : Nat} {v : Value} {n : Nat} {ys : List Value} (hg : w.grownBy w' v.ownBlock) (ho : w.ownsRow base' e size v n ys) (he : e ≠ 9) : SetIs w' base mv lv xs := by
  refine ⟨h.1.kept hg (own_ne2 h.1 ho (Ne.symm he)), ?_⟩
  rcases h.2 with h2 | ⟨r, D, hm, hr, hw, hD⟩
  · exact .inl h2
  · exact .inr ⟨r, D, hm, hr, hw.kept hg (Ne.symm (map_row hw ho)), hD⟩

theorem posIn_lt (xs : List (List UInt8)) (k : List UInt8) (h : hasW xs k = true) : posIn xs k < xs.length := by
  have hk : k ∈ xs := by simpa [hasW] using h
  simp only [posIn, hk, if_pos]
  exact List.idxOf_lt_length_of_mem hk

def nAt (ns : List Nat) (i : Nat) : Int := (ns.getD i 0 : Nat)

set_option maxHeartbeats 800000 in
set_option maxRecDepth 100000 in
theorem fits_old (w : World) (base sb : Nat) (mv lv cv : Value) (xs : List (List UInt8)) (ns : List Nat) (k : List UInt8) (c : Int) (t0 t1 t2 : ByteArray) (hB : Blk w sb [mv, lv, cv] 111) (hC : CountsIs w base mv lv cv xs ns) (hk : k.length ≤ maxLen) (hx : hasW xs k = true) :
    Calls Try.prog 42 #[.pointer (some ⟨sb, 0, none⟩), .agg #[.string (bs k), .int .i64 c, .string t0, .string t1, .string t2]] w fun e w' => e = .returned (.bool (nAt ns (posIn xs k) == c)) ∧
      Below w.heap.size w w' := by
  obtain ⟨hS, hl, hN⟩ := hC
  have hp := posIn_lt xs k hx
  obtain ⟨ao, cap, rfl⟩ := own_form hN
  obtain ⟨g, rfl, hg⟩ := own_cell hN _ hp
  have hgg : w.cell? ⟨g, posIn xs k, none⟩ = some (.int .i64 (nAt ns (posIn xs k))) := by rw [hg]; simp [nAt, hl, hp]
  have hgl : g < w.heap.size := (hN.lt g rfl).2
  have hbl := hB.lt
  have c2 : w.cell? ⟨sb, 2, none⟩ = some (.slice (some ⟨g, 0, none⟩) xs.length cap) := hB.cell 2
  clear hg
  have hL := hid hl
  clear hl
  obtain ⟨p, HP⟩ : ∃ p : Nat, Hid (p = posIn xs k) := ⟨_, rfl⟩
  rw [← HP.out] at hgg hp ⊢
  go_enter Try.func42, Try.ntmps42
  go_wp2
  go_region_with (go_at_call 55; refine (add_old _ base sb mv lv [_] 111 xs k (by exact (hB.alloc _).drew) (by exact (hS.alloc _).drew) hk hx).mono ?_; rintro e w1 ⟨he, rfl⟩; rw [← HP.out] at he; subst he)
  all_goals go_wp2
  all_goals go_quiet (fail)
  all_goals go_wp2
  all_goals go_ret
  all_goals exact ⟨rfl, below_drewN (((Below.refl _ w).alloc (Nat.le_refl _) _).drew) _⟩

set_option maxHeartbeats 1600000 in
set_option maxRecDepth 100000 in
theorem fits_new (w : World) (base sb : Nat) (mv lv cv : Value) (xs : List (List UInt8)) (ns : List Nat) (k : List UInt8) (c : Nat) (t0 t1 t2 : ByteArray) (hB : Blk w sb [mv, lv, cv] 111) (hC : CountsIs w base mv lv cv xs ns) (hk : k.length ≤ maxLen) (hx : hasW xs k = false) (hn : xs.length ≤ 100000) (hbw : base ≤ w.heap.size) :
    Calls Try.prog 42 #[.pointer (some ⟨sb, 0, none⟩), .agg #[.string (bs k), .int .i64 c, .string t0, .string t1, .string t2]] w fun e w' => e = .returned (.bool true) ∧
      ∃ mv' lv' cv', Blk w' sb [mv', lv', cv'] 111 ∧ CountsIs w' base mv' lv' cv' (xs ++ [k]) (ns ++ [c]) ∧ KeptX base sb [9, 3] w w' := by
  obtain ⟨hS, hl, hN⟩ := hC
  obtain ⟨ao, cap, rfl⟩ := own_form hN
  obtain ⟨i1, hi1, hy0, hy1, hy2⟩ := info_parts infoInt
  have hbl := hB.lt
  have HL := hid hl
  clear hl
  go_enter Try.func42, Try.ntmps42
  go_wp2
  go_cut [5, 6] from 7 to 37 (fun p q wx => p = .int .i64 xs.length ∧ q = .bool true ∧ ∃ mv' lv', Blk wx sb [mv', lv', .slice ao xs.length cap] 111 ∧ SetIs wx base mv' lv' (xs ++ [k]) ∧ wx.ownsRow base 3 1 (.slice ao xs.length cap) xs.length (ns.map fun n => .int .i64 (n : Nat)) ∧
    Blk wx w.heap.size [.string (bs k), .int .i64 c, .string t0, .string t1, .string t2] 48 ∧ KeptX base sb [9, 3] w wx)
  case first =>
    go_region_with (go_at_call 55; refine (add_new _ base sb mv lv [_] 111 xs k (by exact (hB.alloc _).drew) (by exact (hS.alloc _).drew) hk hx hn (by decide) (by simp; omega)).mono ?_; rintro e w1 ⟨rfl, mv', lv', hB1, hS1, hX1⟩)
    all_goals go_wp2_with fail
    all_goals go_meet
    all_goals
      have hbx := hX1.ty w.heap.size [.string (bs k), .int .i64 c, .string t0, .string t1, .string t2] 48 (by omega) (by decide) (Blk.drew (Blk.new w _ _))
      have hNx := hX1.own ((hN.alloc _).drew) (own_ne hN hB (by decide)) (by decide)
      have hXw : KeptX base sb [9, 3] w w1 := (KeptX.kept (((Kept.refl sb w).allocs _).drewn) hbw).trans ⟨hX1.os, hX1.tape, hX1.output, hX1.size, hX1.low, fun i cs t a b d => hX1.ty i cs t a (by simp at b ⊢; exact b.1) d⟩
      exact ⟨rfl, rfl, mv', lv', hB1, hS1, hNx, hbx, hXw⟩
  case rest =>
    obtain ⟨rfl, rfl, mv', lv', hB1, hS1, hN1, hbx, hX1⟩ := hcut
    have c2 : wc.cell? ⟨sb, 2, none⟩ = some (.slice ao xs.length cap) := hB1.cell 2
    have fB := hB1.frozen
    have x1 : wc.cell? ⟨w.heap.size, 1, none⟩ = some (.int .i64 c) := hbx.cell 1
    have hsw : sb < wc.heap.size := hB1.lt
    have hxw : w.heap.size < wc.heap.size := hbx.lt
    have hown : ∀ o3, ((wc.alloc o3).drew).ownsRow base 3 1 (.slice ao xs.length cap) xs.length (ns.map fun n => .int .i64 (n : Nat)) := fun o3 => hN1.alloc o3
    have hnews : ∀ j u, [Value.int .i64 c][j]? = some u → ((wc.alloc (.cells #[Value.int .i64 c] 3)).drew).cell? ((⟨wc.heap.size, 0, none⟩ : Addr).add j) = some u := fun j u h => new_cells wc [Value.int .i64 c] 3 j u h
    have hone : ∀ u ∈ [Value.int .i64 (c : Nat)], u.oneCell' = true := by intro u hu; simp at hu; subst hu; rfl
    have hpm : xs.length + 1 ≤ maxLen := by unfold maxLen; omega
    have hpb : (xs.length + 1) * 8 ≤ 140737488355328 := by omega
    have hBB : ∀ o3, base ≤ ((wc.alloc o3).drew).heap.size := by intro o3; have := hX1.size; simp; omega
    have hne1 := own_ne hN1 hB1 (by decide)
    have hne2 := own_ne hN1 hbx (by decide)
    go_wp2_with fail
    go_cut [] from 7 to 37 (fun wx => ∃ g2 cap2, Blk wx sb [mv', lv', .slice (some ⟨g2, 0, none⟩) (xs.length + 1) cap2] 111 ∧ SetIs wx base mv' lv' (xs ++ [k]) ∧ wx.ownsRow base 3 1 (.slice (some ⟨g2, 0, none⟩) (xs.length + 1) cap2) (xs.length + 1) ((ns.map fun n => .int .i64 (n : Nat)) ++ [.int .i64 c]) ∧
      Blk wx w.heap.size [.string (bs k), .int .i64 c, .string t0, .string t1, .string t2] 48 ∧ KeptX base sb [9, 3] w wx)
    case first =>
      go_region_law (refine step_append_own rfl (.tmp 21) (.tmp 24) 22 rfl base 3 i1 _ 1 8 Try.underlying22 hi1 hy0 hy1 hy2 rfl (by decide) (.slice ao xs.length cap) xs.length (ns.map fun n => .int .i64 (n : Nat)) (by simp [Act.eval]) (hown _) ⟨wc.heap.size, 0, none⟩ 1 1 [.int .i64 c] (by simp [Act.eval]) (by decide) rfl hnews hone hpm hpb (hBB _) ?_; intro g2 cap2 w3 hN3 hg3; have hB3 := (hB1.alloc _).drew.grown hg3 hne1; have d2 := hB3.cell 2; have fB3 := hB3.frozen; simp at d2; have hx3 := (hbx.alloc _).drew.grown hg3 hne2; have hS3 := (hS1.alloc _).drew.grown hg3 (hown _) (by decide); have hX3 := (hX1.trans (KeptX.kept (((Kept.refl sb wc).allocs _).drewn) (by have := hX1.size; omega))).trans (KeptX.grown hg3 (hown _) (Nat.le_refl _) (hBB _) (by decide)))
      all_goals go_wp2_with fail
      all_goals go_meet
      all_goals
        exact ⟨g2, cap2, hB3.setCell 2 _, hS3.keptX (Kept.setCell (b := sb) w3 (p := ⟨sb, 2, none⟩) rfl _) hB3 (by decide), own_set hN3 ⟨sb, 2, none⟩ _ (own_ne hN3 hB3 (by decide)), hx3.setOther ⟨sb, 2, none⟩ _ (by simp only [ne_eq]; omega), hX3.trans (KeptX.kept (Kept.setCell (b := sb) w3 (p := ⟨sb, 2, none⟩) rfl _) (by have := hX3.size; omega))⟩
    case rest =>
      clear c2 fB x1 hown hnews hone hBB hne1 hne2 hB1 hS1 hN1 hbx hX1 hsw hxw
      obtain ⟨g2, cap2, hB1, hS1, hN1, hbx, hX1⟩ := hcut
      have c2 : wc.cell? ⟨sb, 2, none⟩ = some (.slice (some ⟨g2, 0, none⟩) (xs.length + 1) cap2) := hB1.cell 2
      have x1 : wc.cell? ⟨w.heap.size, 1, none⟩ = some (.int .i64 c) := hbx.cell 1
      have hgg : wc.cell? ⟨g2, xs.length, none⟩ = some (.int .i64 c) := by
        obtain ⟨g3, h3, h4⟩ := own_cell hN1 xs.length (by omega)
        simp at h3
        subst h3
        rw [h4]
        simp [HL.out]
      go_wp2_with fail
      go_quiet (fail)
      go_wp2
      go_ret
      refine ⟨by simp, mv', lv', _, hB1, ⟨hS1, by simp [HL.out], by rw [List.length_append, List.map_append]; exact hN1⟩, hX1.trans (KeptX.kept (Kept.drewN sb wc _) (by have := hX1.size; omega))⟩

end Go.Proofs.Ytpbfiffgcgnidaa
