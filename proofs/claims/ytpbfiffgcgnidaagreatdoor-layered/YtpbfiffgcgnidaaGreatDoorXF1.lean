/-
  OUR OWN. The atoms of a clause.
-/
import Derived.Test.YtpbfiffgcgnidaaGreatDoorXS1
import Derived.Deep.CutRange
namespace Go.Proofs.YtpbfiffgcgnidaaGreatDoor
open Go.RowKit
attribute [local go_sem] drewN_alloc drewN_setCell

/-- A clause's atoms: names and terms. -/
def ClD.atoms (d : ClD) : List (List UInt8 × List (List UInt8)) := (d.name, d.ts) :: d.lits.map fun l => (l.name, l.ts)
def atomC (p : List UInt8 × List (List UInt8)) : List Value := atomCells p.1 p.2

theorem infoAtom : (Tryz.prog.info? 80).map (fun i => (i.zero, i.size, i.bytes)) = some (some (.agg #[.string ⟨#[]⟩, .int .i64 0, .string ⟨#[]⟩, .string ⟨#[]⟩, .string ⟨#[]⟩]), 5, 72) := by kernel_rfl

/-- An element of several cells in a row. -/
theorem own_at {w : World} {base : Nat} {e : TypeId} {ao : Option Addr} {n cap size : Nat} {rows : List (List Value)} (h : w.ownsRow base e size (.slice ao n cap) n rows.flatten) (hr : ∀ r ∈ rows, r.length = size) (hl : rows.length = n) (i : Nat) (hi : i < n) :
    ∃ g, ao = some ⟨g, 0, none⟩ ∧ base ≤ g ∧ ∀ j, j < size → w.cell? ⟨g, i * size + j, none⟩ = (rows.getD i [])[j]? := by
  rcases h.2 with ⟨h1, h2⟩ | ⟨g, cap', cur, h1, hb, _⟩
  · omega
  · injection h1 with h1
    refine ⟨g, h1, hb, ?_⟩
    subst h1
    intro j hj
    have key : ∀ (rows : List (List Value)) (i : Nat), (∀ r ∈ rows, r.length = size) → i < rows.length → rows.flatten[i * size + j]? = (rows.getD i [])[j]? := by
      intro rows
      induction rows with
      | nil => intro i _ h; simp at h
      | cons r rs ih =>
        intro i hr hi
        have h0 := hr r (by simp)
        cases i with
        | zero => simp [List.getElem?_append_left (show j < r.length by omega)]
        | succ i =>
          rw [List.flatten_cons, List.getElem?_append_right (by rw [h0, Nat.succ_mul]; omega), h0, show (i + 1) * size + j - size = i * size + j by rw [Nat.succ_mul]; omega]
          simp only [List.length_cons] at hi
          rw [ih i (fun r hr' => hr r (by simp [hr'])) (by omega)]
          simp
    have hk := key rows i hr (by omega)
    have hlen : j < (rows.getD i []).length := by
      rw [List.getD_eq_getElem?_getD, List.getElem?_eq_getElem (by omega : i < rows.length)]
      simp only [Option.getD_some]
      rw [hr _ (List.getElem_mem _)]; exact hj
    rw [List.getElem?_eq_getElem hlen] at hk ⊢
    have := h.cells (g := g) rfl (i * size + j) _ hk
    rw [Addr.add_lit, Nat.zero_add] at this
    exact this
theorem flat_map {α : Type} (f : α → List Value) (l : List α) : l.flatMap f = (l.map f).flatten := by simp [List.flatMap]

def LitD.nm (d : LitD) : ByteArray := bs d.name
def LitD.cn (d : LitD) : Int := d.ts.length
def LitD.t (d : LitD) (i : Nat) : ByteArray := bs (d.ts.getD i [])
theorem LitD.cells_eq (d : LitD) : d.cells = [.string d.nm, .int .i64 d.cn, .string (d.t 0), .string (d.t 1), .string (d.t 2), .bool d.neg] := rfl
theorem LitD.atom_eq (d : LitD) : atomC (d.name, d.ts) = [.string d.nm, .int .i64 d.cn, .string (d.t 0), .string (d.t 1), .string (d.t 2)] := rfl
/-- The literals in their row, one by one. -/
theorem lits_at {w : World} {base : Nat} {ao : Option Addr} {cap : Nat} {lits : List LitD} (h : w.ownsRow base 186 6 (.slice ao lits.length cap) lits.length (lits.flatMap LitD.cells)) (i : Nat) (hi : i < lits.length) :
    ∃ g, ao = some ⟨g, 0, none⟩ ∧ g < w.heap.size ∧ w.cell? ⟨g, i * 6, none⟩ = some (.string lits[i].nm) ∧ w.cell? ⟨g, i * 6 + 1, none⟩ = some (.int .i64 lits[i].cn) ∧ w.cell? ⟨g, i * 6 + 2, none⟩ = some (.string (lits[i].t 0)) ∧
      w.cell? ⟨g, i * 6 + 3, none⟩ = some (.string (lits[i].t 1)) ∧ w.cell? ⟨g, i * 6 + 4, none⟩ = some (.string (lits[i].t 2)) ∧ w.cell? ⟨g, i * 6 + 5, none⟩ = some (.bool lits[i].neg) := by
  rw [flat_map] at h
  obtain ⟨g, rfl, hb, hc⟩ := own_at h (by intro r hr; simp at hr; obtain ⟨d, _, rfl⟩ := hr; rfl) (by simp) i hi
  have e : (lits.map LitD.cells).getD i [] = lits[i].cells := by simp [hi]
  rw [e, LitD.cells_eq] at hc
  exact ⟨g, rfl, (h.lt g rfl).2, hc 0 (by decide), hc 1 (by decide), hc 2 (by decide), hc 3 (by decide), hc 4 (by decide), hc 5 (by decide)⟩

set_option maxHeartbeats 1000000 in
set_option maxRecDepth 100000 in
theorem atoms_c (w : World) (base : Nat) (n0 t0 t1 t2 : ByteArray) (c : Int) (ao : Option Addr) (cap : Nat) (name : List UInt8) (ts : List (List UInt8)) (lits : List LitD)
    (hh : [Value.string n0, .int .i64 c, .string t0, .string t1, .string t2] = atomCells name ts) (hL : w.ownsRow base 186 6 (.slice ao lits.length cap) lits.length (lits.flatMap LitD.cells)) (hn : lits.length ≤ 100) :
    Calls Tryz.prog 91 #[.agg #[.string n0, .int .i64 c, .string t0, .string t1, .string t2, .slice ao lits.length cap]] w fun e w' => ∃ g cap', e = .returned (.slice (some ⟨g, 0, none⟩) (lits.length + 1) cap') ∧
      w'.ownsRow w.heap.size 80 5 (.slice (some ⟨g, 0, none⟩) (lits.length + 1) cap') (lits.length + 1) (((name, ts) :: lits.map fun l => (l.name, l.ts)).flatMap atomC) ∧ Below w.heap.size w w' := by
  have HH := hid hh
  clear hh
  obtain ⟨i1, hi1, hy0, hy1, hy2⟩ := info_parts infoAtom
  go_enter Tryz.func91, Tryz.ntmps91
  go_wp2
  go_loopw [3, 12] (fun v i wr => ∃ (k g cap' : Nat), k ≤ lits.length ∧ i = .int .i64 k ∧ v = .slice (some ⟨g, 0, none⟩) (k + 1) cap' ∧
    wr.ownsRow w.heap.size 80 5 (.slice (some ⟨g, 0, none⟩) (k + 1) cap') (k + 1) (((name, ts) :: (lits.take k).map fun l => (l.name, l.ts)).flatMap atomC) ∧ Below w.heap.size w wr) (fun _ i _ => lits.length - (intOf i).toNat)
  case atStart =>
    refine ⟨0, w.heap.size + 1, 1, by omega, rfl, rfl, ?_, ((Below.refl _ _).alloc (Nat.le_refl _) _).alloc (by simp) _⟩
    have h := own_one (base := w.heap.size) (new_two w (.cells #[Value.string n0, .int .i64 c, .string t0, .string t1, .string t2, .slice ao lits.length cap] 86) [Value.string n0, .int .i64 c, .string t0, .string t1, .string t2] 80) rfl (by omega)
    simp only [List.take_zero, List.map_nil, List.flatMap_cons, List.flatMap_nil, List.append_nil, atomC]
    rw [← HH.out]
    exact h
  case round =>
    obtain ⟨k, g, cap', hk, rfl, rfl, hA, hB⟩ := hrel
    by_cases hlt : k < lits.length
    · obtain ⟨g0, rfl, hg0, e0, e1, e2, e3, e4, e5⟩ := lits_at hL k hlt
      generalize hlk : lits[k] = L at *
      have HLK := hid hlk
      clear hlk
      rw [← hB.cell (p := ⟨g0, k * 6, none⟩) hg0] at e0
      rw [← hB.cell (p := ⟨g0, k * 6 + 1, none⟩) hg0] at e1
      rw [← hB.cell (p := ⟨g0, k * 6 + 2, none⟩) hg0] at e2
      rw [← hB.cell (p := ⟨g0, k * 6 + 3, none⟩) hg0] at e3
      rw [← hB.cell (p := ⟨g0, k * 6 + 4, none⟩) hg0] at e4
      rw [← hB.cell (p := ⟨g0, k * 6 + 5, none⟩) hg0] at e5
      have hbw : w.heap.size ≤ wr.heap.size := hB.size
      have HT : Hid (((name, ts) :: (lits.take k).map fun l => (l.name, l.ts)).flatMap atomC ++ [.string L.nm, .int .i64 L.cn, .string (L.t 0), .string (L.t 1), .string (L.t 2)] = ((name, ts) :: (lits.take (k + 1)).map fun l => (l.name, l.ts)).flatMap atomC) := by
        show _ = _
        rw [List.take_succ_eq_append_getElem hlt, HLK.out, ← LitD.atom_eq]
        simp [List.flatMap_append]
      go_wp2_with (at_builtin; refine wpList_append_ownS _ rfl _ _ 181 rfl w.heap.size 80 i1 _ 5 72 Tryz.underlying181 hi1 hy0 hy1 hy2 rfl (by decide) _ (k + 1) _ rfl ((hA.alloc _).alloc _) ⟨wr.heap.size + 1, 0, none⟩ 1 [.string L.nm, .int .i64 L.cn, .string (L.t 0), .string (L.t 1), .string (L.t 2)] rfl rfl (new_cells2 _ _ _ _) (by intro u hu; simp at hu; rcases hu with rfl | rfl | rfl | rfl | rfl <;> rfl) (by unfold maxLen; omega) (by omega) (by simp; omega) ?_; intro g3 cap3 w3 ho3 hg3)
      rw [HT.out] at ho3
      have hB3 := ((hB.alloc hbw _).alloc (by simp; omega) _).grown hg3 (by simp; omega) (own_base hA)
      exact ⟨⟨k + 1, g3, cap3, hlt, by go_num, rfl, ho3, hB3⟩, by simp [intOf]; omega⟩
    · have hke : k = lits.length := by omega
      go_wp2
      go_ret
      subst hke
      rw [List.take_length] at hA
      exact ⟨g, cap', rfl, hA, hB⟩

end Go.Proofs.YtpbfiffgcgnidaaGreatDoor

namespace Go.Proofs.YtpbfiffgcgnidaaGreatDoor
open Go.RowKit Go.WideMaps Go.Maps
attribute [local go_sem] drewN_alloc drewN_setCell

def CountsIs (w : World) (base : Nat) (mv lv cv : Value) (xs : List (List UInt8)) (ns : List Nat) : Prop :=
  SetIs w base mv lv xs ∧ ns.length = xs.length ∧ w.ownsRow base 3 1 cv xs.length (ns.map fun n => .int .i64 (n : Nat))

theorem infoInt : (Tryz.prog.info? 3).map (fun i => (i.zero, i.size, i.bytes)) = some (some (.int .i64 0), 1, 8) := by kernel_rfl

theorem SetIs.keptX {base sb : Nat} {w w' : World} {mv lv : Value} {xs : List (List UInt8)} (h : SetIs w base mv lv xs) (hk : Kept sb w w') {cs : List Value} {t : TypeId} (hb : Blk w sb cs t) (ht : t ≠ 9) : SetIs w' base mv lv xs := by
  refine ⟨own_kept h.1 hk (own_ne h.1 hb ht), ?_⟩
  rcases h.2 with h2 | ⟨r, D, hm, hr, ho, hD⟩
  · exact .inl h2
  · exact .inr ⟨r, D, hm, hr, map_kept ho hk (map_ne ho hb).symm, hD⟩
theorem SetIs.alloc {base : Nat} {w : World} {mv lv : Value} {xs : List (List UInt8)} (h : SetIs w base mv lv xs) (o : Obj) : SetIs (w.alloc o) base mv lv xs := by
  refine ⟨h.1.alloc o, ?_⟩
  rcases h.2 with h2 | ⟨r, D, hm, hr, ho, hD⟩
  · exact .inl h2
  · exact .inr ⟨r, D, hm, hr, ho.alloc o, hD⟩
theorem SetIs.drew {base : Nat} {w : World} {mv lv : Value} {xs : List (List UInt8)} (h : SetIs w base mv lv xs) : SetIs w.drew base mv lv xs := h
theorem SetIs.drewN {base : Nat} {w : World} {mv lv : Value} {xs : List (List UInt8)} (h : SetIs w base mv lv xs) (n : Nat) : SetIs (w.drewN n) base mv lv xs := h
/-- Another row has grown. -/
theorem SetIs.grown {base : Nat} {w w' : World} {mv lv : Value} {xs : List (List UInt8)} (h : SetIs w base mv lv xs) {base' : Nat} {e : TypeId} {size : Nat} {v : Value} {n : Nat} {ys : List Value} (hg : w.grownBy w' v.ownBlock) (ho : w.ownsRow base' e size v n ys) (he : e ≠ 9) : SetIs w' base mv lv xs := by
  refine ⟨h.1.kept hg (own_ne2 h.1 ho (Ne.symm he)), ?_⟩
  rcases h.2 with h2 | ⟨r, D, hm, hr, hw, hD⟩
  · exact .inl h2
  · exact .inr ⟨r, D, hm, hr, hw.kept hg (Ne.symm (map_row hw ho)), hD⟩

theorem posIn_lt (xs : List (List UInt8)) (k : List UInt8) (h : hasW xs k = true) : posIn xs k < xs.length := by
  have hk : k ∈ xs := by simpa [hasW] using h
  simp only [posIn, hk, if_pos]
  exact List.idxOf_lt_length_of_mem hk

def nAt (ns : List Nat) (i : Nat) : Int := (ns.getD i 0 : Nat)

set_option maxHeartbeats 800000 in
set_option maxRecDepth 100000 in
theorem fits_old (w : World) (base sb : Nat) (mv lv cv : Value) (xs : List (List UInt8)) (ns : List Nat) (k : List UInt8) (c : Int) (t0 t1 t2 : ByteArray) (hB : Blk w sb [mv, lv, cv] 180) (hC : CountsIs w base mv lv cv xs ns) (hk : k.length ≤ maxLen) (hx : hasW xs k = true) :
    Calls Tryz.prog 92 #[.pointer (some ⟨sb, 0, none⟩), .agg #[.string (bs k), .int .i64 c, .string t0, .string t1, .string t2]] w fun e w' => e = .returned (.bool (nAt ns (posIn xs k) == c)) ∧
      Below w.heap.size w w' := by
  obtain ⟨hS, hl, hN⟩ := hC
  have hp := posIn_lt xs k hx
  obtain ⟨ao, cap, rfl⟩ := own_form hN
  obtain ⟨g, rfl, hg⟩ := own_cell hN _ hp
  have hgg : w.cell? ⟨g, posIn xs k, none⟩ = some (.int .i64 (nAt ns (posIn xs k))) := by rw [hg]; simp [nAt, hl, hp]
  have hgl : g < w.heap.size := (hN.lt g rfl).2
  have hbl := hB.lt
  have c2 : w.cell? ⟨sb, 2, none⟩ = some (.slice (some ⟨g, 0, none⟩) xs.length cap) := hB.cell 2
  clear hg
  have hL := hid hl
  clear hl
  obtain ⟨p, HP⟩ : ∃ p : Nat, Hid (p = posIn xs k) := ⟨_, rfl⟩
  rw [← HP.out] at hgg hp ⊢
  go_enter Tryz.func92, Tryz.ntmps92
  go_wp2
  go_region_with (go_at_call 107; refine (add_old _ base sb mv lv [_] 180 xs k (by exact (hB.alloc _).drew) (by exact (hS.alloc _).drew) hk hx).mono ?_; rintro e w1 ⟨he, rfl⟩; rw [← HP.out] at he; subst he)
  all_goals go_wp2
  all_goals go_quiet (fail)
  all_goals go_wp2
  all_goals go_ret
  all_goals exact ⟨rfl, below_drewN (((Below.refl _ w).alloc (Nat.le_refl _) _).drew) _⟩

set_option maxHeartbeats 1600000 in
set_option maxRecDepth 100000 in
theorem fits_new (w : World) (base sb : Nat) (mv lv cv : Value) (xs : List (List UInt8)) (ns : List Nat) (k : List UInt8) (c : Nat) (t0 t1 t2 : ByteArray) (hB : Blk w sb [mv, lv, cv] 180) (hC : CountsIs w base mv lv cv xs ns) (hk : k.length ≤ maxLen) (hx : hasW xs k = false) (hn : xs.length ≤ 100000) (hbw : base ≤ w.heap.size) :
    Calls Tryz.prog 92 #[.pointer (some ⟨sb, 0, none⟩), .agg #[.string (bs k), .int .i64 c, .string t0, .string t1, .string t2]] w fun e w' => e = .returned (.bool true) ∧
      ∃ mv' lv' cv', Blk w' sb [mv', lv', cv'] 180 ∧ CountsIs w' base mv' lv' cv' (xs ++ [k]) (ns ++ [c]) ∧ KeptX base sb [9, 3] w w' := by
  obtain ⟨hS, hl, hN⟩ := hC
  obtain ⟨ao, cap, rfl⟩ := own_form hN
  obtain ⟨i1, hi1, hy0, hy1, hy2⟩ := info_parts infoInt
  have hbl := hB.lt
  have HL := hid hl
  clear hl
  go_enter Tryz.func92, Tryz.ntmps92
  go_wp2
  go_cut [5, 6] from 7 to 37 (fun p q wx => p = .int .i64 xs.length ∧ q = .bool true ∧ ∃ mv' lv', Blk wx sb [mv', lv', .slice ao xs.length cap] 180 ∧ SetIs wx base mv' lv' (xs ++ [k]) ∧ wx.ownsRow base 3 1 (.slice ao xs.length cap) xs.length (ns.map fun n => .int .i64 (n : Nat)) ∧
    Blk wx w.heap.size [.string (bs k), .int .i64 c, .string t0, .string t1, .string t2] 80 ∧ KeptX base sb [9, 3] w wx)
  case first =>
    go_region_with (go_at_call 107; refine (add_new _ base sb mv lv [_] 180 xs k (by exact (hB.alloc _).drew) (by exact (hS.alloc _).drew) hk hx hn (by decide) (by simp; omega)).mono ?_; rintro e w1 ⟨rfl, mv', lv', hB1, hS1, hX1⟩)
    all_goals go_wp2_with fail
    all_goals go_meet
    all_goals
      have hbx := hX1.ty w.heap.size [.string (bs k), .int .i64 c, .string t0, .string t1, .string t2] 80 (by omega) (by decide) (Blk.drew (Blk.new w _ _))
      have hNx := hX1.own ((hN.alloc _).drew) (own_ne hN hB (by decide)) (by decide)
      have hXw : KeptX base sb [9, 3] w w1 := (KeptX.kept (((Kept.refl sb w).allocs _).drewn) hbw).trans ⟨hX1.os, hX1.tape, hX1.output, hX1.size, hX1.low, fun i cs t a b d => hX1.ty i cs t a (by simp at b ⊢; exact b.1) d⟩
      exact ⟨rfl, rfl, mv', lv', hB1, hS1, hNx, hbx, hXw⟩
  case rest =>
    obtain ⟨rfl, rfl, mv', lv', hB1, hS1, hN1, hbx, hX1⟩ := hcut
    have c2 : wc.cell? ⟨sb, 2, none⟩ = some (.slice ao xs.length cap) := hB1.cell 2
    have fB := hB1.frozen
    have x1 : wc.cell? ⟨w.heap.size, 1, none⟩ = some (.int .i64 c) := hbx.cell 1
    have hsw : sb < wc.heap.size := hB1.lt
    have hxw : w.heap.size < wc.heap.size := hbx.lt
    have hown : ∀ o3, ((wc.alloc o3).drew).ownsRow base 3 1 (.slice ao xs.length cap) xs.length (ns.map fun n => .int .i64 (n : Nat)) := fun o3 => hN1.alloc o3
    have hnews : ∀ j u, [Value.int .i64 c][j]? = some u → ((wc.alloc (.cells #[Value.int .i64 c] 3)).drew).cell? ((⟨wc.heap.size, 0, none⟩ : Addr).add j) = some u := fun j u h => new_cells wc [Value.int .i64 c] 3 j u h
    have hone : ∀ u ∈ [Value.int .i64 (c : Nat)], u.oneCell' = true := by intro u hu; simp at hu; subst hu; rfl
    have hpm : xs.length + 1 ≤ maxLen := by unfold maxLen; omega
    have hpb : (xs.length + 1) * 8 ≤ 140737488355328 := by omega
    have hBB : ∀ o3, base ≤ ((wc.alloc o3).drew).heap.size := by intro o3; have := hX1.size; simp; omega
    have hne1 := own_ne hN1 hB1 (by decide)
    have hne2 := own_ne hN1 hbx (by decide)
    go_wp2_with fail
    go_cut [] from 7 to 37 (fun wx => ∃ g2 cap2, Blk wx sb [mv', lv', .slice (some ⟨g2, 0, none⟩) (xs.length + 1) cap2] 180 ∧ SetIs wx base mv' lv' (xs ++ [k]) ∧ wx.ownsRow base 3 1 (.slice (some ⟨g2, 0, none⟩) (xs.length + 1) cap2) (xs.length + 1) ((ns.map fun n => .int .i64 (n : Nat)) ++ [.int .i64 c]) ∧
      Blk wx w.heap.size [.string (bs k), .int .i64 c, .string t0, .string t1, .string t2] 80 ∧ KeptX base sb [9, 3] w wx)
    case first =>
      go_region_law (refine step_append_own rfl (.tmp 21) (.tmp 24) 97 rfl base 3 i1 _ 1 8 Tryz.underlying97 hi1 hy0 hy1 hy2 rfl (by decide) (.slice ao xs.length cap) xs.length (ns.map fun n => .int .i64 (n : Nat)) (by simp [Act.eval]) (hown _) ⟨wc.heap.size, 0, none⟩ 1 1 [.int .i64 c] (by simp [Act.eval]) (by decide) rfl hnews hone hpm hpb (hBB _) ?_; intro g2 cap2 w3 hN3 hg3; have hB3 := (hB1.alloc _).drew.grown hg3 hne1; have d2 := hB3.cell 2; have fB3 := hB3.frozen; simp at d2; have hx3 := (hbx.alloc _).drew.grown hg3 hne2; have hS3 := (hS1.alloc _).drew.grown hg3 (hown _) (by decide); have hX3 := (hX1.trans (KeptX.kept (((Kept.refl sb wc).allocs _).drewn) (by have := hX1.size; omega))).trans (KeptX.grown hg3 (hown _) (Nat.le_refl _) (hBB _) (by decide)))
      all_goals go_wp2_with fail
      all_goals go_meet
      all_goals
        exact ⟨g2, cap2, hB3.setCell 2 _, hS3.keptX (Kept.setCell (b := sb) w3 (p := ⟨sb, 2, none⟩) rfl _) hB3 (by decide), own_set hN3 ⟨sb, 2, none⟩ _ (own_ne hN3 hB3 (by decide)), hx3.setOther ⟨sb, 2, none⟩ _ (by simp only [ne_eq]; omega), hX3.trans (KeptX.kept (Kept.setCell (b := sb) w3 (p := ⟨sb, 2, none⟩) rfl _) (by have := hX3.size; omega))⟩
    case rest =>
      clear c2 fB x1 hown hnews hone hBB hne1 hne2 hB1 hS1 hN1 hbx hX1 hsw hxw
      obtain ⟨g2, cap2, hB1, hS1, hN1, hbx, hX1⟩ := hcut
      have c2 : wc.cell? ⟨sb, 2, none⟩ = some (.slice (some ⟨g2, 0, none⟩) (xs.length + 1) cap2) := hB1.cell 2
      have x1 : wc.cell? ⟨w.heap.size, 1, none⟩ = some (.int .i64 c) := hbx.cell 1
      have hgg : wc.cell? ⟨g2, xs.length, none⟩ = some (.int .i64 c) := by
        obtain ⟨g3, h3, h4⟩ := own_cell hN1 xs.length (by omega)
        simp at h3
        subst h3
        rw [h4]
        simp [HL.out]
      go_wp2_with fail
      go_quiet (fail)
      go_wp2
      go_ret
      refine ⟨by simp, mv', lv', _, hB1, ⟨hS1, by simp [HL.out], by rw [List.length_append, List.map_append]; exact hN1⟩, hX1.trans (KeptX.kept (Kept.drewN sb wc _) (by have := hX1.size; omega))⟩

end Go.Proofs.YtpbfiffgcgnidaaGreatDoor
