/-
  OUR OWN. slices.DeleteFunc where the one that is found stands last.
-/
import Derived.Test.YtpbfiffgcgnidaaGreatDoorXF6
import Derived.Lib.SliceRun
namespace Go.Proofs.YtpbfiffgcgnidaaGreatDoor
open Go.RowKit Go.WideMaps Go.Maps
attribute [local go_sem] drewN_alloc drewN_setCell

theorem kept_sets (g : Nat) (vs : List Value) (o : Nat) (w : World) : Kept g w (w.setCells g o vs) := by
  induction vs generalizing o w with
  | nil => exact Kept.refl _ _
  | cons v r ih => exact (Kept.setCell (b := g) w (p := ⟨g, o, none⟩) rfl v).trans (ih (o + 1) _)
theorem Kept.grownBy {g : Nat} {w w' : World} (h : Kept g w w') : w.grownBy w' (some g) := ⟨h.os, h.tape, h.output, h.size, fun k hk hn => h.block k hk (fun e => hn (by rw [e]))⟩
theorem blk_sets (g : Nat) (vs : List Value) (o : Nat) (w : World) (cs : List Value) (t : TypeId) (h : Blk w g cs t) : ∃ cs', Blk (w.setCells g o vs) g cs' t ∧ cs'.length = cs.length ∧ ∀ k, k ≤ o → cs'.take k = cs.take k := by
  induction vs generalizing o w cs with
  | nil => exact ⟨cs, h, rfl, fun _ _ => rfl⟩
  | cons v r ih =>
    obtain ⟨cs', h1, h2, h3⟩ := ih (o + 1) _ _ (h.setCell o v)
    refine ⟨cs', h1, by rw [h2, List.length_set], ?_⟩
    intro k hk
    rw [h3 k (by omega), List.take_set_of_le (by omega)]
/-- A row cut to its first m elements, cells behind them being written. -/
theorem own_cut {w : World} {base : Nat} {e : TypeId} {size g n cap : Nat} {xs : List Value} (h : w.ownsRow base e size (.slice (some ⟨g, 0, none⟩) n cap) n xs) (m : Nat) (hm : m ≤ n) (vs : List Value) :
    (w.setCells g (m * size) vs).ownsRow base e size (.slice (some ⟨g, 0, none⟩) m cap) m (xs.take (m * size)) := by
  rcases h.2 with ⟨h1, _⟩ | ⟨g', cap', cur, hv, hg, hh, hc, hl, hs, hx⟩
  · simp at h1
  · simp only [Value.slice.injEq, Option.some.injEq, Addr.mk.injEq, true_and, and_true] at hv
    obtain ⟨rfl, rfl⟩ := hv
    have hB : Blk w g cur.toList e := by unfold Blk; simpa using hh
    obtain ⟨cs', k1, k2, k3⟩ := blk_sets g vs (m * size) w cur.toList e hB
    have hms : m * size ≤ n * size := Nat.mul_le_mul_right _ hm
    refine ⟨?_, .inr ⟨g, cap, cs'.toArray, rfl, hg, k1, by omega, hl, ?_, ?_⟩⟩
    · rw [List.length_take, h.1]; omega
    · simp [k2, hs]
    · simp only []
      rw [k3 _ (Nat.le_refl _), ← hx, List.take_take, Nat.min_eq_left hms]
theorem clauses_cut {w : World} {base g cap : Nat} {ds : List ClD} {d : ClD} (h : ClausesIs w base (.slice (some ⟨g, 0, none⟩) (ds.length + 1) cap) (ds ++ [d])) (vs : List Value) : ClausesIs (w.setCells g (ds.length * 6) vs) base (.slice (some ⟨g, 0, none⟩) ds.length cap) ds := by
  obtain ⟨rows, ho, hl, hr⟩ := h
  rw [List.length_append, List.length_singleton] at ho hl
  have hall : ∀ r ∈ rows, r.length = 6 := by
    intro r hr'
    obtain ⟨j, hj, rfl⟩ := List.getElem_of_mem hr'
    have hj2 : j < (ds ++ [d]).length := by simp; omega
    obtain ⟨bv, hc, _⟩ := hr j (ds ++ [d])[j] rows[j] (by simp) (by simp)
    rw [hc]; rfl
  have hcut := own_cut ho ds.length (by omega) vs
  have hfl : rows.flatten.take (ds.length * 6) = (rows.take ds.length).flatten := by
    have e1 : rows = rows.take ds.length ++ rows.drop ds.length := (List.take_append_drop _ _).symm
    have e2 : ((rows.take ds.length).flatten).length = ds.length * 6 := by
      rw [List.length_flatten]
      have : (rows.take ds.length).map List.length = List.replicate ds.length 6 := by
        apply List.ext_getElem
        · simp; omega
        · intro i h1 h2
          simp at h1 ⊢
          exact hall _ (List.getElem_mem _)
      rw [this]; simp
    conv => lhs; rw [e1, List.flatten_append]
    rw [List.take_append_of_le_length (by omega), ← e2, List.take_length]
  rw [hfl] at hcut
  have hg := (kept_sets g vs (ds.length * 6) w).grownBy
  refine ⟨rows.take ds.length, hcut, by simp; omega, ?_⟩
  intro i d' cs h1 h2
  have hi : i < ds.length := by
    rcases Nat.lt_or_ge i ds.length with h | h
    · exact h
    · rw [List.getElem?_eq_none h] at h1; simp at h1
  rw [List.getElem?_take_of_lt hi] at h2
  obtain ⟨bv, hc, hlb⟩ := hr i d' cs (by rw [List.getElem?_append_left hi]; exact h1) h2
  exact ⟨bv, hc, hlb.kept hg (own_ne2 hlb ho (by decide))⟩

def zCl : List Value := [.string ⟨#[]⟩, .int .i64 0, .string ⟨#[]⟩, .string ⟨#[]⟩, .string ⟨#[]⟩, .slice none 0 0]
theorem zeroCl1 : (Builtin.zeroCells (Value.agg #[.string ⟨#[]⟩, .int .i64 0, .string ⟨#[]⟩, .string ⟨#[]⟩, .string ⟨#[]⟩, .slice none 0 0]).cells 1).toList = zCl := by kernel_rfl
theorem clear_one (w : World) (ty : TypeId) (g o c : Nat) (cs : List Value) (t : TypeId) (h : Blk w g cs t) (ho : o + 6 ≤ cs.length) :
    (Builtin.clear_ #[56] ty #[.slice (some ⟨g, o, none⟩) 1 c]).run Tryz.prog w = .ok (.tuple #[]) (w.setCells g o zCl) := by
  have hst := run_storeCells_cells (P := Tryz.prog) g o zCl 0 w
    (by intro j hj; simp [zCl] at hj; rw [h.cell]; simp; omega)
    (by intro j hj; exact h.frozen _)
    (by intro v hv; simp [zCl] at hv; rcases hv with rfl | rfl | rfl | rfl | rfl | rfl <;> rfl)
  simp only [Nat.add_zero] at hst
  simp [Builtin.clear_, run_underlying Tryz.underlying56, zeroCl1, hst]

set_option maxHeartbeats 1000000 in
set_option maxRecDepth 100000 in
theorem delete_last (w : World) (base : Nat) (g cap : Nat) (ds : List ClD) (d : ClD) (hP : ClausesIs w base (.slice (some ⟨g, 0, none⟩) (ds.length + 1) cap) (ds ++ [d])) (hW : ∀ d' ∈ ds ++ [d], d'.WF) (hn : ds.length + 1 ≤ 40) (B : Nat) (an : List UInt8) (ats : List (List UInt8)) (hA : Blk w B (atomCells an ats) 80) (hx : idx an ats (ds ++ [d]) = (ds.length : Nat)) :
    Calls Tryz.prog 44 #[.slice (some ⟨g, 0, none⟩) (ds.length + 1) cap, .func (.func 71) #[] #[.pointer (some ⟨B, 0, none⟩)]] w fun e w' => e = .returned (.slice (some ⟨g, 0, none⟩) ds.length cap) ∧ ClausesIs w' base (.slice (some ⟨g, 0, none⟩) ds.length cap) ds ∧ w.grownBy w' (some g) := by
  have hlen : (ds ++ [d]).length = ds.length + 1 := by simp
  have hX := indexCl_c w base (some ⟨g, 0, none⟩) cap (ds ++ [d]) (by rw [hlen]; exact hP) hW (by rw [hlen]; exact hn) B an ats hA
  rw [hlen, hx] at hX
  have HX := hid hX
  have HP := hid hP
  have hrow : ∃ cs, Blk w g cs 86 ∧ cs.length = cap * 6 ∧ ds.length + 1 ≤ cap ∧ cap ≤ maxLen := by
    obtain ⟨rows, ho, hl, hr⟩ := hP
    rcases ho.2 with ⟨h1, _⟩ | ⟨g', cap', cur, hv, hg, hh, hc, hl, hs, hx⟩
    · simp at h1
    · simp only [Value.slice.injEq, Option.some.injEq, Addr.mk.injEq, and_true] at hv
      obtain ⟨rfl, -, rfl⟩ := hv
      exact ⟨cur.toList, by unfold Blk; simpa using hh, by simpa using hs, by simpa using hc, hl⟩
  obtain ⟨cs, hcs, hcl, hcap, hcm⟩ := hrow
  unfold maxLen at hcm
  clear hX hP hA hx
  go_enter Tryz.func44, Tryz.ntmps44
  go_wp2_with fail
  refine (HX.out).mono ?_
  rintro e w1 ⟨rfl, hB1⟩
  go_wp2_with fail
  go_loopw [5, 6] (fun iv jv wr => iv = .int .i64 (ds.length : Nat) ∧ jv = .int .i64 ((ds.length : Nat) + 1) ∧ wr = w1) (fun _ _ _ => 0)
  case atStart => exact ⟨rfl, rfl, rfl⟩
  case round =>
    obtain ⟨rfl, rfl, rfl⟩ := hrel
    have hcs1 := hcs.below hB1
    have hclr := fun ty => clear_one wr ty g (ds.length * 6) (cap - ds.length) cs 86 hcs1 (by omega)
    have hPx := clauses_cut (HP.out.below hB1) zCl
    have hgx : w.grownBy (wr.setCells g (ds.length * 6) zCl) (some g) := ((Kept.of_below hB1).trans (kept_sets g zCl (ds.length * 6) wr)).grownBy
    clear hcs1 hcl
    generalize wr.setCells g (ds.length * 6) zCl = wz at *
    go_wp2_with (simp only [hclr])
    go_ret
    exact ⟨rfl, hPx, hgx⟩

end Go.Proofs.YtpbfiffgcgnidaaGreatDoor

namespace Go.Proofs.YtpbfiffgcgnidaaGreatDoor
open Go.RowKit Go.WideMaps Go.Maps
attribute [local go_sem] drewN_alloc drewN_setCell

set_option maxHeartbeats 1000000 in
set_option maxRecDepth 100000 in
theorem assert_more (w : World) (base bb : Nat) (ds : List ClD) (hI : BaseIs w base bb ds) (s : ByteArray) (x y0 y1 y2 : ByteArray) (n : Int) (hl : ds.length < 40) (hbb : base ≤ bb) (d : ClD) (hd : d.lits = []) (hdc : atomCells d.name d.ts = [.string x, .int .i64 n, .string y0, .string y1, .string y2]) (hA : Asked base bb ds s false x y0 y1 y2 n) :
    Calls Tryz.prog 16 #[.pointer (some ⟨bb, 0, none⟩), .string s] w fun e w' => e = .returned (.tuple #[.int .i64 0, .int .i64 0]) ∧ BaseIs w' base bb (ds ++ [d]) ∧ Below base w w' := by
  have hw0 : bb < w.heap.size := by
    obtain ⟨v, h, _⟩ := hI
    exact h.lt
  have HR := hid (hA.reads w hI)
  have HF := hid hA.factOf
  have HH := hid hA.has
  have HI := hid hI
  clear hA hI
  go_enter Tryz.func16, Tryz.ntmps16
  go_wp2_with fail
  refine (HR.out).mono ?_
  rintro e w1 ⟨rfl, hB1⟩
  have HIx := hid ((HI.out.below hB1).below (below_alloc w1 (.cells #[.string x, .int .i64 n, .string y0, .string y1, .string y2] 80)))
  have HBx := hid (hB1.trans ((below_alloc w1 (.cells #[.string x, .int .i64 n, .string y0, .string y1, .string y2] 80)).mono hB1.size))
  have hzz := HBx.out.size
  obtain ⟨v, h1, h2⟩ := HIx.out
  obtain ⟨ao, cap, rfl⟩ := h2.form
  have hlt := (HI.out.below hB1)
  obtain ⟨v', k1, k2⟩ := hlt
  have hlt := k1.lt
  have hne : bb ≠ w1.heap.size := by omega
  have c0 := h1.cell 0
  have H1 := hid h1
  have H2 := hid (h2.below (Below.refl _ _).drew)
  clear h1 h2 HI HR HIx k1 k2
  have hsize : (w1.alloc (.cells #[.string x, .int .i64 n, .string y0, .string y1, .string y2] 80)).heap.size = w1.heap.size + 1 := by simp
  obtain ⟨q0, q1, q2, q3, q4⟩ := (Blk.new w1 [.string x, .int .i64 n, .string y0, .string y1, .string y2] 80).c5
  have HQ := hid (Blk.new w1 [.string x, .int .i64 n, .string y0, .string y1, .string y2] 80)
  obtain ⟨i1, hi1, hy0, hy1, hy2⟩ := info_parts infoClause
  go_wp2_with fail
  generalize hw : (w1.alloc (.cells #[.string x, .int .i64 n, .string y0, .string y1, .string y2] 80)) = u at *
  generalize w1.heap.size = B1 at *
  clear hw hB1
  go_region_with (first
    | (go_at_call 39; refine (HF.out _).mono ?_; rintro e w2 ⟨rfl, hA2, hB2⟩; have c02 := (H1.out.drew.below hB2).cell 0)
    | (go_at_call 38; refine (HH.out w2 ao cap (B1 + 1) (H2.out.below hB2) (by rw [← hsize]; exact hA2)).mono ?_; rintro e w3 ⟨rfl, hB3⟩))
  all_goals
    have hB23 := hB2.trans (hB3.mono hB2.size)
    have hB := HBx.out.drew.trans (hB23.mono (by simp; omega))
    have hC := H1.out.drew.below hB23
    have c03 := hC.cell 0
    have fC := hC.frozen
    have hP := H2.out.below hB23
    have hq := (HQ.out.drew.below hB23)
    obtain ⟨p0, p1, p2, p3, p4⟩ := hq.c5
    have hbw : bb < w3.heap.size := hC.lt
    have hbq : B1 < w3.heap.size := hq.lt
    obtain ⟨rows, ho, hrl, hr⟩ := hP
    clear H1 H2 HQ HF HH HBx q0 q1 q2 q3 q4 c0 c02 hA2 hB2 hB3 hB23 hq
    go_wp2_with fail
    have hown : ∀ o2, ((w3.alloc o2).drew).ownsRow base 86 6 (.slice ao ds.length cap) ds.length rows.flatten := fun o2 => ho.alloc o2
    have hnews : ∀ j u, [Value.string x, .int .i64 n, .string y0, .string y1, .string y2, .slice none 0 0][j]? = some u → ((w3.alloc (.cells #[Value.string x, .int .i64 n, .string y0, .string y1, .string y2, .slice none 0 0] 86)).drew).cell? ((⟨w3.heap.size, 0, none⟩ : Addr).add j) = some u := fun j u h => new_cells w3 [Value.string x, .int .i64 n, .string y0, .string y1, .string y2, .slice none 0 0] 86 j u h
    have hone : ∀ u ∈ [Value.string x, .int .i64 n, .string y0, .string y1, .string y2, .slice none 0 0], u.oneCell' = true := by
      intro u hu; simp at hu; rcases hu with rfl | rfl | rfl | rfl | rfl | rfl <;> rfl
    have hlm : ds.length + 1 ≤ maxLen := by unfold maxLen; omega
    have hlb : (ds.length + 1) * 96 ≤ 140737488355328 := by omega
    have hBB : ∀ o2, base ≤ ((w3.alloc o2).drew).heap.size := by intro o2; simp; omega
    have hne1 := own_ne ho hC (by decide)
    have hbs := own_base ho
    go_region_law (refine step_append_own rfl (.tmp 37) (.tmp 40) 56 rfl base 86 i1 _ 6 96 Tryz.underlying56 hi1 hy0 hy1 hy2 rfl (by decide) (.slice ao ds.length cap) ds.length rows.flatten (by simp [Act.eval]) (hown _) ⟨w3.heap.size, 0, none⟩ 1 1 [Value.string x, .int .i64 n, .string y0, .string y1, .string y2, .slice none 0 0] (by simp [Act.eval]) (by decide) rfl hnews hone hlm hlb (hBB _) ?_; intro g2 cap2 w4 ho4 hg4; have hC4 := (hC.alloc _).drew.grown hg4 hne1; have d0 := hC4.cell 0; have fC4 := hC4.frozen; simp at d0)
    all_goals
      go_wp2_with fail
      go_ret2
      have hKd : KeptIs w3 base d [Value.string x, .int .i64 n, .string y0, .string y1, .string y2, .slice none 0 0] := ⟨.slice none 0 0, by rw [hdc]; rfl, by rw [hd]; exact World.ownsRow_nil _ _ _ _⟩
      have h2 := fun o2 => (below_alloc w3 o2).drew
      have hmore := ClausesIs.more (w := (w3.alloc _).drew) (w' := w4) (base := base) (ds := ds) (fun i d cs h1 h3 => (hr i d cs h1 h3).below (h2 _)) hrl (hown _) (hKd.below (h2 _)) ho4 hg4
      have hB4 : Below base w w4 := ((hB.mono (by omega)).trans ((h2 _).mono (by omega))).grown hg4 (hBB _) hbs
      refine ⟨rfl, ⟨_, hC4.setCell 0 _, hmore.set hC4 (by decide) (by decide) 0 _⟩, hB4.setCell (p := ⟨bb, 0, none⟩) hbb _⟩

end Go.Proofs.YtpbfiffgcgnidaaGreatDoor
