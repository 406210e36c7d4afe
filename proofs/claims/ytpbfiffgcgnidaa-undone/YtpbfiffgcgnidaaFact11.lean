/-
  OUR OWN. slices.DeleteFunc where the one that is found stands last.
-/
import Derived.Test.YtpbfiffgcgnidaaFact8
import Derived.Lib.SliceRun
namespace Go.Proofs.Ytpbfiffgcgnidaa
open Go.RowKit Go.WideMaps Go.Maps
attribute [local go_sem] drewN_alloc drewN_setCell

theorem kept_sets (g : Nat) (vs : List Value) (o : Nat) (w : World) : Kept g w (w.setCells g o vs) := by
  induction vs generalizing o w with
  | nil => exact Kept.refl _ _
  | cons v r ih => exact (Kept.setCell (b := g) w (p := ⟨g, o, none⟩) rfl v).trans (ih (o + 1) _)
theorem Kept.grownBy {g : Nat} {w w' : World} (h : Kept g w w') : w.grownBy w' (some g) := ⟨h.os, h.tape, h.output, h.size, fun k hk hn => h.block k hk (fun e => hn (by rw [e]))⟩
theorem blk_sets (g : Nat) (vs : List Value) (o : Nat) (w : World) (cs : List Value) (t : TypeId) (h : Blk w g cs t) : ∃ cs', Blk (w.setCells g o vs) g cs' t ∧ cs'.length = cs.length ∧ ∀ k, k ≤ o → cs'.take k = cs.take k := by
  induction vs generalizing o w cs with
  | nil => exact ⟨cs, h, rfl, fun _ _ => rfl⟩
  | cons v r ih =>
    obtain ⟨cs', h1, h2, h3⟩ := ih (o + 1) _ _ (h.setCell o v)
    refine ⟨cs', h1, by rw [h2, List.length_set], ?_⟩
    intro k hk
    rw [h3 k (by omega), List.take_set_of_le (by omega)]
/-- A row cut to its first m elements, cells behind them being written. -/
theorem own_cut {w : World} {base : Nat} {e : TypeId} {size g n cap : Nat} {xs : List Value} (h : w.ownsRow base e size (.slice (some ⟨g, 0, none⟩) n cap) n xs) (m : Nat) (hm : m ≤ n) (vs : List Value) :
    (w.setCells g (m * size) vs).ownsRow base e size (.slice (some ⟨g, 0, none⟩) m cap) m (xs.take (m * size)) := by
  rcases h.2 with ⟨h1, _⟩ | ⟨g', cap', cur, hv, hg, hh, hc, hl, hs, hx⟩
  · simp at h1
  · simp only [Value.slice.injEq, Option.some.injEq, Addr.mk.injEq, true_and, and_true] at hv
    obtain ⟨rfl, rfl⟩ := hv
    have hB : Blk w g cur.toList e := by unfold Blk; simpa using hh
    obtain ⟨cs', k1, k2, k3⟩ := blk_sets g vs (m * size) w cur.toList e hB
    have hms : m * size ≤ n * size := Nat.mul_le_mul_right _ hm
    refine ⟨?_, .inr ⟨g, cap, cs'.toArray, rfl, hg, k1, by omega, hl, ?_, ?_⟩⟩
    · rw [List.length_take, h.1]; omega
    · simp [k2, hs]
    · simp only []
      rw [k3 _ (Nat.le_refl _), ← hx, List.take_take, Nat.min_eq_left hms]
theorem clauses_cut {w : World} {base g cap : Nat} {ds : List ClD} {d : ClD} (h : ClausesIs w base (.slice (some ⟨g, 0, none⟩) (ds.length + 1) cap) (ds ++ [d])) (vs : List Value) : ClausesIs (w.setCells g (ds.length * 6) vs) base (.slice (some ⟨g, 0, none⟩) ds.length cap) ds := by
  obtain ⟨rows, ho, hl, hr⟩ := h
  rw [List.length_append, List.length_singleton] at ho hl
  have hall : ∀ r ∈ rows, r.length = 6 := by
    intro r hr'
    obtain ⟨j, hj, rfl⟩ := List.getElem_of_mem hr'
    have hj2 : j < (ds ++ [d]).length := by simp; omega
    obtain ⟨bv, hc, _⟩ := hr j (ds ++ [d])[j] rows[j] (by simp) (by simp)
    rw [hc]; rfl
  have hcut := own_cut ho ds.length (by omega) vs
  have hfl : rows.flatten.take (ds.length * 6) = (rows.take ds.length).flatten := by
    have e1 : rows = rows.take ds.length ++ rows.drop ds.length := (List.take_append_drop _ _).symm
    have e2 : ((rows.take ds.length).flatten).length = ds.length * 6 := by
      rw [List.length_flatten]
      have : (rows.take ds.length).map List.length = List.replicate ds.length 6 := by
        apply List.ext_getElem
        · simp; omega
        · intro i h1 h2
          simp at h1 ⊢
          exact hall _ (List.getElem_mem _)
      rw [this]; simp
    conv => lhs; rw [e1, List.flatten_append]
    rw [List.take_append_of_le_length (by omega), ← e2, List.take_length]
  rw [hfl] at hcut
  have hg := (kept_sets g vs (ds.length * 6) w).grownBy
  refine ⟨rows.take ds.length, hcut, by simp; omega, ?_⟩
  intro i d' cs h1 h2
  have hi : i < ds.length := by
    rcases Nat.lt_or_ge i ds.length with h | h
    · exact h
    · rw [List.getElem?_eq_none h] at h1; simp at h1
  rw [List.getElem?_take_of_lt hi] at h2
  obtain ⟨bv, hc, hlb⟩ := hr i d' cs (by rw [List.getElem?_append_left hi]; exact h1) h2
  exact ⟨bv, hc, hlb.kept hg (own_ne2 hlb ho (by decide))⟩

def zCl : List Value := [.string ⟨#[]⟩, .int .i64 0, .string ⟨#[]⟩, .string ⟨#[]⟩, .string ⟨#[]⟩, .slice none 0 0]
theorem zeroCl1 : (Builtin.zeroCells (Value.agg #[.string ⟨#[]⟩, .int .i64 0, .string ⟨#[]⟩, .string ⟨#[]⟩, .string ⟨#[]⟩, .slice none 0 0]).cells 1).toList = zCl := by kernel_rfl
theorem clear_one (w : World) (ty : TypeId) (g o c : Nat) (cs : List Value) (t : TypeId) (h : Blk w g cs t) (ho : o + 6 ≤ cs.length) :
    (Builtin.clear_ #[43] ty #[.slice (some ⟨g, o, none⟩) 1 c]).run Try.prog w = .ok (.tuple #[]) (w.setCells g o zCl) := by
  have hst := run_storeCells_cells (P := Try.prog) g o zCl 0 w
    (by intro j hj; simp [zCl] at hj; rw [h.cell]; simp; omega)
    (by intro j hj; exact h.frozen _)
    (by intro v hv; simp [zCl] at hv; rcases hv with rfl | rfl | rfl | rfl | rfl | rfl <;> rfl)
  simp only [Nat.add_zero] at hst
  simp [Builtin.clear_, run_underlying Try.underlying43, zeroCl1, hst]

set_option maxHeartbeats 1000000 in
set_option maxRecDepth 100000 in
theorem delete_last (w : World) (base : Nat) (g cap : Nat) (ds : List ClD) (d : ClD) (hP : ClausesIs w base (.slice (some ⟨g, 0, none⟩) (ds.length + 1) cap) (ds ++ [d])) (hW : ∀ d' ∈ ds ++ [d], d'.WF) (hn : ds.length + 1 ≤ 40) (B : Nat) (an : List UInt8) (ats : List (List UInt8)) (hA : Blk w B (atomCells an ats) 48) (hx : idx an ats (ds ++ [d]) = (ds.length : Nat)) :
    Calls Try.prog 20 #[.slice (some ⟨g, 0, none⟩) (ds.length + 1) cap, .func (.func 30) #[] #[.pointer (some ⟨B, 0, none⟩)]] w fun e w' => e = .returned (.slice (some ⟨g, 0, none⟩) ds.length cap) ∧ ClausesIs w' base (.slice (some ⟨g, 0, none⟩) ds.length cap) ds ∧ w.grownBy w' (some g) := by
  have hlen : (ds ++ [d]).length = ds.length + 1 := by simp
  have hX := indexCl_c w base (some ⟨g, 0, none⟩) cap (ds ++ [d]) (by rw [hlen]; exact hP) hW (by rw [hlen]; exact hn) B an ats hA
  rw [hlen, hx] at hX
  have HX := hid hX
  have HP := hid hP
  have hrow : ∃ cs, Blk w g cs 54 ∧ cs.length = cap * 6 ∧ ds.length + 1 ≤ cap ∧ cap ≤ maxLen := by
    obtain ⟨rows, ho, hl, hr⟩ := hP
    rcases ho.2 with ⟨h1, _⟩ | ⟨g', cap', cur, hv, hg, hh, hc, hl, hs, hx⟩
    · simp at h1
    · simp only [Value.slice.injEq, Option.some.injEq, Addr.mk.injEq, and_true] at hv
      obtain ⟨rfl, -, rfl⟩ := hv
      exact ⟨cur.toList, by unfold Blk; simpa using hh, by simpa using hs, by simpa using hc, hl⟩
  obtain ⟨cs, hcs, hcl, hcap, hcm⟩ := hrow
  unfold maxLen at hcm
  clear hX hP hA hx
  go_enter Try.func20, Try.ntmps20
  go_wp2_with fail
  refine (HX.out).mono ?_
  rintro e w1 ⟨rfl, hB1⟩
  go_wp2_with fail
  go_loopw [5, 6] (fun iv jv wr => iv = .int .i64 (ds.length : Nat) ∧ jv = .int .i64 ((ds.length : Nat) + 1) ∧ wr = w1) (fun _ _ _ => 0)
  case atStart => exact ⟨rfl, rfl, rfl⟩
  case round =>
    obtain ⟨rfl, rfl, rfl⟩ := hrel
    have hcs1 := hcs.below hB1
    have hclr := fun ty => clear_one wr ty g (ds.length * 6) (cap - ds.length) cs 54 hcs1 (by omega)
    have hPx := clauses_cut (HP.out.below hB1) zCl
    have hgx : w.grownBy (wr.setCells g (ds.length * 6) zCl) (some g) := ((Kept.of_below hB1).trans (kept_sets g zCl (ds.length * 6) wr)).grownBy
    clear hcs1 hcl
    generalize wr.setCells g (ds.length * 6) zCl = wz at *
    go_wp2_with (simp only [hclr])
    go_ret
    exact ⟨rfl, hPx, hgx⟩

end Go.Proofs.Ytpbfiffgcgnidaa
