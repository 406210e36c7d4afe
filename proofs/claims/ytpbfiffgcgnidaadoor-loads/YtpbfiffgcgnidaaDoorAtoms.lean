/-
  OUR OWN. The atoms of a clause.
-/
import Derived.Test.YtpbfiffgcgnidaaDoorSet2
namespace Go.Proofs.YtpbfiffgcgnidaaDoor
open Go.RowKit
attribute [local go_sem] drewN_alloc drewN_setCell

/-- A clause's atoms: names and terms. -/
def ClD.atoms (d : ClD) : List (List UInt8 × List (List UInt8)) := (d.name, d.ts) :: d.lits.map fun l => (l.name, l.ts)
def atomC (p : List UInt8 × List (List UInt8)) : List Value := atomCells p.1 p.2

theorem infoAtom : (Tryd.prog.info? 69).map (fun i => (i.zero, i.size, i.bytes)) = some (some (.agg #[.string ⟨#[]⟩, .int .i64 0, .string ⟨#[]⟩, .string ⟨#[]⟩, .string ⟨#[]⟩]), 5, 72) := by kernel_rfl

/-- An element of several cells in a row. -/
theorem own_at {w : World} {base : Nat} {e : TypeId} {ao : Option Addr} {n cap size : Nat} {rows : List (List Value)} (h : w.ownsRow base e size (.slice ao n cap) n rows.flatten) (hr : ∀ r ∈ rows, r.length = size) (hl : rows.length = n) (i : Nat) (hi : i < n) :
    ∃ g, ao = some ⟨g, 0, none⟩ ∧ base ≤ g ∧ ∀ j, j < size → w.cell? ⟨g, i * size + j, none⟩ = (rows.getD i [])[j]? := by
  rcases h.2 with ⟨h1, h2⟩ | ⟨g, cap', cur, h1, hb, _⟩
  · omega
  · injection h1 with h1
    refine ⟨g, h1, hb, ?_⟩
    subst h1
    intro j hj
    have key : ∀ (rows : List (List Value)) (i : Nat), (∀ r ∈ rows, r.length = size) → i < rows.length → rows.flatten[i * size + j]? = (rows.getD i [])[j]? := by
      intro rows
      induction rows with
      | nil => intro i _ h; simp at h
      | cons r rs ih =>
        intro i hr hi
        have h0 := hr r (by simp)
        cases i with
        | zero => simp [List.getElem?_append_left (show j < r.length by omega)]
        | succ i =>
          rw [List.flatten_cons, List.getElem?_append_right (by rw [h0, Nat.succ_mul]; omega), h0, show (i + 1) * size + j - size = i * size + j by rw [Nat.succ_mul]; omega]
          simp only [List.length_cons] at hi
          rw [ih i (fun r hr' => hr r (by simp [hr'])) (by omega)]
          simp
    have hk := key rows i hr (by omega)
    have hlen : j < (rows.getD i []).length := by
      rw [List.getD_eq_getElem?_getD, List.getElem?_eq_getElem (by omega : i < rows.length)]
      simp only [Option.getD_some]
      rw [hr _ (List.getElem_mem _)]; exact hj
    rw [List.getElem?_eq_getElem hlen] at hk ⊢
    have := h.cells (g := g) rfl (i * size + j) _ hk
    rw [Addr.add_lit, Nat.zero_add] at this
    exact this
theorem flat_map {α : Type} (f : α → List Value) (l : List α) : l.flatMap f = (l.map f).flatten := by simp [List.flatMap]

def LitD.nm (d : LitD) : ByteArray := bs d.name
def LitD.cn (d : LitD) : Int := d.ts.length
def LitD.t (d : LitD) (i : Nat) : ByteArray := bs (d.ts.getD i [])
theorem LitD.cells_eq (d : LitD) : d.cells = [.string d.nm, .int .i64 d.cn, .string (d.t 0), .string (d.t 1), .string (d.t 2), .bool d.neg] := rfl
theorem LitD.atom_eq (d : LitD) : atomC (d.name, d.ts) = [.string d.nm, .int .i64 d.cn, .string (d.t 0), .string (d.t 1), .string (d.t 2)] := rfl
/-- The literals in their row, one by one. -/
theorem lits_at {w : World} {base : Nat} {ao : Option Addr} {cap : Nat} {lits : List LitD} (h : w.ownsRow base 110 6 (.slice ao lits.length cap) lits.length (lits.flatMap LitD.cells)) (i : Nat) (hi : i < lits.length) :
    ∃ g, ao = some ⟨g, 0, none⟩ ∧ g < w.heap.size ∧ w.cell? ⟨g, i * 6, none⟩ = some (.string lits[i].nm) ∧ w.cell? ⟨g, i * 6 + 1, none⟩ = some (.int .i64 lits[i].cn) ∧ w.cell? ⟨g, i * 6 + 2, none⟩ = some (.string (lits[i].t 0)) ∧
      w.cell? ⟨g, i * 6 + 3, none⟩ = some (.string (lits[i].t 1)) ∧ w.cell? ⟨g, i * 6 + 4, none⟩ = some (.string (lits[i].t 2)) ∧ w.cell? ⟨g, i * 6 + 5, none⟩ = some (.bool lits[i].neg) := by
  rw [flat_map] at h
  obtain ⟨g, rfl, hb, hc⟩ := own_at h (by intro r hr; simp at hr; obtain ⟨d, _, rfl⟩ := hr; rfl) (by simp) i hi
  have e : (lits.map LitD.cells).getD i [] = lits[i].cells := by simp [hi]
  rw [e, LitD.cells_eq] at hc
  exact ⟨g, rfl, (h.lt g rfl).2, hc 0 (by decide), hc 1 (by decide), hc 2 (by decide), hc 3 (by decide), hc 4 (by decide), hc 5 (by decide)⟩

set_option maxHeartbeats 1000000 in
set_option maxRecDepth 100000 in
theorem atoms_c (w : World) (base : Nat) (n0 t0 t1 t2 : ByteArray) (c : Int) (ao : Option Addr) (cap : Nat) (name : List UInt8) (ts : List (List UInt8)) (lits : List LitD)
    (hh : [Value.string n0, .int .i64 c, .string t0, .string t1, .string t2] = atomCells name ts) (hL : w.ownsRow base 110 6 (.slice ao lits.length cap) lits.length (lits.flatMap LitD.cells)) (hn : lits.length ≤ 100) :
    Calls Tryd.prog 30 #[.agg #[.string n0, .int .i64 c, .string t0, .string t1, .string t2, .slice ao lits.length cap]] w fun e w' => ∃ g cap', e = .returned (.slice (some ⟨g, 0, none⟩) (lits.length + 1) cap') ∧
      w'.ownsRow w.heap.size 69 5 (.slice (some ⟨g, 0, none⟩) (lits.length + 1) cap') (lits.length + 1) (((name, ts) :: lits.map fun l => (l.name, l.ts)).flatMap atomC) ∧ Below w.heap.size w w' := by
  have HH := hid hh
  clear hh
  obtain ⟨i1, hi1, hy0, hy1, hy2⟩ := info_parts infoAtom
  go_enter Tryd.func30, Tryd.ntmps30
  go_wp2
  go_loopw [3, 12] (fun v i wr => ∃ (k g cap' : Nat), k ≤ lits.length ∧ i = .int .i64 k ∧ v = .slice (some ⟨g, 0, none⟩) (k + 1) cap' ∧
    wr.ownsRow w.heap.size 69 5 (.slice (some ⟨g, 0, none⟩) (k + 1) cap') (k + 1) (((name, ts) :: (lits.take k).map fun l => (l.name, l.ts)).flatMap atomC) ∧ Below w.heap.size w wr) (fun _ i _ => lits.length - (intOf i).toNat)
  case atStart =>
    refine ⟨0, w.heap.size + 1, 1, by omega, rfl, rfl, ?_, ((Below.refl _ _).alloc (Nat.le_refl _) _).alloc (by simp) _⟩
    have h := own_one (base := w.heap.size) (new_two w (.cells #[Value.string n0, .int .i64 c, .string t0, .string t1, .string t2, .slice ao lits.length cap] 72) [Value.string n0, .int .i64 c, .string t0, .string t1, .string t2] 69) rfl (by omega)
    simp only [List.take_zero, List.map_nil, List.flatMap_cons, List.flatMap_nil, List.append_nil, atomC]
    rw [← HH.out]
    exact h
  case round =>
    obtain ⟨k, g, cap', hk, rfl, rfl, hA, hB⟩ := hrel
    by_cases hlt : k < lits.length
    · obtain ⟨g0, rfl, hg0, e0, e1, e2, e3, e4, e5⟩ := lits_at hL k hlt
      generalize hlk : lits[k] = L at *
      have HLK := hid hlk
      clear hlk
      rw [← hB.cell (p := ⟨g0, k * 6, none⟩) hg0] at e0
      rw [← hB.cell (p := ⟨g0, k * 6 + 1, none⟩) hg0] at e1
      rw [← hB.cell (p := ⟨g0, k * 6 + 2, none⟩) hg0] at e2
      rw [← hB.cell (p := ⟨g0, k * 6 + 3, none⟩) hg0] at e3
      rw [← hB.cell (p := ⟨g0, k * 6 + 4, none⟩) hg0] at e4
      rw [← hB.cell (p := ⟨g0, k * 6 + 5, none⟩) hg0] at e5
      have hbw : w.heap.size ≤ wr.heap.size := hB.size
      have HT : Hid (((name, ts) :: (lits.take k).map fun l => (l.name, l.ts)).flatMap atomC ++ [.string L.nm, .int .i64 L.cn, .string (L.t 0), .string (L.t 1), .string (L.t 2)] = ((name, ts) :: (lits.take (k + 1)).map fun l => (l.name, l.ts)).flatMap atomC) := by
        show _ = _
        rw [List.take_succ_eq_append_getElem hlt, HLK.out, ← LitD.atom_eq]
        simp [List.flatMap_append]
      go_wp2_with (at_builtin; refine wpList_append_ownS _ rfl _ _ 104 rfl w.heap.size 69 i1 _ 5 72 Tryd.underlying104 hi1 hy0 hy1 hy2 rfl (by decide) _ (k + 1) _ rfl ((hA.alloc _).alloc _) ⟨wr.heap.size + 1, 0, none⟩ 1 [.string L.nm, .int .i64 L.cn, .string (L.t 0), .string (L.t 1), .string (L.t 2)] rfl rfl (new_cells2 _ _ _ _) (by intro u hu; simp at hu; rcases hu with rfl | rfl | rfl | rfl | rfl <;> rfl) (by unfold maxLen; omega) (by omega) (by simp; omega) ?_; intro g3 cap3 w3 ho3 hg3)
      rw [HT.out] at ho3
      have hB3 := ((hB.alloc hbw _).alloc (by simp; omega) _).grown hg3 (by simp; omega) (own_base hA)
      exact ⟨⟨k + 1, g3, cap3, hlt, by go_num, rfl, ho3, hB3⟩, by simp [intOf]; omega⟩
    · have hke : k = lits.length := by omega
      go_wp2
      go_ret
      subst hke
      rw [List.take_length] at hA
      exact ⟨g, cap', rfl, hA, hB⟩

end Go.Proofs.YtpbfiffgcgnidaaDoor
