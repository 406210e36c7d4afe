/-
  OUR OWN. slices.DeleteFunc over a base's clauses, whatever it takes out.
-/
import Derived.Test.YtpbfiffgcgnidaaGreatDoorXF11
import Derived.Test.YtpbfiffgcgnidaaGreatDoorXPf5
namespace Go.Proofs.YtpbfiffgcgnidaaGreatDoor
open Go.RowKit Go.WideMaps Go.Maps
attribute [local go_sem] drewN_alloc drewN_setCell

theorem len6 (r : List Value) (h : r.length = 6) : ∃ a0 a1 a2 a3 a4 a5, r = [a0, a1, a2, a3, a4, a5] := by
  match r, h with
  | [a0, a1, a2, a3, a4, a5], _ => exact ⟨a0, a1, a2, a3, a4, a5, rfl⟩
theorem flat_set6 (R : List (List Value)) (h6 : ∀ r ∈ R, r.length = 6) (i : Nat) (hi : i < R.length) (x0 x1 x2 x3 x4 x5 : Value) :
    ((((((R.flatten.set (i * 6) x0).set (i * 6 + 1) x1).set (i * 6 + 2) x2).set (i * 6 + 3) x3).set (i * 6 + 4) x4).set (i * 6 + 5) x5) = (R.set i [x0, x1, x2, x3, x4, x5]).flatten := by
  induction R generalizing i with
  | nil => simp at hi
  | cons r R ih =>
    obtain ⟨a0, a1, a2, a3, a4, a5, rfl⟩ := len6 r (h6 r (by simp))
    cases i with
    | zero => simp
    | succ i =>
      have h := ih (fun r hr => h6 r (by simp [hr])) i (by simpa using hi)
      rw [show (i + 1) * 6 = i * 6 + 6 by omega, List.set_cons_succ, List.flatten_cons, List.flatten_cons, ← h]
      rfl
/-- Six cells of a row are written: an element more of one's own. -/
theorem own_put {w : World} {base : Nat} {e : TypeId} {g n cap : Nat} {R : List (List Value)} (h : w.ownsRow base e 6 (.slice (some ⟨g, 0, none⟩) n cap) n R.flatten) (h6 : ∀ r ∈ R, r.length = 6) (hn : R.length = n) (i : Nat) (hi : i < n) (x0 x1 x2 x3 x4 x5 : Value) :
    ((((((w.setCell ⟨g, i * 6, none⟩ x0).setCell ⟨g, i * 6 + 1, none⟩ x1).setCell ⟨g, i * 6 + 2, none⟩ x2).setCell ⟨g, i * 6 + 3, none⟩ x3).setCell ⟨g, i * 6 + 4, none⟩ x4).setCell ⟨g, i * 6 + 5, none⟩ x5).ownsRow base e 6 (.slice (some ⟨g, 0, none⟩) n cap) n (R.set i [x0, x1, x2, x3, x4, x5]).flatten := by
  rcases h.2 with ⟨h1, _⟩ | ⟨g', cap', cur, hv, hg, hh, hc, hl, hs, hx⟩
  · simp at h1
  · simp only [Value.slice.injEq, Option.some.injEq, Addr.mk.injEq, true_and, and_true] at hv
    obtain ⟨rfl, rfl⟩ := hv
    have hB : Blk w g cur.toList e := by unfold Blk; simpa using hh
    have hB6 := (((((hB.setCell (i * 6) x0).setCell (i * 6 + 1) x1).setCell (i * 6 + 2) x2).setCell (i * 6 + 3) x3).setCell (i * 6 + 4) x4).setCell (i * 6 + 5) x5
    rw [← flat_set6 R h6 i (by omega)]
    refine ⟨by simp only [List.length_set]; exact h.1, .inr ⟨g, cap, _, rfl, hg, hB6, hc, hl, by simp [hs], ?_⟩⟩
    simp only [List.take_set]
    rw [hx]
theorem zero_one (z : Array Value) (m : Nat) (h : ∀ v ∈ z.toList, v.oneCell' = true) (hz : 0 < z.size) : ∀ v ∈ (Builtin.zeroCells z m).toList, v.oneCell' = true := by
  intro v hv
  simp only [Builtin.zeroCells, Array.toList_map, List.mem_map] at hv
  obtain ⟨i, _, rfl⟩ := hv
  have hlt : i % z.size < z.size := Nat.mod_lt _ hz
  rw [getElem!_pos z _ hlt]
  exact h _ (by simp)
def zv (m : Nat) : List Value := (Builtin.zeroCells (Value.agg #[.string ⟨#[]⟩, .int .i64 0, .string ⟨#[]⟩, .string ⟨#[]⟩, .string ⟨#[]⟩, .slice none 0 0]).cells m).toList
theorem clear_many (w : World) (ty : TypeId) (g o m c : Nat) (cs : List Value) (t : TypeId) (h : Blk w g cs t) (hm : 0 < m) (ho : o + m * 6 ≤ cs.length) :
    (Builtin.clear_ #[56] ty #[.slice (some ⟨g, o, none⟩) m c]).run Tryz.prog w = .ok (.tuple #[]) (w.setCells g o (zv m)) := by
  have hlen : (zv m).length = m * 6 := by
    unfold zv
    rw [Array.length_toList, size_zeroCells]; rfl
  have hst := run_storeCells_cells (P := Tryz.prog) g o (zv m) 0 w
    (by intro j hj; rw [hlen] at hj; rw [h.cell]; simp; omega)
    (by intro j hj; exact h.frozen _)
    (zero_one _ m (by intro v hv; simp [Value.cells] at hv; rcases hv with rfl | rfl | rfl | rfl | rfl | rfl <;> rfl) (by decide))
  simp only [Nat.add_zero] at hst
  obtain ⟨k, rfl⟩ : ∃ k, m = k + 1 := ⟨m - 1, by omega⟩
  unfold zv at hst ⊢
  simp [Builtin.clear_, run_underlying Tryz.underlying56, hst]
theorem flat_take (R : List (List Value)) (h6 : ∀ r ∈ R, r.length = 6) (i : Nat) (hi : i ≤ R.length) : R.flatten.take (i * 6) = (R.take i).flatten := by
  induction R generalizing i with
  | nil => simp
  | cons r R ih =>
    cases i with
    | zero => simp
    | succ i =>
      have hr := h6 r (by simp)
      have h := ih (fun r hr => h6 r (by simp [hr])) i (by simpa using hi)
      rw [List.flatten_cons, List.take_succ_cons, List.flatten_cons, ← h, List.take_append, List.take_of_length_le (by omega), hr]
      congr 2
      omega
/-- Pairs that stay. -/
def stay (an : List UInt8) (ats : List (List UInt8)) (ps : List (ClD × List Value)) : List (ClD × List Value) := ps.filter fun p => !matchB an ats p.1
theorem stay_fst (an : List UInt8) (ats : List (List UInt8)) (ds : List ClD) (rows : List (List Value)) (h : rows.length = ds.length) : (stay an ats (ds.zip rows)).map Prod.fst = ds.filter fun d => !matchB an ats d := by
  induction ds generalizing rows with
  | nil => simp [stay]
  | cons d ds ih =>
    cases rows with
    | nil => simp at h
    | cons r rows =>
      have h' := ih rows (by simpa using h)
      unfold stay at h' ⊢
      rw [List.zip_cons_cons, List.filter_cons, List.filter_cons]
      cases hm : matchB an ats d
      · simp [h']
      · simp [h']
theorem stay_step (an : List UInt8) (ats : List (List UInt8)) (ds : List ClD) (rows : List (List Value)) (h : rows.length = ds.length) (j : Nat) (hj : j < ds.length) : stay an ats ((ds.zip rows).take (j + 1)) = stay an ats ((ds.zip rows).take j) ++ (if matchB an ats ds[j] = true then [] else [(ds[j], rows[j])]) := by
  have hz : j < (ds.zip rows).length := by simp; omega
  unfold stay
  rw [List.take_succ_eq_append_getElem hz, List.filter_append, List.getElem_zip]
  congr 1
  cases hm : matchB an ats ds[j] <;> simp [hm]
theorem idx_at (an : List UInt8) (ats : List (List UInt8)) (ds : List ClD) (rows : List (List Value)) (h : rows.length = ds.length) (hx : 0 ≤ idx an ats ds) : ∃ i, i < ds.length ∧ idx an ats ds = (i : Nat) ∧ (stay an ats ((ds.zip rows).take (i + 1))).map Prod.snd = rows.take i := by
  have key : ∀ (k : Nat), k ≤ ds.length → idxGo an ats k (ds.drop k) = idx an ats ds → (stay an ats ((ds.zip rows).take k)).map Prod.snd = rows.take k → ∃ i, i < ds.length ∧ idx an ats ds = (i : Nat) ∧ (stay an ats ((ds.zip rows).take (i + 1))).map Prod.snd = rows.take i := by
    intro k
    induction hd : ds.length - k generalizing k with
    | zero =>
      intro hk h1 _
      rw [List.drop_eq_nil_of_le (by omega)] at h1
      rw [← h1] at hx
      simp [idxGo] at hx
    | succ n ih =>
      intro hk h1 h2
      have hlt : k < ds.length := by omega
      rw [idxGo_drop an ats ds k hlt] at h1
      by_cases hm : matchB an ats ds[k] = true
      · rw [if_pos hm] at h1
        exact ⟨k, hlt, h1.symm, by rw [stay_step an ats ds rows h k hlt, if_pos hm, List.append_nil, h2]⟩
      · rw [if_neg hm] at h1
        refine ih (k + 1) (by omega) (by omega) h1 ?_
        rw [stay_step an ats ds rows h k hlt, if_neg hm, List.map_append, h2, List.take_succ_eq_append_getElem (by omega)]
        rfl
  exact key 0 (by omega) rfl (by simp [stay])

set_option maxHeartbeats 8000000 in
set_option maxRecDepth 100000 in
theorem delete_c (w : World) (base : Nat) (g cap : Nat) (ds : List ClD) (hP : ClausesIs w base (.slice (some ⟨g, 0, none⟩) ds.length cap) ds) (hW : ∀ d ∈ ds, d.WF) (hn : ds.length ≤ 40) (B : Nat) (an : List UInt8) (ats : List (List UInt8)) (hA : Blk w B (atomCells an ats) 80) (hx : 0 ≤ idx an ats ds) :
    Calls Tryz.prog 44 #[.slice (some ⟨g, 0, none⟩) ds.length cap, .func (.func 71) #[] #[.pointer (some ⟨B, 0, none⟩)]] w fun e w' => ∃ m : Nat, e = .returned (.slice (some ⟨g, 0, none⟩) m cap) ∧ ClausesIs w' base (.slice (some ⟨g, 0, none⟩) m cap) (ds.filter fun d => !matchB an ats d) ∧ Only (fun k => k = g) w w' := by
  have hX := indexCl_c w base (some ⟨g, 0, none⟩) cap ds hP hW hn B an ats hA
  obtain ⟨rows, ho, hl, hr⟩ := hP
  have hall : ∀ r ∈ rows, r.length = 6 := by
    intro r hr'
    obtain ⟨j, hj, rfl⟩ := List.getElem_of_mem hr'
    obtain ⟨bv, hc, _⟩ := hr j ds[j] rows[j] (by simp) (by simp)
    rw [hc]; rfl
  obtain ⟨i0, hi0, hix, hst0⟩ := idx_at an ats ds rows hl hx
  rw [hix] at hX
  have HX := hid hX
  have HST0 := hid hst0
  have hrow : ∃ cs, Blk w g cs 86 ∧ cs.length = cap * 6 ∧ ds.length ≤ cap ∧ cap ≤ maxLen := by
    rcases ho.2 with ⟨h1, _⟩ | ⟨g', cap', cur, hv, hg, hh, hc, hl, hs, hx⟩
    · simp at h1
    · simp only [Value.slice.injEq, Option.some.injEq, Addr.mk.injEq, true_and, and_true] at hv
      obtain ⟨rfl, rfl⟩ := hv
      exact ⟨cur.toList, by unfold Blk; simpa using hh, by simpa using hs, by simpa using hc, hl⟩
  obtain ⟨cs0, hcs0, _, hcap, hcm⟩ := hrow
  have hgB : B ≠ g := by
    rintro rfl
    unfold Blk at hA hcs0
    rw [hA] at hcs0
    simp at hcs0
  have htl : Typed w (fun k => k = g) 186 := typed_blk hcs0 (by decide)
  have hglt := hcs0.lt
  unfold maxLen at hcm
  have hi0i : ¬ ((i0 : Nat) : Int) = -1 := by omega
  have hi0b : (((i0 : Nat) : Int) == -1) = false := by rw [beq_eq_false_iff_ne]; exact hi0i
  clear hX hx hix hst0
  go_enter Tryz.func44, Tryz.ntmps44
  go_wp2_with fail
  refine (HX.out).mono ?_
  rintro e w1 ⟨rfl, hB1⟩
  go_wp2_with fail
  go_loopw [5, 6] (fun iv jv wr => ∃ (i j : Nat) (R : List (List Value)), iv = .int .i64 i ∧ jv = .int .i64 j ∧ i < j ∧ j ≤ ds.length ∧ R.length = ds.length ∧ (∀ r ∈ R, r.length = 6) ∧ Hid (R.drop j = rows.drop j) ∧ Hid (R.take i = (stay an ats ((ds.zip rows).take j)).map Prod.snd) ∧ wr.ownsRow base 86 6 (.slice (some ⟨g, 0, none⟩) ds.length cap) ds.length R.flatten ∧ Only (fun k => k = g) w wr) (fun _ jv _ => ds.length - (intOf jv).toNat)
  case atStart => exact ⟨i0, i0 + 1, rows, rfl, by go_num, by omega, by omega, hl, hall, rfl, HST0.out.symm, own_below ho hB1, Only.of_below hB1⟩
  case round =>
    obtain ⟨i, j, R, rfl, rfl, hij, hj, hRl, hR6, HRD, HRT, hor, hO⟩ := hrel
    have hrow : ∃ cs, Blk wr g cs 86 ∧ cs.length = cap * 6 := by
      rcases hor.2 with ⟨h1, _⟩ | ⟨g', cap', cur, hv, hg, hh, hc, hl, hs, hx⟩
      · simp at h1
      · simp only [Value.slice.injEq, Option.some.injEq, Addr.mk.injEq, true_and, and_true] at hv
        obtain ⟨rfl, rfl⟩ := hv
        exact ⟨cur.toList, by unfold Blk; simpa using hh, by simpa using hs⟩
    obtain ⟨cs, hcs, hcl⟩ := hrow
    have hgr := hcs.lt
    by_cases hlt : j < ds.length
    · obtain ⟨g', hgg, -, hcj⟩ := own_at hor hR6 hRl j hlt
      simp only [Option.some.injEq, Addr.mk.injEq, and_true] at hgg
      subst hgg
      obtain ⟨g', hgg, -, hci⟩ := own_at hor hR6 hRl i (by omega)
      simp only [Option.some.injEq, Addr.mk.injEq, and_true] at hgg
      subst hgg
      have hRj : R.getD j [] = rows[j] := by
        have h1 := congrArg (fun l => l[0]?) HRD.out
        simp only [List.getElem?_drop, Nat.add_zero] at h1
        rw [List.getD_eq_getElem?_getD, h1, List.getElem?_eq_getElem (by omega)]
        rfl
      obtain ⟨b0, b1, b2, b3, b4, b5, hRi⟩ := len6 (R.getD i []) (hR6 _ (by rw [List.getD_eq_getElem?_getD, List.getElem?_eq_getElem (by omega)]; simp))
      obtain ⟨bv, hrj, hlb⟩ := hr j ds[j] rows[j] (by simp) (by simp)
      obtain ⟨bo, bcap, rfl⟩ := own_form hlb
      have hwf := hW ds[j] (List.getElem_mem hlt)
      have HSS := hid (stay_step an ats ds rows hl j hlt)
      rw [hRj, hrj] at hcj
      rw [hRi] at hci
      have HRJ := hid hrj
      generalize ds[j] = d at *
      have h3 := (hwf.words (d.name, d.ts) (by simp [ClD.atoms])).2.1
      have e0 : wr.cell? ⟨g, j * 6, none⟩ = some (.string (bs d.name)) := hcj 0 (by decide)
      have e1 : wr.cell? ⟨g, j * 6 + 1, none⟩ = some (.int .i64 (d.ts.length : Nat)) := hcj 1 (by decide)
      have e2 : wr.cell? ⟨g, j * 6 + 2, none⟩ = some (.string (bs (d.ts.getD 0 []))) := hcj 2 (by decide)
      have e3 : wr.cell? ⟨g, j * 6 + 3, none⟩ = some (.string (bs (d.ts.getD 1 []))) := hcj 3 (by decide)
      have e4 : wr.cell? ⟨g, j * 6 + 4, none⟩ = some (.string (bs (d.ts.getD 2 []))) := hcj 4 (by decide)
      have e5 : wr.cell? ⟨g, j * 6 + 5, none⟩ = some (.slice bo d.lits.length bcap) := hcj 5 (by decide)
      have f0 : wr.cell? ⟨g, i * 6, none⟩ = some b0 := hci 0 (by decide)
      have f1 : wr.cell? ⟨g, i * 6 + 1, none⟩ = some b1 := hci 1 (by decide)
      have f2 : wr.cell? ⟨g, i * 6 + 2, none⟩ = some b2 := hci 2 (by decide)
      have f3 : wr.cell? ⟨g, i * 6 + 3, none⟩ = some b3 := hci 3 (by decide)
      have f4 : wr.cell? ⟨g, i * 6 + 4, none⟩ = some b4 := hci 4 (by decide)
      have f5 : wr.cell? ⟨g, i * 6 + 5, none⟩ = some b5 := hci 5 (by decide)
      have HC := hid (fun (W : World) (hb : Blk W B (atomCells an ats) 80) => isFactOf1_c W d.name d.ts bo d.lits.length bcap h3 hwf.lits B an ats hb)
      have HA := hid (hA.only hO hgB)
      have hgA : g < (wr.alloc (.cells #[.string (bs d.name), .int .i64 (d.ts.length : Nat), .string (bs (d.ts.getD 0 [])), .string (bs (d.ts.getD 1 [])), .string (bs (d.ts.getD 2 [])), .slice bo d.lits.length bcap] 86)).heap.size := by simp; omega
      clear hcj hci
      cases hm : matchB an ats d
      · have HSN := hid (show stay an ats ((ds.zip rows).take (j + 1)) = stay an ats ((ds.zip rows).take j) ++ [(d, rows[j])] by rw [HSS.out, hm]; rfl)
        go_wp2_with (go_at_call 71; refine (HC.out _ (by exact (HA.out).alloc _)).mono ?_; rintro e w2 ⟨he, hB2⟩; rw [show (isFactB d.lits.length d.ts && sameB d.name an d.ts ats) = false from hm] at he; subst he; obtain ⟨q0, q1, q2, q3, q4, q5⟩ := ((Blk.new wr [.string (bs d.name), .int .i64 (d.ts.length : Nat), .string (bs (d.ts.getD 0 [])), .string (bs (d.ts.getD 1 [])), .string (bs (d.ts.getD 2 [])), .slice bo d.lits.length bcap] 86).below hB2).c6; have fg := ((hcs.alloc (.cells #[.string (bs d.name), .int .i64 (d.ts.length : Nat), .string (bs (d.ts.getD 0 [])), .string (bs (d.ts.getD 1 [])), .string (bs (d.ts.getD 2 [])), .slice bo d.lits.length bcap] 86)).below hB2).frozen; have hqw := ((Blk.new wr [.string (bs d.name), .int .i64 (d.ts.length : Nat), .string (bs (d.ts.getD 0 [])), .string (bs (d.ts.getD 1 [])), .string (bs (d.ts.getD 2 [])), .slice bo d.lits.length bcap] 86).below hB2).lt; have g0 := (hB2.cell (p := ⟨g, i * 6, none⟩) hgA).trans (((below_alloc wr (.cells #[.string (bs d.name), .int .i64 (d.ts.length : Nat), .string (bs (d.ts.getD 0 [])), .string (bs (d.ts.getD 1 [])), .string (bs (d.ts.getD 2 [])), .slice bo d.lits.length bcap] 86)).cell (p := ⟨g, i * 6, none⟩) hgr).trans f0); have g1 := (hB2.cell (p := ⟨g, i * 6 + 1, none⟩) hgA).trans (((below_alloc wr (.cells #[.string (bs d.name), .int .i64 (d.ts.length : Nat), .string (bs (d.ts.getD 0 [])), .string (bs (d.ts.getD 1 [])), .string (bs (d.ts.getD 2 [])), .slice bo d.lits.length bcap] 86)).cell (p := ⟨g, i * 6 + 1, none⟩) hgr).trans f1); have g2 := (hB2.cell (p := ⟨g, i * 6 + 2, none⟩) hgA).trans (((below_alloc wr (.cells #[.string (bs d.name), .int .i64 (d.ts.length : Nat), .string (bs (d.ts.getD 0 [])), .string (bs (d.ts.getD 1 [])), .string (bs (d.ts.getD 2 [])), .slice bo d.lits.length bcap] 86)).cell (p := ⟨g, i * 6 + 2, none⟩) hgr).trans f2); have g3 := (hB2.cell (p := ⟨g, i * 6 + 3, none⟩) hgA).trans (((below_alloc wr (.cells #[.string (bs d.name), .int .i64 (d.ts.length : Nat), .string (bs (d.ts.getD 0 [])), .string (bs (d.ts.getD 1 [])), .string (bs (d.ts.getD 2 [])), .slice bo d.lits.length bcap] 86)).cell (p := ⟨g, i * 6 + 3, none⟩) hgr).trans f3); have g4 := (hB2.cell (p := ⟨g, i * 6 + 4, none⟩) hgA).trans (((below_alloc wr (.cells #[.string (bs d.name), .int .i64 (d.ts.length : Nat), .string (bs (d.ts.getD 0 [])), .string (bs (d.ts.getD 1 [])), .string (bs (d.ts.getD 2 [])), .slice bo d.lits.length bcap] 86)).cell (p := ⟨g, i * 6 + 4, none⟩) hgr).trans f4); have g5 := (hB2.cell (p := ⟨g, i * 6 + 5, none⟩) hgA).trans (((below_alloc wr (.cells #[.string (bs d.name), .int .i64 (d.ts.length : Nat), .string (bs (d.ts.getD 0 [])), .string (bs (d.ts.getD 1 [])), .string (bs (d.ts.getD 2 [])), .slice bo d.lits.length bcap] 86)).cell (p := ⟨g, i * 6 + 5, none⟩) hgr).trans f5))
        have hor2 := own_below (hor.alloc (.cells #[.string (bs d.name), .int .i64 (d.ts.length : Nat), .string (bs (d.ts.getD 0 [])), .string (bs (d.ts.getD 1 [])), .string (bs (d.ts.getD 2 [])), .slice bo d.lits.length bcap] 86)) hB2
        have hO2 : Only (fun k => k = g) w w2 := (hO.alloc (.cells #[.string (bs d.name), .int .i64 (d.ts.length : Nat), .string (bs (d.ts.getD 0 [])), .string (bs (d.ts.getD 1 [])), .string (bs (d.ts.getD 2 [])), .slice bo d.lits.length bcap] 86)).trans (Only.of_below (S := fun k => k = g) hB2) (fun k _ h => h)
        have hput := own_put hor2 hR6 hRl i (by omega) (.string (bs d.name)) (.int .i64 (d.ts.length : Nat)) (.string (bs (d.ts.getD 0 []))) (.string (bs (d.ts.getD 1 []))) (.string (bs (d.ts.getD 2 []))) (.slice bo d.lits.length bcap)
        have hrow6 : rows[j] = [.string (bs d.name), .int .i64 (d.ts.length : Nat), .string (bs (d.ts.getD 0 [])), .string (bs (d.ts.getD 1 [])), .string (bs (d.ts.getD 2 [])), .slice bo d.lits.length bcap] := HRJ.out
        refine ⟨⟨i + 1, j + 1, R.set i [.string (bs d.name), .int .i64 (d.ts.length : Nat), .string (bs (d.ts.getD 0 [])), .string (bs (d.ts.getD 1 [])), .string (bs (d.ts.getD 2 [])), .slice bo d.lits.length bcap], by go_num, by go_num, by omega, hlt, by simp [hRl], ?_, ?_, ?_, hput, ?_⟩, by simp [intOf]; omega⟩
        · intro r hr'
          rcases List.mem_or_eq_of_mem_set hr' with h | rfl
          · exact hR6 r h
          · rfl
        · show _ = _
          rw [List.drop_set_of_lt (by omega)]
          have h1 := congrArg (List.drop 1) HRD.out
          simpa [List.drop_drop] using h1
        · show _ = _
          rw [HSN.out, List.map_append, ← HRT.out, ← List.take_set_of_le (l := R) (a := [.string (bs d.name), .int .i64 (d.ts.length : Nat), .string (bs (d.ts.getD 0 [])), .string (bs (d.ts.getD 1 [])), .string (bs (d.ts.getD 2 [])), .slice bo d.lits.length bcap]) (Nat.le_refl i), List.take_succ_eq_append_getElem (by simp; omega)]
          simp [hrow6]
        · exact (((((hO2.setCell (p := ⟨g, i * 6, none⟩) (.inl rfl) _).setCell (p := ⟨g, i * 6 + 1, none⟩) (.inl rfl) _).setCell (p := ⟨g, i * 6 + 2, none⟩) (.inl rfl) _).setCell (p := ⟨g, i * 6 + 3, none⟩) (.inl rfl) _).setCell (p := ⟨g, i * 6 + 4, none⟩) (.inl rfl) _).setCell (p := ⟨g, i * 6 + 5, none⟩) (.inl rfl) _
      · have HSN := hid (show stay an ats ((ds.zip rows).take (j + 1)) = stay an ats ((ds.zip rows).take j) by rw [HSS.out, hm]; simp)
        go_wp2_with (go_at_call 71; refine (HC.out _ (by exact (HA.out).alloc _)).mono ?_; rintro e w2 ⟨he, hB2⟩; rw [show (isFactB d.lits.length d.ts && sameB d.name an d.ts ats) = true from hm] at he; subst he)
        have hor2 := own_below (hor.alloc (.cells #[.string (bs d.name), .int .i64 (d.ts.length : Nat), .string (bs (d.ts.getD 0 [])), .string (bs (d.ts.getD 1 [])), .string (bs (d.ts.getD 2 [])), .slice bo d.lits.length bcap] 86)) hB2
        have hO2 : Only (fun k => k = g) w w2 := (hO.alloc (.cells #[.string (bs d.name), .int .i64 (d.ts.length : Nat), .string (bs (d.ts.getD 0 [])), .string (bs (d.ts.getD 1 [])), .string (bs (d.ts.getD 2 [])), .slice bo d.lits.length bcap] 86)).trans (Only.of_below (S := fun k => k = g) hB2) (fun k _ h => h)
        refine ⟨⟨i, j + 1, R, rfl, by go_num, by omega, hlt, hRl, hR6, ?_, ?_, hor2, hO2⟩, by simp [intOf]; omega⟩
        · show _ = _
          have h1 := congrArg (List.drop 1) HRD.out
          simpa [List.drop_drop] using h1
        · show _ = _
          rw [HSN.out, HRT.out]
    · have hje : j = ds.length := by omega
      have hin : i < ds.length := by omega
      have hclr := fun ty => clear_many wr ty g (i * 6) (ds.length - i) (cap - i) cs 86 hcs (by omega) (by omega)
      have hcut := own_cut hor i (by omega) (zv (ds.length - i))
      rw [flat_take R hR6 i (by omega), HRT.out, hje, List.take_of_length_le (by simp; omega)] at hcut
      have hKl : ((stay an ats (ds.zip rows)).map Prod.snd).length = i := by
        have h1 := congrArg List.length HRT.out
        rw [hje, List.take_of_length_le (l := ds.zip rows) (by simp; omega), List.length_take] at h1
        omega
      have hOz : Only (fun k => k = g) w (wr.setCells g (i * 6) (zv (ds.length - i))) := hO.trans (Only.of_grown (S := fun k => k = g) (kept_sets g (zv (ds.length - i)) (i * 6) wr).grownBy (fun k hk => by simpa using hk.symm)) (fun k _ h => h)
      have hfin : ClausesIs (wr.setCells g (i * 6) (zv (ds.length - i))) base (.slice (some ⟨g, 0, none⟩) i cap) (ds.filter fun d => !matchB an ats d) := by
        have hfl : (ds.filter fun d => !matchB an ats d).length = i := by rw [← stay_fst an ats ds rows hl, List.length_map, ← hKl, List.length_map]
        refine ⟨(stay an ats (ds.zip rows)).map Prod.snd, by rw [hfl]; exact hcut, by rw [hfl, hKl], ?_⟩
        intro t d cs' h1 h2
        rw [← stay_fst an ats ds rows hl, List.getElem?_map] at h1
        rw [List.getElem?_map] at h2
        cases hK : (stay an ats (ds.zip rows))[t]? with
        | none => rw [hK] at h1; simp at h1
        | some p =>
          rw [hK] at h1 h2
          simp only [Option.map_some, Option.some.injEq] at h1 h2
          have hmem : p ∈ ds.zip rows := (List.mem_filter.1 (List.mem_of_getElem? hK)).1
          obtain ⟨k, hk, hpk⟩ := List.getElem_of_mem hmem
          rw [List.getElem_zip] at hpk
          have hk1 : k < ds.length := by simp at hk; omega
          have := hr k ds[k] rows[k] (by simp) (by simp)
          rw [← h1, ← h2, ← hpk]
          exact this.only hOz htl
      have hi1 : (i : Int) ≤ (ds.length : Int) := by omega
      have hi2 : (ds.length : Int) ≤ (cap : Int) := by omega
      clear hje HRD HRT hcut hKl hor
      generalize wr.setCells g (i * 6) (zv (ds.length - i)) = wz at *
      go_wp2_with (simp only [hclr])
      go_ret
      exact ⟨i, rfl, hfin, hOz⟩

end Go.Proofs.YtpbfiffgcgnidaaGreatDoor
