/-
  OUR OWN. Printing: a program, a base.
-/
import Derived.Test.YtpbfiffgcgnidaaGreatDoorXP1
namespace Go.Proofs.YtpbfiffgcgnidaaGreatDoor
open Go.RowKit Go.WideMaps Go.Maps
attribute [local go_sem] drewN_alloc drewN_setCell

theorem clause_at {w : World} {base : Nat} {ao : Option Addr} {cap : Nat} {ds : List ClD} (h : ClausesIs w base (.slice ao ds.length cap) ds) (i : Nat) (hi : i < ds.length) :
    ∃ g bo bcap, ao = some ⟨g, 0, none⟩ ∧ g < w.heap.size ∧ w.cell? ⟨g, i * 6, none⟩ = some (.string ds[i].nm) ∧ w.cell? ⟨g, i * 6 + 1, none⟩ = some (.int .i64 ds[i].cn) ∧ w.cell? ⟨g, i * 6 + 2, none⟩ = some (.string (ds[i].t 0)) ∧
      w.cell? ⟨g, i * 6 + 3, none⟩ = some (.string (ds[i].t 1)) ∧ w.cell? ⟨g, i * 6 + 4, none⟩ = some (.string (ds[i].t 2)) ∧ w.cell? ⟨g, i * 6 + 5, none⟩ = some (.slice bo ds[i].lits.length bcap) ∧
      w.ownsRow base 186 6 (.slice bo ds[i].lits.length bcap) ds[i].lits.length (ds[i].lits.flatMap LitD.cells) := by
  obtain ⟨rows, ho, hl, hr⟩ := h
  have hall : ∀ r ∈ rows, r.length = 6 := by
    intro r hr'
    obtain ⟨j, hj, rfl⟩ := List.getElem_of_mem hr'
    obtain ⟨bv, hc, _⟩ := hr j ds[j] rows[j] (by simp) (by simp)
    rw [hc]; rfl
  obtain ⟨g, rfl, hb, hc⟩ := own_at ho hall hl i hi
  obtain ⟨bv, hcs, hbv⟩ := hr i ds[i] rows[i] (by simp) (by simp)
  have e : rows.getD i [] = rows[i] := by simp [show i < rows.length by omega]
  rw [e, hcs] at hc
  obtain ⟨bo, bcap, rfl⟩ := own_form hbv
  exact ⟨g, bo, bcap, rfl, (ho.lt g rfl).2, hc 0 (by decide), hc 1 (by decide), hc 2 (by decide), hc 3 (by decide), hc 4 (by decide), hc 5 (by decide), hbv⟩
theorem Bld.lib {w : World} {B b : Nat} {l : List UInt8} (h : Bld w B b l) : Lib.IsBuilderF 134 5 B b (Lib.byteCells l) w := by
  obtain ⟨p, v, h1, h2, h3, h4⟩ := h
  have hA : ∀ p, Blk w b [p, v] 134 → Lib.BuilderAtF 134 5 B b p (Lib.byteCells l) w := fun p hp =>
    Lib.BuilderAtF.of ⟨h4, v, hp, by rw [Lib.byteCells_length]; exact h3, own_ne h3 hp (by decide)⟩
  rcases h2 with rfl | rfl
  · exact .inl (hA _ h1)
  · exact .inr (hA _ h1)
theorem shown_len (d : ClD) (h : d.WF) : d.shown.length ≤ 400 := by
  have hh := h.words (d.name, d.ts) (by simp [ClD.atoms])
  have h1 := showA_len d.name d.ts hh.1 hh.2.1 hh.2.2
  have key : ∀ (ls : List LitD) (i : Nat), (∀ l ∈ ls, l ∈ d.lits) → (showB i ls).length ≤ 70 * ls.length := by
    intro ls
    induction ls with
    | nil => intro i _; simp [showB]
    | cons a r ih =>
      intro i hm
      have ha := h.words (a.name, a.ts) (by simp only [ClD.atoms, List.mem_cons, List.mem_map]; exact .inr ⟨a, hm a (by simp), rfl⟩)
      have h2 := showA_len a.name a.ts ha.1 ha.2.1 ha.2.2
      have h3 := ih (i + 1) (fun l hl => hm l (by simp [hl]))
      have h4 : (showL i a).length ≤ 63 := by
        unfold showL
        split <;> split <;> simp <;> omega
      simp only [showB, List.length_append, List.length_cons]
      omega
  have h5 := key d.lits 0 (fun l hl => hl)
  have h6 := h.lits
  simp only [ClD.shown, List.length_append, List.length_cons, List.length_nil]
  omega

set_option maxHeartbeats 2000000 in
set_option maxRecDepth 100000 in
theorem printProgram_c (w : World) (base : Nat) (ao : Option Addr) (cap : Nat) (ds : List ClD) (hP : ClausesIs w base (.slice ao ds.length cap) ds) (hW : ∀ d ∈ ds, d.WF) (hn : ds.length ≤ 40) :
    Calls Tryz.prog 35 #[.slice ao ds.length cap] w fun e w' => e = .returned (.string (bs (shownAll ds))) ∧ Below w.heap.size w w' := by
  go_enter Tryz.func35, Tryz.ntmps35
  go_wp2
  go_loopw [8] (fun kv wr => ∃ (k : Nat), k ≤ ds.length ∧ kv = .int .i64 k ∧ (shownAll (ds.take k)).length ≤ 401 * k ∧ Bld wr w.heap.size w.heap.size (shownAll (ds.take k)) ∧ KeptX w.heap.size w.heap.size [5] w wr) (fun kv _ => ds.length - (intOf kv).toNat)
  case atStart =>
    exact ⟨0, by omega, rfl, by simp [shownAll], ⟨.pointer none, .slice none 0 0, Blk.new w [.pointer none, .slice none 0 0] 134, .inl rfl, World.ownsRow_nil _ _ _ _, Nat.le_refl _⟩, KeptX.alloc _ _ (Nat.le_refl _)⟩
  case round =>
    obtain ⟨k, hk, rfl, hlk, hb, hX⟩ := hrel
    have hB : Below w.heap.size w wr := hX.toBelow (Nat.le_refl _)
    have hbw := hb.lt
    by_cases hlt : k < ds.length
    · obtain ⟨g, bo, bcap, hao, hg, e0, e1, e2, e3, e4, e5, hLb⟩ := clause_at hP k hlt
      subst hao
      have hwf := hW ds[k] (List.getElem_mem hlt)
      have HT := hid (show shownAll (ds.take (k + 1)) = shownAll (ds.take k) ++ ds[k].shown ++ [10] by unfold shownAll; rw [List.take_succ_eq_append_getElem hlt, List.flatMap_append, List.flatMap_singleton, List.append_assoc])
      generalize ds[k] = d at *
      generalize shownAll (ds.take k) = acc at *
      have hsl := shown_len d hwf
      rw [← hB.cell (p := ⟨g, k * 6, none⟩) hg] at e0
      rw [← hB.cell (p := ⟨g, k * 6 + 1, none⟩) hg] at e1
      rw [← hB.cell (p := ⟨g, k * 6 + 2, none⟩) hg] at e2
      rw [← hB.cell (p := ⟨g, k * 6 + 3, none⟩) hg] at e3
      rw [← hB.cell (p := ⟨g, k * 6 + 4, none⟩) hg] at e4
      rw [← hB.cell (p := ⟨g, k * 6 + 5, none⟩) hg] at e5
      have HPC : Hid (∀ W : World, Bld W w.heap.size w.heap.size acc → w.heap.size ≤ W.heap.size → W.ownsRow base 186 6 (.slice bo d.lits.length bcap) d.lits.length (d.lits.flatMap LitD.cells) → Calls Tryz.prog 65 #[.pointer (some ⟨w.heap.size, 0, none⟩), .agg #[.string d.nm, .int .i64 d.cn, .string (d.t 0), .string (d.t 1), .string (d.t 2), .slice bo d.lits.length bcap]] W fun e w' => e = .returned (.tuple #[]) ∧ Bld w' w.heap.size w.heap.size (acc ++ d.shown) ∧ KeptX w.heap.size w.heap.size [5] W w') :=
        fun W h1 h2 h3 => printClause_c W w.heap.size w.heap.size base acc d bo bcap h1 h2 (by omega) hwf h3
      go_wp2_with (first
        | (go_at_call 65; refine (HPC.out _ (by exact hb.alloc _) (by simp; omega) (by exact (own_below hLb hB).alloc _)).mono ?_; rintro e w1 ⟨rfl, hb1, hX1⟩; have hs1 := hX1.size)
        | (go_at_call 66; refine (writeByte_c _ w.heap.size w.heap.size (acc ++ d.shown) 10 _ rfl (by exact hb1) (by simp at hs1; omega) (by simp; omega)).mono ?_; rintro e w2 ⟨rfl, hb2, hX2⟩))
      exact ⟨⟨k + 1, hlt, by go_num, by rw [HT.out]; simp; omega, by rw [HT.out]; exact hb2, ((hX.trans (KeptX.alloc _ _ (by omega))).trans hX1).trans hX2⟩, by simp [intOf]; omega⟩
    · have hke : k = ds.length := by omega
      have HS := hid (show shownAll ds = shownAll (ds.take k) by rw [hke, List.take_length])
      clear hke
      go_wp2_with (go_at_call 67; refine (Tryz.Builder_String_any_k w.heap.size w.heap.size _ _ hb.lib (by omega)).mono ?_; rintro e w1 ⟨rfl, hb1, hB1, -⟩)
      go_ret
      rw [HS.out]
      exact ⟨rfl, hB.trans hB1⟩

set_option maxHeartbeats 400000 in
theorem print_c (w : World) (base bb : Nat) (ds : List ClD) (h : BaseIs w base bb ds) (hW : ∀ d ∈ ds, d.WF) (hn : ds.length ≤ 40) :
    Calls Tryz.prog 14 #[.pointer (some ⟨bb, 0, none⟩)] w fun e w' => e = .returned (.string (bs (shownAll ds))) ∧ Below w.heap.size w w' := by
  obtain ⟨v, h1, h2⟩ := h
  obtain ⟨ao, cap, rfl⟩ := h2.form
  have c0 : w.cell? ⟨bb, 0, none⟩ = some (.slice ao ds.length cap) := h1.cell 0
  go_enter Tryz.func14, Tryz.ntmps14
  go_wp2_with (go_at_call 35; refine (printProgram_c _ base ao cap ds (by exact h2) hW hn).mono ?_; rintro e w1 ⟨rfl, hB1⟩)
  go_ret
  exact ⟨rfl, hB1⟩

end Go.Proofs.YtpbfiffgcgnidaaGreatDoor

namespace Go.Proofs.YtpbfiffgcgnidaaGreatDoor
open Go.RowKit Go.WideMaps Go.Maps
attribute [local go_sem] drewN_alloc drewN_setCell

def cntStep (c : List (List UInt8) × List Nat) (a : List UInt8 × Nat) : List (List UInt8) × List Nat := if hasW c.1 a.1 = true then c else (c.1 ++ [a.1], c.2 ++ [a.2])
def ClD.pairs (d : ClD) : List (List UInt8 × Nat) := d.atoms.map fun a => (a.1, a.2.length)
def cntGo (c : List (List UInt8) × List Nat) (l : List (List UInt8 × Nat)) : List (List UInt8) × List Nat := l.foldl cntStep c
def countsR (ds : List ClD) : List (List UInt8) × List Nat := cntGo ([], []) (ds.flatMap ClD.pairs)
theorem pairs_at (d : ClD) (j : Nat) (h : j < d.atoms.length) : d.pairs.drop j = (d.atoms[j].1, d.atoms[j].2.length) :: d.pairs.drop (j + 1) := by
  have hl : j < d.pairs.length := by simpa [ClD.pairs] using h
  rw [List.drop_eq_getElem_cons hl]
  simp [ClD.pairs]

set_option maxHeartbeats 4000000 in
set_option maxRecDepth 100000 in
theorem countsOf_c (w : World) (base : Nat) (ao : Option Addr) (cap : Nat) (ds : List ClD) (hP : ClausesIs w base (.slice ao ds.length cap) ds) (hW : ∀ d ∈ ds, d.WF) (hn : ds.length ≤ 40) :
    Calls Tryz.prog 105 #[.slice ao ds.length cap] w fun e w' => ∃ mv lv cv, e = .returned (.pointer (some ⟨w.heap.size, 0, none⟩)) ∧ Blk w' w.heap.size [mv, lv, cv] 180 ∧ CountsIs w' w.heap.size mv lv cv (countsR ds).1 (countsR ds).2 ∧ (countsR ds).1.length ≤ 200 ∧ Below w.heap.size w w' := by
  go_enter Tryz.func105, Tryz.ntmps105
  go_wp2
  go_loopw [12] (fun i wr => ∃ (k : Nat) (xs : List (List UInt8)) (ns : List Nat) (mv lv cv : Value), k ≤ ds.length ∧ i = .int .i64 k ∧ xs.length ≤ 5 * k ∧ Hid (cntGo (xs, ns) ((ds.drop k).flatMap ClD.pairs) = countsR ds) ∧
    Blk wr w.heap.size [mv, lv, cv] 180 ∧ CountsIs wr w.heap.size mv lv cv xs ns ∧ Below w.heap.size w wr) (fun i _ => ds.length - (intOf i).toNat)
  case atStart =>
    exact ⟨0, [], [], .map none, .slice none 0 0, .slice none 0 0, by omega, rfl, by simp, rfl, Blk.new w zC 180, ⟨⟨World.ownsRow_nil _ _ _ _, .inl ⟨rfl, rfl⟩⟩, rfl, World.ownsRow_nil _ _ _ _⟩, (Below.refl _ _).alloc (Nat.le_refl _) _⟩
  case round =>
    obtain ⟨k, xs, ns, mv, lv, cv, hk, rfl, hxl, HX, hC, hCI, hB⟩ := hrel
    by_cases hlt : k < ds.length
    · obtain ⟨g, bo, bcap, hao, hg, e0, e1, e2, e3, e4, e5, hLb⟩ := clause_at hP k hlt
      subst hao
      have hwf := hW ds[k] (List.getElem_mem hlt)
      have HD : Hid ((ds.drop k).flatMap ClD.pairs = ds[k].pairs ++ (ds.drop (k + 1)).flatMap ClD.pairs) := by
        show (ds.drop k).flatMap ClD.pairs = _
        rw [List.drop_eq_getElem_cons hlt]; rfl
      generalize ds[k] = d at *
      have hbw : w.heap.size < wr.heap.size := hC.lt
      have hl4 := hwf.lits
      rw [← hB.cell (p := ⟨g, k * 6, none⟩) hg] at e0
      rw [← hB.cell (p := ⟨g, k * 6 + 1, none⟩) hg] at e1
      rw [← hB.cell (p := ⟨g, k * 6 + 2, none⟩) hg] at e2
      rw [← hB.cell (p := ⟨g, k * 6 + 3, none⟩) hg] at e3
      rw [← hB.cell (p := ⟨g, k * 6 + 4, none⟩) hg] at e4
      rw [← hB.cell (p := ⟨g, k * 6 + 5, none⟩) hg] at e5
      have hBr : Below wr.heap.size wr (wr.alloc (.cells #[Value.string d.nm, .int .i64 d.cn, .string (d.t 0), .string (d.t 1), .string (d.t 2), .slice bo d.lits.length bcap] 86)) := below_alloc _ _
      go_wp2_with (go_at_call 91; refine (atoms_c _ base d.nm (d.t 0) (d.t 1) (d.t 2) d.cn bo bcap d.name d.ts d.lits rfl (by exact (own_below hLb hB).alloc _) (by omega)).mono ?_; rintro e w1 ⟨ga, capa, rfl, hA1, hB1⟩)
      clear e0 e1 e2 e3 e4 e5
      have hC1 := (hC.alloc _).below hB1
      have hCI1 := (hCI.below hBr).below hB1
      have hBw1 : Below w.heap.size w w1 := (hB.alloc (by omega) _).trans (hB1.mono (by simp; omega))
      clear hBr hC hCI hB hB1
      simp only [World.size_alloc] at hA1
      generalize wr.heap.size = R at *
      go_loopw [19] (fun jv wr => ∃ (j : Nat) (xs : List (List UInt8)) (ns : List Nat) (mv lv cv : Value), j ≤ d.lits.length + 1 ∧ jv = .int .i64 j ∧ xs.length ≤ 5 * k + j ∧ Hid (cntGo (xs, ns) (d.pairs.drop j ++ (ds.drop (k + 1)).flatMap ClD.pairs) = countsR ds) ∧
        Blk wr w.heap.size [mv, lv, cv] 180 ∧ CountsIs wr w.heap.size mv lv cv xs ns ∧
        wr.ownsRow (R + 1) 80 5 (.slice (some ⟨ga, 0, none⟩) (d.lits.length + 1) capa) (d.lits.length + 1) (d.atoms.flatMap atomC) ∧ Below w.heap.size w wr) (fun jv _ => d.lits.length + 1 - (intOf jv).toNat)
      case atStart =>
        refine ⟨0, xs, ns, mv, lv, cv, by omega, rfl, by omega, ?_, hC1, hCI1, ?_, hBw1⟩
        · show cntGo (xs, ns) (d.pairs.drop 0 ++ _) = countsR ds
          rw [← HX.out, HD.out]; rfl
        · exact hA1
      case round =>
        clear hC1 hCI1 hBw1 hA1 HX hxl
        obtain ⟨j, xs, ns, mv, lv, cv, hj, rfl, hxl, HX, hC, hCI, hA, hB⟩ := hrel
        have hbw1 : w.heap.size < wr.heap.size := hC.lt
        have hal : d.atoms.length = d.lits.length + 1 := by simp [ClD.atoms]
        by_cases hjl : j < d.lits.length + 1
        · obtain ⟨a0, a1, a2, a3, a4⟩ := atom_at hA hal j (by omega)
          have hdrop := pairs_at d j (by omega)
          have hkl := (hwf.words _ (List.getElem_mem (show j < d.atoms.length by omega))).1
          obtain ⟨a, ha⟩ : ∃ a, d.atoms[j] = a := ⟨_, rfl⟩
          simp only [ha] at a0 a1 a2 a3 a4 hdrop hkl
          have HDR := hid hdrop
          clear ha hdrop
          obtain ⟨nm, ts⟩ := a
          have a0' : wr.cell? ⟨ga, j * 5, none⟩ = some (.string (bs nm)) := a0
          have a1' : wr.cell? ⟨ga, j * 5 + 1, none⟩ = some (.int .i64 (ts.length : Nat)) := a1
          clear a0 a1
          have hkm : nm.length ≤ maxLen := by unfold maxLen; simp only [] at hkl; omega
          have hbe : Below wr.heap.size wr (wr.alloc (.cells #[Value.string (bs nm), .int .i64 (ts.length : Nat), .string (atT (nm, ts) 0), .string (atT (nm, ts) 1), .string (atT (nm, ts) 2)] 80)) := below_alloc _ _
          cases hx : hasW xs nm
          · have HN : Hid (cntGo (xs ++ [nm], ns ++ [ts.length]) (d.pairs.drop (j + 1) ++ (ds.drop (k + 1)).flatMap ClD.pairs) = countsR ds) := by
              show _ = _
              rw [← HX.out, HDR.out]; simp [cntGo, cntStep, hx]
            go_wp2_with (go_at_call 92; refine (fits_new _ w.heap.size w.heap.size mv lv cv xs ns nm ts.length _ _ _ (by exact hC.alloc _) (by exact hCI.below hbe) hkm hx (by omega) (by simp; omega)).mono ?_; rintro e w2 ⟨rfl, mv', lv', cv', hC2, hCI2, hX2⟩)
            have hB2 : Below w.heap.size w w2 := (hB.trans (hbe.mono (by omega))).trans (hX2.toBelow (Nat.le_refl _))
            exact ⟨⟨j + 1, xs ++ [nm], ns ++ [ts.length], mv', lv', cv', hjl, by go_num, by simp; omega, HN, hC2, hCI2, hX2.own (hA.alloc _) (own_ne hA hC (by decide)) (by decide), hB2⟩, by simp [intOf]; omega⟩
          · have HN : Hid (cntGo (xs, ns) (d.pairs.drop (j + 1) ++ (ds.drop (k + 1)).flatMap ClD.pairs) = countsR ds) := by
              show _ = _
              rw [← HX.out, HDR.out]; simp [cntGo, cntStep, hx]
            go_wp2_with (go_at_call 92; refine (fits_old _ w.heap.size w.heap.size mv lv cv xs ns nm _ _ _ _ (by exact hC.alloc _) (by exact hCI.below hbe) hkm hx).mono ?_; rintro e w2 ⟨rfl, hB2⟩)
            have hBB := hbe.trans (hB2.mono (by simp))
            exact ⟨⟨j + 1, xs, ns, mv, lv, cv, hjl, by go_num, by omega, HN, hC.below hBB, hCI.below hBB, own_below hA hBB, hB.trans (hBB.mono (by omega))⟩, by simp [intOf]; omega⟩
        · have hje : j = d.lits.length + 1 := by omega
          have HN : Hid (cntGo (xs, ns) ((ds.drop (k + 1)).flatMap ClD.pairs) = countsR ds) := by
            show _ = _
            rw [← HX.out, hje]
            have : d.pairs.drop (d.lits.length + 1) = [] := by apply List.drop_eq_nil_of_le; simp [ClD.pairs, ClD.atoms]
            rw [this, List.nil_append]
          clear hje
          go_wp2
          exact ⟨⟨k + 1, xs, ns, mv, lv, cv, hlt, by go_num, by omega, HN, hC, hCI, hB⟩, by simp [intOf]; omega⟩
    · have hke : k = ds.length := by omega
      have HE : Hid ((xs, ns) = countsR ds) := by
        show _ = _
        rw [← HX.out, hke, List.drop_length]; rfl
      clear hke
      go_wp2
      go_ret
      rw [← HE.out]
      exact ⟨mv, lv, cv, rfl, hC, hCI, by simp only []; omega, hB⟩

end Go.Proofs.YtpbfiffgcgnidaaGreatDoor
