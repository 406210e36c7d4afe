/-
  OUR OWN. Printing: a program, a base.
-/
import Derived.Test.YtpbfiffgcgnidaaPrintC
namespace Go.Proofs.Ytpbfiffgcgnidaa
open Go.RowKit Go.WideMaps Go.Maps
attribute [local go_sem] drewN_alloc drewN_setCell

theorem clause_at {w : World} {base : Nat} {ao : Option Addr} {cap : Nat} {ds : List ClD} (h : ClausesIs w base (.slice ao ds.length cap) ds) (i : Nat) (hi : i < ds.length) :
    ∃ g bo bcap, ao = some ⟨g, 0, none⟩ ∧ g < w.heap.size ∧ w.cell? ⟨g, i * 6, none⟩ = some (.string ds[i].nm) ∧ w.cell? ⟨g, i * 6 + 1, none⟩ = some (.int .i64 ds[i].cn) ∧ w.cell? ⟨g, i * 6 + 2, none⟩ = some (.string (ds[i].t 0)) ∧
      w.cell? ⟨g, i * 6 + 3, none⟩ = some (.string (ds[i].t 1)) ∧ w.cell? ⟨g, i * 6 + 4, none⟩ = some (.string (ds[i].t 2)) ∧ w.cell? ⟨g, i * 6 + 5, none⟩ = some (.slice bo ds[i].lits.length bcap) ∧
      w.ownsRow base 90 6 (.slice bo ds[i].lits.length bcap) ds[i].lits.length (ds[i].lits.flatMap LitD.cells) := by
  obtain ⟨rows, ho, hl, hr⟩ := h
  have hall : ∀ r ∈ rows, r.length = 6 := by
    intro r hr'
    obtain ⟨j, hj, rfl⟩ := List.getElem_of_mem hr'
    obtain ⟨bv, hc, _⟩ := hr j ds[j] rows[j] (by simp) (by simp)
    rw [hc]; rfl
  obtain ⟨g, rfl, hb, hc⟩ := own_at ho hall hl i hi
  obtain ⟨bv, hcs, hbv⟩ := hr i ds[i] rows[i] (by simp) (by simp)
  have e : rows.getD i [] = rows[i] := by simp [show i < rows.length by omega]
  rw [e, hcs] at hc
  obtain ⟨bo, bcap, rfl⟩ := own_form hbv
  exact ⟨g, bo, bcap, rfl, (ho.lt g rfl).2, hc 0 (by decide), hc 1 (by decide), hc 2 (by decide), hc 3 (by decide), hc 4 (by decide), hc 5 (by decide), hbv⟩
theorem Bld.lib {w : World} {B b : Nat} {l : List UInt8} (h : Bld w B b l) : Lib.IsBuilderF 66 5 B b (Lib.byteCells l) w := by
  obtain ⟨p, v, h1, h2, h3, h4⟩ := h
  have hA : ∀ p, Blk w b [p, v] 66 → Lib.BuilderAtF 66 5 B b p (Lib.byteCells l) w := fun p hp =>
    Lib.BuilderAtF.of ⟨h4, v, hp, by rw [Lib.byteCells_length]; exact h3, own_ne h3 hp (by decide)⟩
  rcases h2 with rfl | rfl
  · exact .inl (hA _ h1)
  · exact .inr (hA _ h1)
theorem shown_len (d : ClD) (h : d.WF) : d.shown.length ≤ 400 := by
  have hh := h.words (d.name, d.ts) (by simp [ClD.atoms])
  have h1 := showA_len d.name d.ts hh.1 hh.2.1 hh.2.2
  have key : ∀ (ls : List LitD) (i : Nat), (∀ l ∈ ls, l ∈ d.lits) → (showB i ls).length ≤ 70 * ls.length := by
    intro ls
    induction ls with
    | nil => intro i _; simp [showB]
    | cons a r ih =>
      intro i hm
      have ha := h.words (a.name, a.ts) (by simp only [ClD.atoms, List.mem_cons, List.mem_map]; exact .inr ⟨a, hm a (by simp), rfl⟩)
      have h2 := showA_len a.name a.ts ha.1 ha.2.1 ha.2.2
      have h3 := ih (i + 1) (fun l hl => hm l (by simp [hl]))
      have h4 : (showL i a).length ≤ 63 := by
        unfold showL
        split <;> split <;> simp <;> omega
      simp only [showB, List.length_append, List.length_cons]
      omega
  have h5 := key d.lits 0 (fun l hl => hl)
  have h6 := h.lits
  simp only [ClD.shown, List.length_append, List.length_cons, List.length_nil]
  omega

set_option maxHeartbeats 2000000 in
set_option maxRecDepth 100000 in
theorem printProgram_c (w : World) (base : Nat) (ao : Option Addr) (cap : Nat) (ds : List ClD) (hP : ClausesIs w base (.slice ao ds.length cap) ds) (hW : ∀ d ∈ ds, d.WF) (hn : ds.length ≤ 40) :
    Calls Try.prog 16 #[.slice ao ds.length cap] w fun e w' => e = .returned (.string (bs (shownAll ds))) ∧ Below w.heap.size w w' := by
  go_enter Try.func16, Try.ntmps16
  go_wp2
  go_loopw [8] (fun kv wr => ∃ (k : Nat), k ≤ ds.length ∧ kv = .int .i64 k ∧ (shownAll (ds.take k)).length ≤ 401 * k ∧ Bld wr w.heap.size w.heap.size (shownAll (ds.take k)) ∧ KeptX w.heap.size w.heap.size [5] w wr) (fun kv _ => ds.length - (intOf kv).toNat)
  case atStart =>
    exact ⟨0, by omega, rfl, by simp [shownAll], ⟨.pointer none, .slice none 0 0, Blk.new w [.pointer none, .slice none 0 0] 66, .inl rfl, World.ownsRow_nil _ _ _ _, Nat.le_refl _⟩, KeptX.alloc _ _ (Nat.le_refl _)⟩
  case round =>
    obtain ⟨k, hk, rfl, hlk, hb, hX⟩ := hrel
    have hB : Below w.heap.size w wr := hX.toBelow (Nat.le_refl _)
    have hbw := hb.lt
    by_cases hlt : k < ds.length
    · obtain ⟨g, bo, bcap, hao, hg, e0, e1, e2, e3, e4, e5, hLb⟩ := clause_at hP k hlt
      subst hao
      have hwf := hW ds[k] (List.getElem_mem hlt)
      have HT := hid (show shownAll (ds.take (k + 1)) = shownAll (ds.take k) ++ ds[k].shown ++ [10] by unfold shownAll; rw [List.take_succ_eq_append_getElem hlt, List.flatMap_append, List.flatMap_singleton, List.append_assoc])
      generalize ds[k] = d at *
      generalize shownAll (ds.take k) = acc at *
      have hsl := shown_len d hwf
      rw [← hB.cell (p := ⟨g, k * 6, none⟩) hg] at e0
      rw [← hB.cell (p := ⟨g, k * 6 + 1, none⟩) hg] at e1
      rw [← hB.cell (p := ⟨g, k * 6 + 2, none⟩) hg] at e2
      rw [← hB.cell (p := ⟨g, k * 6 + 3, none⟩) hg] at e3
      rw [← hB.cell (p := ⟨g, k * 6 + 4, none⟩) hg] at e4
      rw [← hB.cell (p := ⟨g, k * 6 + 5, none⟩) hg] at e5
      have HPC : Hid (∀ W : World, Bld W w.heap.size w.heap.size acc → w.heap.size ≤ W.heap.size → W.ownsRow base 90 6 (.slice bo d.lits.length bcap) d.lits.length (d.lits.flatMap LitD.cells) → Calls Try.prog 24 #[.pointer (some ⟨w.heap.size, 0, none⟩), .agg #[.string d.nm, .int .i64 d.cn, .string (d.t 0), .string (d.t 1), .string (d.t 2), .slice bo d.lits.length bcap]] W fun e w' => e = .returned (.tuple #[]) ∧ Bld w' w.heap.size w.heap.size (acc ++ d.shown) ∧ KeptX w.heap.size w.heap.size [5] W w') :=
        fun W h1 h2 h3 => printClause_c W w.heap.size w.heap.size base acc d bo bcap h1 h2 (by omega) hwf h3
      go_wp2_with (first
        | (go_at_call 24; refine (HPC.out _ (by exact hb.alloc _) (by simp; omega) (by exact (own_below hLb hB).alloc _)).mono ?_; rintro e w1 ⟨rfl, hb1, hX1⟩; have hs1 := hX1.size)
        | (go_at_call 25; refine (writeByte_c _ w.heap.size w.heap.size (acc ++ d.shown) 10 _ rfl (by exact hb1) (by simp at hs1; omega) (by simp; omega)).mono ?_; rintro e w2 ⟨rfl, hb2, hX2⟩))
      exact ⟨⟨k + 1, hlt, by go_num, by rw [HT.out]; simp; omega, by rw [HT.out]; exact hb2, ((hX.trans (KeptX.alloc _ _ (by omega))).trans hX1).trans hX2⟩, by simp [intOf]; omega⟩
    · have hke : k = ds.length := by omega
      have HS := hid (show shownAll ds = shownAll (ds.take k) by rw [hke, List.take_length])
      clear hke
      go_wp2_with (go_at_call 26; refine (Try.Builder_String_any_k w.heap.size w.heap.size _ _ hb.lib (by omega)).mono ?_; rintro e w1 ⟨rfl, hb1, hB1, -⟩)
      go_ret
      rw [HS.out]
      exact ⟨rfl, hB.trans hB1⟩

set_option maxHeartbeats 400000 in
theorem print_c (w : World) (base bb : Nat) (ds : List ClD) (h : BaseIs w base bb ds) (hW : ∀ d ∈ ds, d.WF) (hn : ds.length ≤ 40) :
    Calls Try.prog 10 #[.pointer (some ⟨bb, 0, none⟩)] w fun e w' => e = .returned (.string (bs (shownAll ds))) ∧ Below w.heap.size w w' := by
  obtain ⟨v, h1, h2⟩ := h
  obtain ⟨ao, cap, rfl⟩ := h2.form
  have c0 : w.cell? ⟨bb, 0, none⟩ = some (.slice ao ds.length cap) := h1.cell 0
  go_enter Try.func10, Try.ntmps10
  go_wp2_with (go_at_call 16; refine (printProgram_c _ base ao cap ds (by exact h2) hW hn).mono ?_; rintro e w1 ⟨rfl, hB1⟩)
  go_ret
  exact ⟨rfl, hB1⟩

end Go.Proofs.Ytpbfiffgcgnidaa
