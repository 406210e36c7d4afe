/-
  OUR OWN. Load.
-/
import Derived.Test.YtjnmakbkceaemaaWf
import Derived.Deep.CutRange
namespace Go.Proofs.Ytjnmakbkceaemaa
open Go.RowKit Go.WideMaps Go.Maps
attribute [local go_sem] drewN_alloc drewN_setCell

/-- A clause of a base: six cells. -/
def KeptIs (w : World) (base : Nat) (d : ClD) (cs : List Value) : Prop := ∃ bv, cs = atomCells d.name d.ts ++ [bv] ∧ w.ownsRow base 89 6 bv d.lits.length (d.lits.flatMap LitD.cells)
/-- A base's clauses in their row. -/
def ClausesIs (w : World) (base : Nat) (v : Value) (ds : List ClD) : Prop :=
  ∃ rows : List (List Value), w.ownsRow base 54 6 v ds.length rows.flatten ∧ rows.length = ds.length ∧ ∀ (i : Nat) (d : ClD) (cs : List Value), ds[i]? = some d → rows[i]? = some cs → KeptIs w base d cs
def BaseIs (w : World) (base bb : Nat) (ds : List ClD) : Prop := ∃ v, Blk w bb [v] 45 ∧ ClausesIs w base v ds

theorem KeptIs.below {w w' : World} {base : Nat} {d : ClD} {cs : List Value} (h : KeptIs w base d cs) (hb : Below w.heap.size w w') : KeptIs w' base d cs := by
  obtain ⟨bv, hc, hl⟩ := h
  exact ⟨bv, hc, own_below hl hb⟩
theorem ClausesIs.below {w w' : World} {base : Nat} {v : Value} {ds : List ClD} (h : ClausesIs w base v ds) (hb : Below w.heap.size w w') : ClausesIs w' base v ds := by
  obtain ⟨rows, ho, hl, hr⟩ := h
  exact ⟨rows, own_below ho hb, hl, fun i d cs hd hc => (hr i d cs hd hc).below hb⟩
theorem BaseIs.below {w w' : World} {base bb : Nat} {ds : List ClD} (h : BaseIs w base bb ds) (hb : Below w.heap.size w w') : BaseIs w' base bb ds := by
  obtain ⟨v, h1, h2⟩ := h
  exact ⟨v, h1.below hb, h2.below hb⟩
theorem KeptIs.set {w : World} {base : Nat} {d : ClD} {cs : List Value} (h : KeptIs w base d cs) {b : Nat} {bcs : List Value} {t : TypeId} (hb : Blk w b bcs t) (ht : t ≠ 89) (o : Nat) (x : Value) : KeptIs (w.setCell ⟨b, o, none⟩ x) base d cs := by
  obtain ⟨bv, hc, hl⟩ := h
  exact ⟨bv, hc, own_set hl ⟨b, o, none⟩ x (own_ne hl hb ht)⟩
theorem ClausesIs.set {w : World} {base : Nat} {v : Value} {ds : List ClD} (h : ClausesIs w base v ds) {b : Nat} {bcs : List Value} {t : TypeId} (hb : Blk w b bcs t) (h1 : t ≠ 54) (h2 : t ≠ 89) (o : Nat) (x : Value) : ClausesIs (w.setCell ⟨b, o, none⟩ x) base v ds := by
  obtain ⟨rows, ho, hl, hr⟩ := h
  exact ⟨rows, own_set ho ⟨b, o, none⟩ x (own_ne ho hb h1), hl, fun i d cs hd hc => (hr i d cs hd hc).set hb h2 o x⟩
theorem ClausesIs.nil (w : World) (base : Nat) : ClausesIs w base (.slice none 0 0) [] := ⟨[], World.ownsRow_nil _ _ _ _, rfl, by simp⟩
theorem ClausesIs.form {w : World} {base : Nat} {v : Value} {ds : List ClD} (h : ClausesIs w base v ds) : ∃ ao cap, v = .slice ao ds.length cap := by
  obtain ⟨rows, ho, hl, hr⟩ := h
  exact own_form ho
/-- One clause more. -/
theorem ClausesIs.more {w w' : World} {base : Nat} {v v' : Value} {ds : List ClD} {d : ClD} {cs : List Value} {rows : List (List Value)} (hr : ∀ (i : Nat) (d : ClD) (cs : List Value), ds[i]? = some d → rows[i]? = some cs → KeptIs w base d cs) (hl : rows.length = ds.length)
    (ho : w.ownsRow base 54 6 v ds.length rows.flatten) (hd : KeptIs w base d cs)
    (ho' : w'.ownsRow base 54 6 v' (ds.length + 1) (rows.flatten ++ cs)) (hg : w.grownBy w' v.ownBlock) : ClausesIs w' base v' (ds ++ [d]) := by
  have step : ∀ d cs, KeptIs w base d cs → KeptIs w' base d cs := by
    rintro d cs ⟨bv, hc, hlb⟩
    exact ⟨bv, hc, hlb.kept hg (own_ne2 hlb ho (by decide))⟩
  refine ⟨rows ++ [cs], by simpa using ho', by simp [hl], ?_⟩
  intro i d' cs' h1 h2
  by_cases hi : i < ds.length
  · rw [List.getElem?_append_left hi] at h1
    rw [List.getElem?_append_left (by omega)] at h2
    exact step _ _ (hr i d' cs' h1 h2)
  · rw [List.getElem?_append_right (by omega)] at h1
    rw [List.getElem?_append_right (by omega), hl] at h2
    cases hk : i - ds.length with
    | zero => rw [hk] at h1 h2; simp at h1 h2; subst h1; subst h2; exact step _ _ hd
    | succ k => rw [hk] at h1; simp at h1

theorem below_two (w : World) (o1 o2 : Obj) : Below w.heap.size w ((w.alloc o1).alloc o2).drew := (((Below.refl _ w).alloc (Nat.le_refl _) o1).alloc (by simp) o2).drew
theorem own_up {w : World} {base base' : Nat} {e : TypeId} {size g n cap m : Nat} {xs : List Value} (h : w.ownsRow base e size (.slice (some ⟨g, 0, none⟩) n cap) m xs) (hb : base' ≤ g) : w.ownsRow base' e size (.slice (some ⟨g, 0, none⟩) n cap) m xs := by
  refine ⟨h.1, ?_⟩
  rcases h.2 with ⟨h1, _⟩ | ⟨g', cap', cur, hv, hg, r⟩
  · simp at h1
  · refine .inr ⟨g', cap', cur, hv, ?_, r⟩
    simp at hv
    omega
theorem infoClause : (Try.prog.info? 54).map (fun i => (i.zero, i.size, i.bytes)) = some (some (.agg #[.string ⟨#[]⟩, .int .i64 0, .string ⟨#[]⟩, .string ⟨#[]⟩, .string ⟨#[]⟩, .slice none 0 0]), 6, 96) := by kernel_rfl

/-- What Load answers: the error, its place. -/
def loadE (s : ByteArray) : Nat × Nat := if 2000 < s.size then (1, 0) else if (programR s).ok = false then (2, posOf s (programR s).rest) else faultR (programR s).cls

def LoadPost (w : World) (s : ByteArray) (e : Ending) (w' : World) : Prop :=
  (if (loadE s).1 = 0 then ∃ bb, e = .returned (.tuple #[.pointer (some ⟨bb, 0, none⟩), .int .i64 0, .int .i64 0]) ∧ w.heap.size ≤ bb ∧ BaseIs w' w.heap.size bb (programR s).cls
    else e = .returned (.tuple #[.pointer none, .int .i64 (loadE s).1, .int .i64 (loadE s).2])) ∧ Below w.heap.size w w'

theorem fault_zero (ds : List ClD) (h : (faultR ds).1 = 0) : faultR ds = (0, 0) := by
  unfold faultR at *
  split at h
  · simp at h
  · split at h
    · simp at h
    · split at h
      · simp at h
      · rfl

set_option maxHeartbeats 400000 in
theorem load_long (w : World) (s : ByteArray) (hs : s.size ≤ maxLen) (h : 2000 < s.size) : Calls Try.prog 15 #[.string s] w fun e w' => LoadPost w s e w' := by
  have HE := hid (show loadE s = (1, 0) by simp [loadE, h])
  have hs' := hs
  unfold maxLen at hs'
  have hq : (2000 : Int) < (s.size : Int) := by omega
  go_enter Try.func15, Try.ntmps15
  go_wp2
  go_ret3
  unfold LoadPost
  rw [HE.out]
  exact ⟨rfl, Below.refl _ _⟩

set_option maxHeartbeats 400000 in
theorem load_form (w : World) (s : ByteArray) (h : s.size ≤ 2000) (hok : (programR s).ok = false) : Calls Try.prog 15 #[.string s] w fun e w' => LoadPost w s e w' := by
  have HE := hid (show loadE s = (2, posOf s (programR s).rest) by simp [loadE, hok, show ¬ 2000 < s.size by omega])
  have hq : ¬ ((2000 : Int) < (s.size : Int)) := by omega
  go_enter Try.func15, Try.ntmps15
  go_wp2_with (go_at_call 21; refine (readProgram_l _ s (by omega)).mono ?_; rintro e w1 ⟨v, he, -, hB1⟩; simp only [progV, hok] at he; subst he)
  go_ret3
  unfold LoadPost
  rw [HE.out]
  exact ⟨rfl, hB1⟩

set_option maxHeartbeats 400000 in
theorem load_fault (w : World) (s : ByteArray) (h : s.size ≤ 2000) (hok : (programR s).ok = true) (hf : (faultR (programR s).cls).1 ≠ 0) : Calls Try.prog 15 #[.string s] w fun e w' => LoadPost w s e w' := by
  have HE := hid (show loadE s = faultR (programR s).cls by simp [loadE, hok, show ¬ 2000 < s.size by omega])
  have hq : ¬ ((2000 : Int) < (s.size : Int)) := by omega
  have hwf := programR_wf s
  obtain ⟨ds, HD⟩ : ∃ ds, Hid (ds = (programR s).cls) := ⟨_, rfl⟩
  rw [← HD.out] at hf hwf HE
  obtain ⟨f1, hf1⟩ : ∃ f1, (faultR ds).1 = f1 := ⟨_, rfl⟩
  obtain ⟨f2, hf2⟩ : ∃ f2, (faultR ds).2 = f2 := ⟨_, rfl⟩
  have hne : (((f1 : Nat) : Int) != 0) = true := by rw [bne_iff_ne]; omega
  have H1 := hid hf1
  have H2 := hid hf2
  rw [hf1] at hf
  clear hf1 hf2
  go_enter Try.func15, Try.ntmps15
  go_wp2_with (first
    | (go_at_call 21; refine (readProgram_l _ s (by omega)).mono ?_; rintro e w1 ⟨v, he, hPr, hB1⟩; simp only [progV, hok] at he; have hP1 := hPr hok; rw [← HD.out] at hP1; obtain ⟨ao, cap, rfl⟩ := hP1.form; subst he; clear hPr)
    | (go_at_call 22; refine (findFault_c _ w.heap.size ao cap ds (by exact hP1) hwf.2 hwf.1).mono ?_; rintro e w2 ⟨he, hB2⟩; rw [H1.out, H2.out] at he; subst he))
  go_ret3
  unfold LoadPost
  rw [HE.out, H1.out, H2.out, if_neg hf]
  exact ⟨rfl, hB1.trans (hB2.mono hB1.size)⟩

set_option maxHeartbeats 4000000 in
set_option maxRecDepth 100000 in
theorem load_ok (w : World) (s : ByteArray) (h : s.size ≤ 2000) (hok : (programR s).ok = true) (hf : (faultR (programR s).cls).1 = 0) : Calls Try.prog 15 #[.string s] w fun e w' => LoadPost w s e w' := by
  have hf0 := fault_zero _ hf
  have HE := hid (show loadE s = (0, 0) by simp [loadE, hok, hf0, show ¬ 2000 < s.size by omega])
  have hq : ¬ ((2000 : Int) < (s.size : Int)) := by omega
  have hwf := programR_wf s
  obtain ⟨ds, HD⟩ : ∃ ds, Hid (ds = (programR s).cls) := ⟨_, rfl⟩
  rw [← HD.out] at hf0 hwf
  have HF := hid hf0
  clear hf0 hf
  obtain ⟨i1, hi1, hy0, hy1, hy2⟩ := info_parts infoClause
  have hn := hwf.1
  go_enter Try.func15, Try.ntmps15
  go_wp2_with (first
    | (go_at_call 21; refine (readProgram_l _ s (by omega)).mono ?_; rintro e w1 ⟨v, he, hPr, hB1⟩; simp only [progV, hok] at he; have hP1 := hPr hok; rw [← HD.out] at hP1; obtain ⟨ao, cap, rfl⟩ := hP1.form; subst he; clear hPr)
    | (go_at_call 22; refine (findFault_c _ w.heap.size ao cap ds (by exact hP1) hwf.2 hwf.1).mono ?_; rintro e w2 ⟨he, hB2⟩; rw [HF.out] at he; simp only [] at he; subst he))
  have hP2 := hP1.below hB2
  have hBw2 : Below w.heap.size w w2 := hB1.trans (hB2.mono hB1.size)
  clear hP1 hB1 hB2
  have hws := hBw2.size
  go_loopw [38] (fun kv wr => ∃ (k : Nat) (v : Value) (rows : List (List Value)), k ≤ ds.length ∧ kv = .int .i64 k ∧ Blk wr w2.heap.size [v] 45 ∧ wr.ownsRow w2.heap.size 54 6 v k rows.flatten ∧ Hid (rows.length = k) ∧
    (∀ (i : Nat) (d : ClD) (cs : List Value), (ds.take k)[i]? = some d → rows[i]? = some cs → KeptIs wr w.heap.size d cs) ∧ Below w2.heap.size w2 wr) (fun kv _ => ds.length - (intOf kv).toNat)
  case atStart =>
    exact ⟨0, .slice none 0 0, [], by omega, rfl, Blk.new w2 [.slice none 0 0] 45, World.ownsRow_nil _ _ _ _, rfl, by simp, (Below.refl _ _).alloc (Nat.le_refl _) _⟩
  case round =>
    obtain ⟨k, v, rows, hk, rfl, hC, ho, HRL, hr, hB⟩ := hrel
    by_cases hlt : k < ds.length
    · obtain ⟨g, bo, bcap, so, scap, hao, hg, e0, e1, e2, e3, e4, e5, e6, hLb, hSp⟩ := placed_at (hP2.below hB) k hlt
      subst hao
      have hdk0 : (ds.take (k + 1)) = ds.take k ++ [ds[k]] := List.take_succ_eq_append_getElem hlt
      generalize hdk : ds[k] = d at *
      have HDK := hid hdk0
      clear hdk hdk0
      obtain ⟨vo, vcap, rfl⟩ := own_form ho
      have hbw : w2.heap.size < wr.heap.size := hC.lt
      have hbx0 := Blk.new wr [Value.string d.nm, .int .i64 d.cn, .string (d.t 0), .string (d.t 1), .string (d.t 2), .slice bo d.lits.length bcap, .slice so d.spots.length scap] 64
      have c0 : wr.cell? ⟨w2.heap.size, 0, none⟩ = some (.slice vo k vcap) := hC.cell 0
      have fC := hC.frozen
      have hKd : KeptIs wr w.heap.size d [Value.string d.nm, .int .i64 d.cn, .string (d.t 0), .string (d.t 1), .string (d.t 2), .slice bo d.lits.length bcap] := ⟨.slice bo d.lits.length bcap, rfl, hLb⟩
      go_wp2_with fail
      clear e0 e1 e2 e3 e4 e5 e6
      have hown : ∀ o2 o3, (((wr.alloc o2).alloc o3).drew).ownsRow w2.heap.size 54 6 (.slice vo k vcap) k rows.flatten := fun o2 o3 => (ho.alloc o2).alloc o3
      have hnews : ∀ o2, ∀ j u, [Value.string d.nm, .int .i64 d.cn, .string (d.t 0), .string (d.t 1), .string (d.t 2), .slice bo d.lits.length bcap][j]? = some u → (((wr.alloc o2).alloc (.cells #[Value.string d.nm, .int .i64 d.cn, .string (d.t 0), .string (d.t 1), .string (d.t 2), .slice bo d.lits.length bcap] 54)).drew).cell? ((⟨wr.heap.size + 1, 0, none⟩ : Addr).add j) = some u := fun o2 j u h => new_cells2 wr o2 [Value.string d.nm, .int .i64 d.cn, .string (d.t 0), .string (d.t 1), .string (d.t 2), .slice bo d.lits.length bcap] 54 j u h
      have hone : ∀ u ∈ [Value.string d.nm, .int .i64 d.cn, .string (d.t 0), .string (d.t 1), .string (d.t 2), .slice bo d.lits.length bcap], u.oneCell' = true := by
        intro u hu; simp at hu; rcases hu with rfl | rfl | rfl | rfl | rfl | rfl <;> rfl
      have hlm : k + 1 ≤ maxLen := by unfold maxLen; omega
      have hlb : (k + 1) * 96 ≤ 140737488355328 := by omega
      have hBB : ∀ o2 o3, w2.heap.size ≤ (((wr.alloc o2).alloc o3).drew).heap.size := by intro o2 o3; simp; omega
      have hne1 := own_ne ho hC (by decide)
      have hbs := own_base ho
      have hbw1 : w2.heap.size < wr.heap.size + 1 := by omega
      go_region_law (refine step_append_own rfl (.tmp 46) (.tmp 49) 43 rfl w2.heap.size 54 i1 _ 6 96 Try.underlying43 hi1 hy0 hy1 hy2 rfl (by decide) (.slice vo k vcap) k rows.flatten (by simp [Act.eval]) (hown _ _) ⟨wr.heap.size + 1, 0, none⟩ 1 1 [Value.string d.nm, .int .i64 d.cn, .string (d.t 0), .string (d.t 1), .string (d.t 2), .slice bo d.lits.length bcap] (by simp [Act.eval]) (by decide) rfl (hnews _) hone hlm hlb (hBB _ _) ?_; intro g2 cap2 w3 ho3 hg3; have hC3 := ((hC.alloc _).alloc _).drew.grown hg3 hne1; have d0 := hC3.cell 0; have fC3 := hC3.frozen; simp at d0)
      all_goals go_wp2_with fail
      all_goals
        have hkl : (ds.take k).length = k := by simp; omega
        have h2 := fun o2 o3 => below_two wr o2 o3
        have hmore := ClausesIs.more (w := ((wr.alloc _).alloc _).drew) (w' := w3) (base := w.heap.size) (ds := ds.take k) (fun i d cs h1 h3 => (hr i d cs h1 h3).below (h2 _ _)) (by rw [HRL.out, hkl]) (by rw [hkl]; exact own_mono (hown _ _) hws) (hKd.below (h2 _ _)) (by rw [hkl]; exact own_mono ho3 hws) hg3
        have hB3 : Below w2.heap.size w2 w3 := (hB.trans ((h2 _ _).mono (by omega))).grown hg3 (hBB _ _) hbs
        obtain ⟨rows3, hr1, hr2, hr3⟩ := hmore.set hC3 (by decide) (by decide) 0 (.slice (some ⟨g2, 0, none⟩) (k + 1) cap2)
        rw [← HDK.out] at hr1 hr2 hr3
        have hkl2 : (ds.take (k + 1)).length = k + 1 := by simp; omega
        rw [hkl2] at hr1 hr2
        exact ⟨⟨k + 1, _, rows3, hlt, by go_num, hC3.setCell 0 _, own_up hr1 (own_base ho3 g2 rfl), hr2, hr3, hB3.setCell (p := ⟨w2.heap.size, 0, none⟩) (Nat.le_refl _) _⟩, by simp [intOf]; omega⟩
    · have hke : k = ds.length := by omega
      go_wp2
      go_ret3
      unfold LoadPost
      rw [HE.out, ← HD.out]
      subst hke
      rw [List.take_length] at hr
      refine ⟨?_, hBw2.trans (hB.mono hws)⟩
      exact ⟨w2.heap.size, rfl, hws, v, hC, rows, own_mono ho hws, HRL.out, hr⟩

theorem load_c (w : World) (s : ByteArray) (hs : s.size ≤ maxLen) : Calls Try.prog 15 #[.string s] w fun e w' => LoadPost w s e w' := by
  by_cases h : 2000 < s.size
  · exact load_long w s hs h
  · cases hok : (programR s).ok
    · exact load_form w s (by omega) hok
    · by_cases hf : (faultR (programR s).cls).1 = 0
      · exact load_ok w s (by omega) hok hf
      · exact load_fault w s (by omega) hok hf

end Go.Proofs.Ytjnmakbkceaemaa
