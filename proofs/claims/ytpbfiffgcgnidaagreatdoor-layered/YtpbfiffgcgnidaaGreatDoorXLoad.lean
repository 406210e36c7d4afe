/-
  OUR OWN. Load.
-/
import Derived.Test.YtpbfiffgcgnidaaGreatDoorXY1
import Derived.Deep.CutRange
namespace Go.Proofs.YtpbfiffgcgnidaaGreatDoor
open Go.RowKit Go.WideMaps Go.Maps
attribute [local go_sem] drewN_alloc drewN_setCell

/-- A clause of a base: six cells. -/
def KeptIs (w : World) (base : Nat) (d : ClD) (cs : List Value) : Prop := ∃ bv, cs = atomCells d.name d.ts ++ [bv] ∧ w.ownsRow base 186 6 bv d.lits.length (d.lits.flatMap LitD.cells)
/-- A base's clauses in their row. -/
def ClausesIs (w : World) (base : Nat) (v : Value) (ds : List ClD) : Prop :=
  ∃ rows : List (List Value), w.ownsRow base 86 6 v ds.length rows.flatten ∧ rows.length = ds.length ∧ ∀ (i : Nat) (d : ClD) (cs : List Value), ds[i]? = some d → rows[i]? = some cs → KeptIs w base d cs
def BaseIs (w : World) (base bb : Nat) (ds : List ClD) : Prop := ∃ v, Blk w bb [v] 59 ∧ ClausesIs w base v ds

theorem KeptIs.below {w w' : World} {base : Nat} {d : ClD} {cs : List Value} (h : KeptIs w base d cs) (hb : Below w.heap.size w w') : KeptIs w' base d cs := by
  obtain ⟨bv, hc, hl⟩ := h
  exact ⟨bv, hc, own_below hl hb⟩
theorem ClausesIs.below {w w' : World} {base : Nat} {v : Value} {ds : List ClD} (h : ClausesIs w base v ds) (hb : Below w.heap.size w w') : ClausesIs w' base v ds := by
  obtain ⟨rows, ho, hl, hr⟩ := h
  exact ⟨rows, own_below ho hb, hl, fun i d cs hd hc => (hr i d cs hd hc).below hb⟩
theorem BaseIs.below {w w' : World} {base bb : Nat} {ds : List ClD} (h : BaseIs w base bb ds) (hb : Below w.heap.size w w') : BaseIs w' base bb ds := by
  obtain ⟨v, h1, h2⟩ := h
  exact ⟨v, h1.below hb, h2.below hb⟩
theorem KeptIs.set {w : World} {base : Nat} {d : ClD} {cs : List Value} (h : KeptIs w base d cs) {b : Nat} {bcs : List Value} {t : TypeId} (hb : Blk w b bcs t) (ht : t ≠ 186) (o : Nat) (x : Value) : KeptIs (w.setCell ⟨b, o, none⟩ x) base d cs := by
  obtain ⟨bv, hc, hl⟩ := h
  exact ⟨bv, hc, own_set hl ⟨b, o, none⟩ x (own_ne hl hb ht)⟩
theorem ClausesIs.set {w : World} {base : Nat} {v : Value} {ds : List ClD} (h : ClausesIs w base v ds) {b : Nat} {bcs : List Value} {t : TypeId} (hb : Blk w b bcs t) (h1 : t ≠ 86) (h2 : t ≠ 186) (o : Nat) (x : Value) : ClausesIs (w.setCell ⟨b, o, none⟩ x) base v ds := by
  obtain ⟨rows, ho, hl, hr⟩ := h
  exact ⟨rows, own_set ho ⟨b, o, none⟩ x (own_ne ho hb h1), hl, fun i d cs hd hc => (hr i d cs hd hc).set hb h2 o x⟩
theorem ClausesIs.nil (w : World) (base : Nat) : ClausesIs w base (.slice none 0 0) [] := ⟨[], World.ownsRow_nil _ _ _ _, rfl, by simp⟩
theorem ClausesIs.form {w : World} {base : Nat} {v : Value} {ds : List ClD} (h : ClausesIs w base v ds) : ∃ ao cap, v = .slice ao ds.length cap := by
  obtain ⟨rows, ho, hl, hr⟩ := h
  exact own_form ho
/-- One clause more. -/
theorem ClausesIs.more {w w' : World} {base : Nat} {v v' : Value} {ds : List ClD} {d : ClD} {cs : List Value} {rows : List (List Value)} (hr : ∀ (i : Nat) (d : ClD) (cs : List Value), ds[i]? = some d → rows[i]? = some cs → KeptIs w base d cs) (hl : rows.length = ds.length)
    (ho : w.ownsRow base 86 6 v ds.length rows.flatten) (hd : KeptIs w base d cs)
    (ho' : w'.ownsRow base 86 6 v' (ds.length + 1) (rows.flatten ++ cs)) (hg : w.grownBy w' v.ownBlock) : ClausesIs w' base v' (ds ++ [d]) := by
  have step : ∀ d cs, KeptIs w base d cs → KeptIs w' base d cs := by
    rintro d cs ⟨bv, hc, hlb⟩
    exact ⟨bv, hc, hlb.kept hg (own_ne2 hlb ho (by decide))⟩
  refine ⟨rows ++ [cs], by simpa using ho', by simp [hl], ?_⟩
  intro i d' cs' h1 h2
  by_cases hi : i < ds.length
  · rw [List.getElem?_append_left hi] at h1
    rw [List.getElem?_append_left (by omega)] at h2
    exact step _ _ (hr i d' cs' h1 h2)
  · rw [List.getElem?_append_right (by omega)] at h1
    rw [List.getElem?_append_right (by omega), hl] at h2
    cases hk : i - ds.length with
    | zero => rw [hk] at h1 h2; simp at h1 h2; subst h1; subst h2; exact step _ _ hd
    | succ k => rw [hk] at h1; simp at h1

theorem below_two (w : World) (o1 o2 : Obj) : Below w.heap.size w ((w.alloc o1).alloc o2).drew := (((Below.refl _ w).alloc (Nat.le_refl _) o1).alloc (by simp) o2).drew
theorem own_up {w : World} {base base' : Nat} {e : TypeId} {size g n cap m : Nat} {xs : List Value} (h : w.ownsRow base e size (.slice (some ⟨g, 0, none⟩) n cap) m xs) (hb : base' ≤ g) : w.ownsRow base' e size (.slice (some ⟨g, 0, none⟩) n cap) m xs := by
  refine ⟨h.1, ?_⟩
  rcases h.2 with ⟨h1, _⟩ | ⟨g', cap', cur, hv, hg, r⟩
  · simp at h1
  · refine .inr ⟨g', cap', cur, hv, ?_, r⟩
    simp at hv
    omega
theorem infoClause : (Tryz.prog.info? 86).map (fun i => (i.zero, i.size, i.bytes)) = some (some (.agg #[.string ⟨#[]⟩, .int .i64 0, .string ⟨#[]⟩, .string ⟨#[]⟩, .string ⟨#[]⟩, .slice none 0 0]), 6, 96) := by kernel_rfl

/-- What Load answers: the error, its place. -/
def loadE (s : ByteArray) : Nat × Nat := if 2000 < s.size then (1, 0) else if (programR s).ok = false then (2, posOf s (programR s).rest) else faultR (programR s).cls

def LoadPost (w : World) (s : ByteArray) (e : Ending) (w' : World) : Prop :=
  (if (loadE s).1 = 0 then ∃ bb, e = .returned (.tuple #[.pointer (some ⟨bb, 0, none⟩), .int .i64 0, .int .i64 0]) ∧ w.heap.size ≤ bb ∧ BaseIs w' w.heap.size bb (programR s).cls
    else e = .returned (.tuple #[.pointer none, .int .i64 (loadE s).1, .int .i64 (loadE s).2])) ∧ Below w.heap.size w w'

theorem fault_zero (ds : List ClD) (h : (faultR ds).1 = 0) : faultR ds = (0, 0) := by
  unfold faultR at *
  split at h
  · simp at h
  · split at h
    · simp at h
    · split at h
      · simp at h
      · rfl

set_option maxHeartbeats 400000 in
theorem load_long (w : World) (s : ByteArray) (hs : s.size ≤ maxLen) (h : 2000 < s.size) : Calls Tryz.prog 12 #[.string s] w fun e w' => LoadPost w s e w' := by
  have HE := hid (show loadE s = (1, 0) by simp [loadE, h])
  have hs' := hs
  unfold maxLen at hs'
  have hq : (2000 : Int) < (s.size : Int) := by omega
  go_enter Tryz.func12, Tryz.ntmps12
  go_wp2
  go_ret3
  unfold LoadPost
  rw [HE.out]
  exact ⟨rfl, Below.refl _ _⟩

set_option maxHeartbeats 400000 in
theorem load_form (w : World) (s : ByteArray) (h : s.size ≤ 2000) (hok : (programR s).ok = false) : Calls Tryz.prog 12 #[.string s] w fun e w' => LoadPost w s e w' := by
  have HE := hid (show loadE s = (2, posOf s (programR s).rest) by simp [loadE, hok, show ¬ 2000 < s.size by omega])
  have hq : ¬ ((2000 : Int) < (s.size : Int)) := by omega
  go_enter Tryz.func12, Tryz.ntmps12
  go_wp2_with (go_at_call 25; refine (readProgram_l _ s (by omega)).mono ?_; rintro e w1 ⟨v, he, -, hB1⟩; simp only [progV, hok] at he; subst he)
  go_ret3
  unfold LoadPost
  rw [HE.out]
  exact ⟨rfl, hB1⟩

set_option maxHeartbeats 400000 in
theorem load_fault (w : World) (s : ByteArray) (h : s.size ≤ 2000) (hok : (programR s).ok = true) (hf : (faultR (programR s).cls).1 ≠ 0) : Calls Tryz.prog 12 #[.string s] w fun e w' => LoadPost w s e w' := by
  have HE := hid (show loadE s = faultR (programR s).cls by simp [loadE, hok, show ¬ 2000 < s.size by omega])
  have hq : ¬ ((2000 : Int) < (s.size : Int)) := by omega
  have hwf := programR_wf s
  obtain ⟨ds, HD⟩ : ∃ ds, Hid (ds = (programR s).cls) := ⟨_, rfl⟩
  rw [← HD.out] at hf hwf HE
  obtain ⟨f1, hf1⟩ : ∃ f1, (faultR ds).1 = f1 := ⟨_, rfl⟩
  obtain ⟨f2, hf2⟩ : ∃ f2, (faultR ds).2 = f2 := ⟨_, rfl⟩
  have hne : (((f1 : Nat) : Int) != 0) = true := by rw [bne_iff_ne]; omega
  have H1 := hid hf1
  have H2 := hid hf2
  rw [hf1] at hf
  clear hf1 hf2
  go_enter Tryz.func12, Tryz.ntmps12
  go_wp2_with (first
    | (go_at_call 25; refine (readProgram_l _ s (by omega)).mono ?_; rintro e w1 ⟨v, he, hPr, hB1⟩; simp only [progV, hok] at he; have hP1 := hPr hok; rw [← HD.out] at hP1; obtain ⟨ao, cap, rfl⟩ := hP1.form; subst he; clear hPr)
    | (go_at_call 26; refine (findFault_c _ w.heap.size ao cap ds (by exact hP1) hwf.2 hwf.1).mono ?_; rintro e w2 ⟨he, hB2⟩; rw [H1.out, H2.out] at he; subst he))
  go_ret3
  unfold LoadPost
  rw [HE.out, H1.out, H2.out, if_neg hf]
  exact ⟨rfl, hB1.trans (hB2.mono hB1.size)⟩

set_option maxHeartbeats 4000000 in
set_option maxRecDepth 100000 in
theorem clauses_c (w : World) (base : Nat) (ao : Option Addr) (cap : Nat) (ds : List ClD) (hP : ProgIs w base (.slice ao ds.length cap) ds) (hbw : base ≤ w.heap.size) (hn : ds.length ≤ 40) :
    Calls Tryz.prog 27 #[.slice ao ds.length cap] w fun e w' => ∃ v, e = .returned v ∧ ClausesIs w' base v ds ∧ Below w.heap.size w w' := by
  obtain ⟨i1, hi1, hy0, hy1, hy2⟩ := info_parts infoClause
  go_enter Tryz.func27, Tryz.ntmps27
  go_wp2
  go_loopw [3, 8] (fun v kv wr => ∃ (k : Nat) (rows : List (List Value)), k ≤ ds.length ∧ kv = .int .i64 k ∧ wr.ownsRow w.heap.size 86 6 v k rows.flatten ∧ Hid (rows.length = k) ∧
    (∀ (i : Nat) (d : ClD) (cs : List Value), (ds.take k)[i]? = some d → rows[i]? = some cs → KeptIs wr base d cs) ∧ Below w.heap.size w wr) (fun _ kv _ => ds.length - (intOf kv).toNat)
  case atStart => exact ⟨0, [], by omega, rfl, World.ownsRow_nil _ _ _ _, rfl, by simp, Below.refl _ _⟩
  case round =>
    obtain ⟨k, rows, hk, rfl, ho, HRL, hr, hB⟩ := hrel
    obtain ⟨vo, vcap, rfl⟩ := own_form ho
    have hws := hB.size
    by_cases hlt : k < ds.length
    · obtain ⟨g, bo, bcap, so, scap, hao, hg, e0, e1, e2, e3, e4, e5, e6, hLb, hSp⟩ := placed_at (hP.below hB) k hlt
      subst hao
      have hdk0 : (ds.take (k + 1)) = ds.take k ++ [ds[k]] := List.take_succ_eq_append_getElem hlt
      generalize hdk : ds[k] = d at *
      have HDK := hid hdk0
      clear hdk hdk0
      have hKd : KeptIs wr base d [Value.string d.nm, .int .i64 d.cn, .string (d.t 0), .string (d.t 1), .string (d.t 2), .slice bo d.lits.length bcap] := ⟨.slice bo d.lits.length bcap, rfl, hLb⟩
      have hbs := own_base ho
      go_wp2_with (at_builtin; refine wpList_append_ownS _ rfl _ _ 56 rfl w.heap.size 86 i1 _ 6 96 Tryz.underlying56 hi1 hy0 hy1 hy2 rfl (by decide) _ k rows.flatten rfl ((ho.alloc _).alloc _) ⟨wr.heap.size + 1, 0, none⟩ 1 [Value.string d.nm, .int .i64 d.cn, .string (d.t 0), .string (d.t 1), .string (d.t 2), .slice bo d.lits.length bcap] rfl rfl (new_cells2 _ _ _ _) (by intro u hu; simp at hu; rcases hu with rfl | rfl | rfl | rfl | rfl | rfl <;> rfl) (by unfold maxLen; omega) (by omega) (by simp; omega) ?_; intro g3 cap3 w3 ho3 hg3)
      have hkl : (ds.take k).length = k := by simp; omega
      have h2 : ∀ o2 o3, Below wr.heap.size wr ((wr.alloc o2).alloc o3) := fun o2 o3 => ((Below.refl _ wr).alloc (Nat.le_refl _) o2).alloc (by simp) o3
      have hmore := ClausesIs.more (w := (wr.alloc _).alloc _) (w' := w3) (base := base) (ds := ds.take k) (fun i d cs h1 h3 => (hr i d cs h1 h3).below (h2 _ _)) (by rw [HRL.out, hkl]) (by rw [hkl]; exact own_mono ((ho.alloc _).alloc _) hbw) (hKd.below (h2 _ _)) (by rw [hkl]; exact own_mono ho3 hbw) hg3
      have hB3 : Below w.heap.size w w3 := (hB.trans ((h2 _ _).mono hws)).grown hg3 (by simp; omega) hbs
      obtain ⟨rows3, hr1, hr2, hr3⟩ := hmore
      rw [← HDK.out] at hr1 hr2 hr3
      have hkl2 : (ds.take (k + 1)).length = k + 1 := by simp; omega
      rw [hkl2] at hr1 hr2
      exact ⟨⟨k + 1, rows3, hlt, by go_num, own_up hr1 (own_base ho3 g3 rfl), hr2, hr3, hB3⟩, by simp [intOf]; omega⟩
    · have hke : k = ds.length := by omega
      go_wp2
      go_ret
      subst hke
      rw [List.take_length] at hr
      exact ⟨_, rfl, ⟨rows, own_mono ho hbw, HRL.out, hr⟩, hB⟩

set_option maxHeartbeats 1000000 in
theorem load_ok (w : World) (s : ByteArray) (h : s.size ≤ 2000) (hok : (programR s).ok = true) (hf : (faultR (programR s).cls).1 = 0) : Calls Tryz.prog 12 #[.string s] w fun e w' => LoadPost w s e w' := by
  have hf0 := fault_zero _ hf
  have HE := hid (show loadE s = (0, 0) by simp [loadE, hok, hf0, show ¬ 2000 < s.size by omega])
  have hq : ¬ ((2000 : Int) < (s.size : Int)) := by omega
  have hwf := programR_wf s
  obtain ⟨ds, HD⟩ : ∃ ds, Hid (ds = (programR s).cls) := ⟨_, rfl⟩
  rw [← HD.out] at hf0 hwf
  have HF := hid hf0
  clear hf0 hf
  have hn := hwf.1
  go_enter Tryz.func12, Tryz.ntmps12
  go_wp2_with (first
    | (go_at_call 25; refine (readProgram_l _ s (by omega)).mono ?_; rintro e w1 ⟨v, he, hPr, hB1⟩; simp only [progV, hok] at he; have hP1 := hPr hok; rw [← HD.out] at hP1; obtain ⟨ao, cap, rfl⟩ := hP1.form; subst he; clear hPr)
    | (go_at_call 26; refine (findFault_c _ w.heap.size ao cap ds (by exact hP1) hwf.2 hwf.1).mono ?_; rintro e w2 ⟨he, hB2⟩; rw [HF.out] at he; simp only [] at he; subst he)
    | (go_at_call 27; refine (clauses_c _ w.heap.size ao cap ds (by exact hP1.below hB2) (by have := hB1.size; have := hB2.size; omega) hwf.1).mono ?_; rintro e w3 ⟨v3, rfl, hC3, hB3⟩; obtain ⟨ao3, cap3, rfl⟩ := hC3.form))
  go_ret3
  unfold LoadPost
  rw [HE.out, ← HD.out]
  have hBw2 : Below w.heap.size w w2 := hB1.trans (hB2.mono hB1.size)
  have hBw3 : Below w.heap.size w w3 := hBw2.trans (hB3.mono hBw2.size)
  have hz := hBw3.size
  exact ⟨⟨w3.heap.size, rfl, hz, _, Blk.new w3 [.slice ao3 ds.length cap3] 59, hC3.below (below_alloc w3 _)⟩, hBw3.alloc hz _⟩

theorem load_c (w : World) (s : ByteArray) (hs : s.size ≤ maxLen) : Calls Tryz.prog 12 #[.string s] w fun e w' => LoadPost w s e w' := by
  by_cases h : 2000 < s.size
  · exact load_long w s hs h
  · cases hok : (programR s).ok
    · exact load_form w s (by omega) hok
    · by_cases hf : (faultR (programR s).cls).1 = 0
      · exact load_ok w s (by omega) hok hf
      · exact load_fault w s (by omega) hok hf

end Go.Proofs.YtpbfiffgcgnidaaGreatDoor
