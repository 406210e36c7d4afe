/-
  OUR OWN. The document's answer: all atoms of clauses.
-/
import Derived.Test.YtpbfiffgcgnidaaDoorRef5
namespace Go.Proofs.YtpbfiffgcgnidaaDoor
open Go.RowKit Go.WideMaps Go.Maps
attribute [local go_sem] drewN_alloc drewN_setCell

theorem infoRAtom : (Tryd.prog.info? 55).map (fun i => (i.zero, i.size, i.bytes)) = some (some (.agg #[.string ⟨#[]⟩, .slice none 0 0, .int .i64 0, .int .i64 0, .bool false]), 5, 64) := by kernel_rfl
/-- Atoms gathered in a row of one's own, their terms lying where they lay. -/
def Gather (w : World) (own base : Nat) (v : Value) (b : List RA) : Prop :=
  ∃ rows : List (List Value), w.ownsRow own 55 5 v b.length rows.flatten ∧ rows.length = b.length ∧ ∀ (i : Nat) (a : RA) (cs : List Value), b[i]? = some a → rows[i]? = some cs → AtomIs w base a cs
theorem AtomIs.kept {w w' : World} {base own : Nat} {a : RA} {cs : List Value} {v : Value} {n : Nat} {xs : List Value} (h : AtomIs w base a cs) (hg : w.grownBy w' v.ownBlock) (ho : w.ownsRow own 55 5 v n xs) : AtomIs w' base a cs := by
  obtain ⟨tv, hc, hl⟩ := h
  exact ⟨tv, hc, hl.kept hg (own_ne2 hl ho (by decide))⟩
theorem AtomIs.one {w : World} {base : Nat} {a : RA} {cs : List Value} (h : AtomIs w base a cs) : ∀ u ∈ cs, u.oneCell' = true := by
  obtain ⟨tv, rfl, hl⟩ := h
  obtain ⟨ao, cap, rfl⟩ := own_form hl
  intro u hu
  simp at hu
  rcases hu with rfl | rfl | rfl | rfl | rfl <;> rfl
/-- More atoms gathered. -/
theorem Gather.more {w w' : World} {own base : Nat} {v v' : Value} {b b2 : List RA} {rows rows2 : List (List Value)} (hl : rows.length = b.length) (hr : ∀ (i : Nat) (a : RA) (cs : List Value), b[i]? = some a → rows[i]? = some cs → AtomIs w base a cs)
    (hl2 : rows2.length = b2.length) (hr2 : ∀ (i : Nat) (a : RA) (cs : List Value), b2[i]? = some a → rows2[i]? = some cs → AtomIs w base a cs) (ho : w.ownsRow own 55 5 v b.length rows.flatten)
    (ho' : w'.ownsRow own 55 5 v' (b.length + b2.length) (rows.flatten ++ rows2.flatten)) (hg : w.grownBy w' v.ownBlock) : Gather w' own base v' (b ++ b2) := by
  refine ⟨rows ++ rows2, by rw [List.length_append, List.flatten_append]; exact ho', by simp [hl, hl2], ?_⟩
  intro i a cs h1 h2
  by_cases hi : i < b.length
  · rw [List.getElem?_append_left hi] at h1
    rw [List.getElem?_append_left (by omega)] at h2
    exact (hr i a cs h1 h2).kept hg ho
  · rw [List.getElem?_append_right (by omega)] at h1
    rw [List.getElem?_append_right (by omega), hl] at h2
    exact (hr2 _ a cs h1 h2).kept hg ho
theorem gather_rows {w w' : World} {own base : Nat} {v : Value} {b b2 : List RA} {rows rows2 : List (List Value)} (hl : rows.length = b.length) (hr : ∀ (i : Nat) (a : RA) (cs : List Value), b[i]? = some a → rows[i]? = some cs → AtomIs w base a cs)
    (hr2 : ∀ (i : Nat) (a : RA) (cs : List Value), b2[i]? = some a → rows2[i]? = some cs → AtomIs w base a cs) (ho : w.ownsRow own 55 5 v b.length rows.flatten) (hg : w.grownBy w' v.ownBlock) :
    ∀ (i : Nat) (a : RA) (cs : List Value), (b ++ b2)[i]? = some a → (rows ++ rows2)[i]? = some cs → AtomIs w' base a cs := by
  intro i a cs h1 h2
  by_cases hi : i < b.length
  · rw [List.getElem?_append_left hi] at h1
    rw [List.getElem?_append_left (by omega)] at h2
    exact (hr i a cs h1 h2).kept hg ho
  · rw [List.getElem?_append_right (by omega)] at h1
    rw [List.getElem?_append_right (by omega), hl] at h2
    exact (hr2 _ a cs h1 h2).kept hg ho
theorem own_room {w : World} {base : Nat} {e : TypeId} {size g n cap m : Nat} {xs : List Value} (h : w.ownsRow base e size (.slice (some ⟨g, 0, none⟩) n cap) m xs) : m ≤ cap ∧ n = m := by
  rcases h.2 with ⟨h1, _⟩ | ⟨g', cap', cur, hv, _, _, hc, _⟩
  · simp at h1
  · simp only [Value.slice.injEq] at hv
    obtain ⟨_, h2, h3⟩ := hv
    exact ⟨by omega, h2⟩
theorem wpList_append_ownM {P : Program} (w : World) {ops : Array Oper} {rest : List Oper} {o : Oper} {a : Act} {Q : Exit → Act → World → Prop} (hgd : o.guard = none) (s x : Operand) (t : TypeId)
    (ho : o.op = .call { callee := .builtin .append, args := #[s, x], argTypes := #[t, t] })
    (base : Nat) (e : TypeId) (i : TypeInfo) (z : Value) (size bytes : Nat) (ht : P.underlying t = some (.slice e)) (hi : P.info? e = some i) (hz : i.zero = some z)
    (hsize : i.size = size) (hby : i.bytes = bytes) (hzs : z.cells.size = size) (hsz : 0 < size)
    (v : Value) (n : Nat) (xs : List Value) (hs : a.eval s = v) (hown : w.ownsRow base e size v n xs) (hpos : 0 < n)
    (ad : Addr) (m c : Nat) (news : List Value) (hx : a.eval x = .slice (some ad) m c) (hl : news.length = m * size) (hnews : ∀ j u, news[j]? = some u → w.cell? (ad.add j) = some u) (h1 : ∀ u ∈ news, u.oneCell' = true)
    (h63 : n + m ≤ maxLen) (hbytes : (n + m) * bytes ≤ 140737488355328) (hbase : base ≤ w.heap.size)
    (h : ∀ g cap w', w'.ownsRow base e size (.slice (some ⟨g, 0, none⟩) (n + m) cap) (n + m) (xs ++ news) → w.grownBy w' v.ownBlock → wpList P ops Q rest (a.put o.dst (.slice (some ⟨g, 0, none⟩) (n + m) cap)) w') : wpList P ops Q (o :: rest) a w := by
  refine wpList_append_own w hgd s x t ho base e i z size bytes ht hi hz hsize hby hzs hsz v n xs hs hown ad m c news hx hl hnews h1 h63 hbytes hbase ?_
  intro v' w' h2 h3 _
  rcases h2.2 with ⟨hv, hn⟩ | ⟨g, cap, cur, hv, _⟩
  · omega
  · subst hv
    exact h g cap w' h2 h3
theorem atomsC_step (l : List RC) (i : Nat) (h : i < l.length) : atomsC (l.take (i + 1)) = atomsC (l.take i) ++ [l[i].head] ++ l[i].body := by
  unfold atomsC
  rw [List.take_succ_eq_append_getElem h, List.flatMap_append, List.flatMap_singleton, List.append_assoc]
  rfl

set_option maxHeartbeats 2000000 in
set_option maxRecDepth 100000 in
theorem atoms_r (w : World) (base : Nat) (ao : Option Addr) (cap : Nat) (l : List RC) (hL : ClRow w base (.slice ao l.length cap) l) (hn : l.length ≤ 40) (hb : ∀ c ∈ l, c.body.length ≤ 4) :
    Calls Tryd.prog 12 #[.slice ao l.length cap] w fun e w' => ∃ v, e = .returned v ∧ Gather w' w.heap.size base v (atomsC l) ∧ Below w.heap.size w w' := by
  obtain ⟨i1, hi1, hy0, hy1, hy2⟩ := info_parts infoRAtom
  go_enter Tryd.func12, Tryd.ntmps12
  go_wp2
  go_loopw [3, 4] (fun ov iv wr => ∃ (i : Nat), i ≤ l.length ∧ iv = .int .i64 i ∧ Gather wr w.heap.size base ov (atomsC (l.take i)) ∧ (atomsC (l.take i)).length ≤ 5 * i ∧ Below w.heap.size w wr) (fun _ iv _ => l.length - (intOf iv).toNat)
  case atStart => exact ⟨0, by omega, rfl, ⟨[], World.ownsRow_nil _ _ _ _, rfl, by simp [atomsC]⟩, by simp [atomsC], Below.refl _ _⟩
  case round =>
    obtain ⟨i, hi, rfl, hG, hle, hB⟩ := hrel
    by_cases hlt : i < l.length
    · obtain ⟨g, tv, bo, bcap, rfl, hg, b0, b1, b2, b3, b4, b5, hT, hR⟩ := rclause_at (hL.below (Below.refl _ w)) rfl i hlt
      have hstep := atomsC_step l i hlt
      have hbl := hb l[i] (List.getElem_mem hlt)
      generalize l[i] = c at *
      generalize hac : atomsC (l.take i) = acc at *
      have HST := hid hstep
      obtain ⟨rows, ho, hl, hr⟩ := hG
      obtain ⟨oo, ocap, rfl⟩ := own_form ho
      rw [← hB.cell (p := ⟨g, i * 6, none⟩) hg] at b0
      rw [← hB.cell (p := ⟨g, i * 6 + 1, none⟩) hg] at b1
      rw [← hB.cell (p := ⟨g, i * 6 + 2, none⟩) hg] at b2
      rw [← hB.cell (p := ⟨g, i * 6 + 3, none⟩) hg] at b3
      rw [← hB.cell (p := ⟨g, i * 6 + 4, none⟩) hg] at b4
      have hsz := hB.size
      clear hstep hac
      have hA0 : AtomIs w base c.head [.string c.head.w, tv, .int .i64 (c.head.pl : Nat), .int .i64 (c.head.bang : Nat), .bool c.head.neg] := ⟨tv, rfl, hT⟩
      have hone := hA0.one
      have HA0 := hid (hA0.below (hB.mono (Nat.le_refl _)))
      have HBR := hid (hR.below (hB.mono (Nat.le_refl _)))
      have hbs := own_base ho
      have hle1 : (acc ++ [c.head] ++ c.body).length = acc.length + 1 + c.body.length := by simp; omega
      rcases (show (bo = none ∧ c.body = [] ∧ bcap = 0) ∨ ∃ gb, bo = some ⟨gb, 0, none⟩ by
        obtain ⟨brows, hbo, _, _⟩ := hR
        rcases hbo.2 with ⟨h1, h2⟩ | ⟨gb, _, _, h1, _⟩
        · simp only [Value.slice.injEq] at h1
          exact .inl ⟨h1.1, List.eq_nil_of_length_eq_zero h2, h1.2.2⟩
        · simp only [Value.slice.injEq] at h1
          exact .inr ⟨gb, h1.1⟩) with ⟨rfl, hbe, rfl⟩ | ⟨gb, rfl⟩
      · rw [hbe, List.length_nil] at b5
        clear HBR hR
        go_wp2_with (at_builtin; refine wpList_append_ownS _ rfl _ _ 50 rfl w.heap.size 55 i1 _ 5 64 Tryd.underlying50 hi1 hy0 hy1 hy2 rfl (by decide) _ acc.length rows.flatten rfl (ho.alloc _) ⟨wr.heap.size, 0, none⟩ 1 [.string c.head.w, tv, .int .i64 (c.head.pl : Nat), .int .i64 (c.head.bang : Nat), .bool c.head.neg] rfl rfl (new_cells _ _ _) hone (by unfold maxLen; omega) (by omega) (by simp; omega) ?_; intro g2 cap2 w2 hL2 hg2; have hB2 : Below w.heap.size w w2 := (hB.alloc (by omega) _).grown hg2 (by simp; omega) hbs; have e5 := (hB2.cell (p := ⟨g, i * 6 + 5, none⟩) hg).trans b5; have hrm := (own_room hL2).1; have HG2 := hid (Gather.more (b := acc) (b2 := [c.head]) (rows2 := [[.string c.head.w, tv, .int .i64 (c.head.pl : Nat), .int .i64 (c.head.bang : Nat), .bool c.head.neg]]) hl (fun i a cs h1 h2 => (hr i a cs h1 h2).below (below_alloc wr _)) rfl (fun i a cs h1 h2 => by cases i with | zero => (simp at h1 h2; subst h1 h2; exact HA0.out.below (below_alloc wr _)) | succ i => simp at h1) (ho.alloc _) (by simpa using hL2) hg2); have hsz2 := hB2.size; have HR2 := hid (gather_rows (b := acc) (b2 := [c.head]) (rows2 := [[.string c.head.w, tv, .int .i64 (c.head.pl : Nat), .int .i64 (c.head.bang : Nat), .bool c.head.neg]]) hl (fun i a cs h1 h2 => (hr i a cs h1 h2).below (below_alloc wr _)) (fun i a cs h1 h2 => by cases i with | zero => (simp at h1 h2; subst h1 h2; exact HA0.out.below (below_alloc wr _)) | succ i => simp at h1) (ho.alloc _) hg2))
        have hst0 : atomsC (l.take (i + 1)) = acc ++ [c.head] := by rw [HST.out, hbe, List.append_nil]
        exact ⟨⟨i + 1, hlt, by go_num, by rw [hst0]; exact HG2.out, by rw [hst0, List.length_append, List.length_singleton]; omega, hB2⟩, by simp [intOf]; omega⟩
      · obtain ⟨brows, hbo, hbl2, hbr⟩ := hR
        have hbrl : brows.flatten.length = c.body.length * 5 := hbo.1
        have hbw2 : gb < w.heap.size := (hbo.lt gb rfl).2
        have hbone : ∀ u ∈ brows.flatten, u.oneCell' = true := by
          intro u hu
          rw [List.mem_flatten] at hu
          obtain ⟨r, hr1, hr2⟩ := hu
          obtain ⟨j, hj, rfl⟩ := List.getElem_of_mem hr1
          exact (hbr j c.body[j] brows[j] (by simp) (by simp)).one u hr2
        have HBC : Hid (∀ W : World, Below w.heap.size w W → ∀ j u, brows.flatten[j]? = some u → W.cell? ((⟨gb, 0, none⟩ : Addr).add j) = some u) := by
          intro W hW j u hj
          have hcell := hbo.cells (g := gb) rfl j u hj
          rw [Addr.add_lit] at hcell ⊢
          rw [hW.cell (p := ⟨gb, 0 + j, none⟩) hbw2]
          exact hcell
        have HBA : Hid (∀ W : World, Below w.heap.size w W → ∀ (i : Nat) (a : RA) (cs : List Value), c.body[i]? = some a → brows[i]? = some cs → AtomIs W base a cs) := fun W hW i a cs h1 h2 => (hbr i a cs h1 h2).below hW
        have HBL := hid hbl2
        clear HBR hbo hbr hbl2
        go_wp2_with (first | (at_builtin; have _t := hL2; (refine wpList_append_ownM _ rfl _ _ 50 rfl w.heap.size 55 i1 _ 5 64 Tryd.underlying50 hi1 hy0 hy1 hy2 rfl (by decide) _ (acc.length + 1) _ rfl hL2 (by omega) ⟨gb, 0, none⟩ c.body.length bcap brows.flatten rfl hbrl (HBC.out w2 hB2) hbone (by unfold maxLen; omega) (by omega) (by omega) ?_); intro g3 cap3 w3 hL3 hg3) | (at_builtin; refine wpList_append_ownS _ rfl _ _ 50 rfl w.heap.size 55 i1 _ 5 64 Tryd.underlying50 hi1 hy0 hy1 hy2 rfl (by decide) _ acc.length rows.flatten rfl (ho.alloc _) ⟨wr.heap.size, 0, none⟩ 1 [.string c.head.w, tv, .int .i64 (c.head.pl : Nat), .int .i64 (c.head.bang : Nat), .bool c.head.neg] rfl rfl (new_cells _ _ _) hone (by unfold maxLen; omega) (by omega) (by simp; omega) ?_; intro g2 cap2 w2 hL2 hg2; have hB2 : Below w.heap.size w w2 := (hB.alloc (by omega) _).grown hg2 (by simp; omega) hbs; have e5 := (hB2.cell (p := ⟨g, i * 6 + 5, none⟩) hg).trans b5; have hrm := (own_room hL2).1; have HG2 := hid (Gather.more (b := acc) (b2 := [c.head]) (rows2 := [[.string c.head.w, tv, .int .i64 (c.head.pl : Nat), .int .i64 (c.head.bang : Nat), .bool c.head.neg]]) hl (fun i a cs h1 h2 => (hr i a cs h1 h2).below (below_alloc wr _)) rfl (fun i a cs h1 h2 => by cases i with | zero => (simp at h1 h2; subst h1 h2; exact HA0.out.below (below_alloc wr _)) | succ i => simp at h1) (ho.alloc _) (by simpa using hL2) hg2); have hsz2 := hB2.size; have HR2 := hid (gather_rows (b := acc) (b2 := [c.head]) (rows2 := [[.string c.head.w, tv, .int .i64 (c.head.pl : Nat), .int .i64 (c.head.bang : Nat), .bool c.head.neg]]) hl (fun i a cs h1 h2 => (hr i a cs h1 h2).below (below_alloc wr _)) (fun i a cs h1 h2 => by cases i with | zero => (simp at h1 h2; subst h1 h2; exact HA0.out.below (below_alloc wr _)) | succ i => simp at h1) (ho.alloc _) hg2)))
        have hB3 : Below w.heap.size w w3 := hB2.grown hg3 (by omega) (own_base hL2)
        have hG3 := Gather.more (w := w2) (v := .slice (some ⟨g2, 0, none⟩) (acc.length + 1) cap2) (b := acc ++ [c.head]) (b2 := c.body) (rows := rows ++ [[.string c.head.w, tv, .int .i64 (c.head.pl : Nat), .int .i64 (c.head.bang : Nat), .bool c.head.neg]]) (rows2 := brows) (by simp [hl]) HR2.out HBL.out (HBA.out w2 hB2) (by simpa using hL2) (by simpa using hL3) (by exact hg3)
        exact ⟨⟨i + 1, hlt, by go_num, by rw [HST.out]; exact hG3, by rw [HST.out, hle1]; omega, hB3⟩, by simp [intOf]; omega⟩
    · have hie : i = l.length := by omega
      rw [hie, List.take_length] at hG
      clear hie
      go_wp2
      go_ret
      exact ⟨_, rfl, hG, hB⟩

end Go.Proofs.YtpbfiffgcgnidaaDoor
