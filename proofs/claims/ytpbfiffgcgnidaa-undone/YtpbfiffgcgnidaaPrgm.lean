/-
  OUR OWN. The reader's program.
-/
import Derived.Test.YtpbfiffgcgnidaaClause
namespace Go.Proofs.Ytpbfiffgcgnidaa
open Go.RowKit
attribute [local go_sem] drewN_alloc drewN_setCell

structure ClD where
  name : List UInt8
  ts : List (List UInt8)
  lits : List LitD
  spots : List SpotD
structure PrR where
  ok : Bool
  cls : List ClD
  rest : List UInt8
def ClR.d (r : ClR) : ClD := ⟨r.name, r.ts, r.lits, r.spots⟩
/-- The clauses: at most f more. -/
def progR (s : ByteArray) : Nat → List ClD → List UInt8 → PrR
  | 0, ds, l => if (skipL l).isEmpty = true then ⟨true, ds, skipL l⟩ else ⟨false, ds, skipL l⟩
  | f + 1, ds, l =>
    if (skipL l).isEmpty = true then ⟨true, ds, skipL l⟩
    else if (clauseR s (skipL l)).ok = false then ⟨false, ds, (clauseR s (skipL l)).rest⟩
    else progR s f (ds ++ [(clauseR s (skipL l)).d]) (clauseR s (skipL l)).rest
def programR (s : ByteArray) : PrR := progR s 40 [] s.data.toList

/-- A clause in its seven cells. -/
def PlacedIs (w : World) (base : Nat) (d : ClD) (cs : List Value) : Prop :=
  ∃ bv sv, cs = atomCells d.name d.ts ++ [bv, sv] ∧ w.ownsRow base 90 6 bv d.lits.length (d.lits.flatMap LitD.cells) ∧ w.ownsRow base 73 5 sv d.spots.length (d.spots.flatMap SpotD.cells)
/-- A program in its row. -/
def ProgIs (w : World) (base : Nat) (v : Value) (ds : List ClD) : Prop :=
  ∃ rows : List (List Value), w.ownsRow base 83 7 v ds.length rows.flatten ∧ rows.length = ds.length ∧ ∀ (i : Nat) (d : ClD) (cs : List Value), ds[i]? = some d → rows[i]? = some cs → PlacedIs w base d cs

theorem PlacedIs.kept {w w' : World} {base b : Nat} {d : ClD} {cs : List Value} (h : PlacedIs w base d cs) (hk : Kept b w w') {bs : List Value} {t : TypeId} (hb : Blk w b bs t) (h1 : t ≠ 90) (h2 : t ≠ 73) : PlacedIs w' base d cs := by
  obtain ⟨bv, sv, hc, hl, hs⟩ := h
  exact ⟨bv, sv, hc, own_kept hl hk (own_ne hl hb h1), own_kept hs hk (own_ne hs hb h2)⟩
theorem ProgIs.kept {w w' : World} {base b : Nat} {v : Value} {ds : List ClD} (h : ProgIs w base v ds) (hk : Kept b w w') {bs : List Value} {t : TypeId} (hb : Blk w b bs t) (h0 : t ≠ 83) (h1 : t ≠ 90) (h2 : t ≠ 73) : ProgIs w' base v ds := by
  obtain ⟨rows, ho, hl, hr⟩ := h
  exact ⟨rows, own_kept ho hk (own_ne ho hb h0), hl, fun i d cs hd hc => (hr i d cs hd hc).kept hk hb h1 h2⟩
theorem PlacedIs.alloc {w : World} {base : Nat} {d : ClD} {cs : List Value} (h : PlacedIs w base d cs) (o : Obj) : PlacedIs (w.alloc o) base d cs := by
  obtain ⟨bv, sv, hc, hl, hs⟩ := h
  exact ⟨bv, sv, hc, hl.alloc o, hs.alloc o⟩
theorem ProgIs.alloc {w : World} {base : Nat} {v : Value} {ds : List ClD} (h : ProgIs w base v ds) (o : Obj) : ProgIs (w.alloc o) base v ds := by
  obtain ⟨rows, ho, hl, hr⟩ := h
  exact ⟨rows, ho.alloc o, hl, fun i d cs hd hc => (hr i d cs hd hc).alloc o⟩
theorem ProgIs.nil (w : World) (base : Nat) : ProgIs w base (.slice none 0 0) [] := ⟨[], World.ownsRow_nil _ _ _ _, rfl, by simp⟩
theorem ProgIs.form {w : World} {base : Nat} {v : Value} {ds : List ClD} (h : ProgIs w base v ds) : ∃ ao cap, v = .slice ao ds.length cap := by
  obtain ⟨rows, ho, hl, hr⟩ := h
  exact own_form ho

theorem infoPlaced : (Try.prog.info? 83).map (fun i => (i.zero, i.size, i.bytes)) = some (some (.agg #[.string ⟨#[]⟩, .int .i64 0, .string ⟨#[]⟩, .string ⟨#[]⟩, .string ⟨#[]⟩, .slice none 0 0, .slice none 0 0]), 7, 120) := by kernel_rfl

theorem wpList_append_ownS {P : Program} (w : World) {ops : Array Oper} {rest : List Oper} {o : Oper} {a : Act} {Q : Exit → Act → World → Prop} (hgd : o.guard = none) (s x : Operand) (t : TypeId)
    (ho : o.op = .call { callee := .builtin .append, args := #[s, x], argTypes := #[t, t] })
    (base : Nat) (e : TypeId) (i : TypeInfo) (z : Value) (size bytes : Nat) (ht : P.underlying t = some (.slice e)) (hi : P.info? e = some i) (hz : i.zero = some z)
    (hsize : i.size = size) (hby : i.bytes = bytes) (hzs : z.cells.size = size) (hsz : 0 < size)
    (v : Value) (n : Nat) (xs : List Value) (hs : a.eval s = v) (hown : w.ownsRow base e size v n xs)
    (ad : Addr) (c : Nat) (news : List Value) (hx : a.eval x = .slice (some ad) 1 c) (hl : news.length = size) (hnews : ∀ j u, news[j]? = some u → w.cell? (ad.add j) = some u) (h1 : ∀ u ∈ news, u.oneCell' = true)
    (h63 : n + 1 ≤ maxLen) (hbytes : (n + 1) * bytes ≤ 140737488355328) (hbase : base ≤ w.heap.size)
    (h : ∀ g cap w', w'.ownsRow base e size (.slice (some ⟨g, 0, none⟩) (n + 1) cap) (n + 1) (xs ++ news) → w.grownBy w' v.ownBlock → wpList P ops Q rest (a.put o.dst (.slice (some ⟨g, 0, none⟩) (n + 1) cap)) w') : wpList P ops Q (o :: rest) a w := by
  refine wpList_append_own w hgd s x t ho base e i z size bytes ht hi hz hsize hby hzs hsz v n xs hs hown ad 1 c news hx (by omega) hnews h1 h63 hbytes hbase ?_
  intro v' w' h2 h3 _
  rcases h2.2 with ⟨hv, hn⟩ | ⟨g, cap, cur, hv, _⟩
  · omega
  · subst hv
    exact h g cap w' h2 h3

def B2 (w w1 w2 : World) : Prop := w.heap.size ≤ w1.heap.size ∧ w.heap.size ≤ w2.heap.size
/-- One clause more. -/
theorem ProgIs.more {w w' : World} {base : Nat} {v v' : Value} {ds : List ClD} {d : ClD} {cs : List Value} {rows : List (List Value)} (hr : ∀ (i : Nat) (d : ClD) (cs : List Value), ds[i]? = some d → rows[i]? = some cs → PlacedIs w base d cs) (hl : rows.length = ds.length)
    (ho : w.ownsRow base 83 7 v ds.length rows.flatten) (hd : PlacedIs w base d cs)
    (ho' : w'.ownsRow base 83 7 v' (ds.length + 1) (rows.flatten ++ cs)) (hg : w.grownBy w' v.ownBlock) : ProgIs w' base v' (ds ++ [d]) := by
  have step : ∀ d cs, PlacedIs w base d cs → PlacedIs w' base d cs := by
    rintro d cs ⟨bv, sv, hc, hlb, hsb⟩
    exact ⟨bv, sv, hc, hlb.kept hg (own_ne2 hlb ho (by decide)), hsb.kept hg (own_ne2 hsb ho (by decide))⟩
  refine ⟨rows ++ [cs], by simpa using ho', by simp [hl], ?_⟩
  intro i d' cs' h1 h2
  by_cases hi : i < ds.length
  · rw [List.getElem?_append_left hi] at h1
    rw [List.getElem?_append_left (by omega)] at h2
    exact step _ _ (hr i d' cs' h1 h2)
  · rw [List.getElem?_append_right (by omega)] at h1
    rw [List.getElem?_append_right (by omega), hl] at h2
    cases hk : i - ds.length with
    | zero => rw [hk] at h1 h2; simp at h1 h2; subst h1; subst h2; exact step _ _ hd
    | succ k => rw [hk] at h1; simp at h1

theorem new_cells2 (w : World) (o : Obj) (cs : List Value) (t : TypeId) : ∀ j u, cs[j]? = some u → ((w.alloc o).alloc (.cells cs.toArray t)).cell? ((⟨w.heap.size + 1, 0, none⟩ : Addr).add j) = some u := by
  intro j u h
  have h' := new_cells (w.alloc o) cs t j u h
  have e : (w.alloc o).heap.size = w.heap.size + 1 := by simp
  rwa [e] at h'
def slen : Value → Nat | .slice _ n _ => n | _ => 0
def progV (r : PrR) (s : ByteArray) (v : Value) : Value := if r.ok = true then .tuple #[v, .int .i64 0, .bool true] else .tuple #[.slice none 0 0, .int .i64 (posOf s r.rest), .bool false]

set_option maxHeartbeats 2000000 in
set_option maxRecDepth 100000 in
theorem readProgram_l (w : World) (s : ByteArray) (hs : s.size ≤ 281474976710656) :
    Calls Try.prog 21 #[.string s] w fun e w' => ∃ v, e = .returned (progV (programR s) s v) ∧ ((programR s).ok = true → ProgIs w' w.heap.size v (programR s).cls) ∧ Below w.heap.size w w' := by
  have hsm : s.size ≤ maxLen := by unfold maxLen; omega
  have hR0 : Rd (w.alloc (.cells #[.string s, .int .i64 0] 80)) w.heap.size s s.data.toList := ⟨0, by omega, by simp, Blk.new w [.string s, .int .i64 0] 80⟩
  obtain ⟨i1, hi1, hy0, hy1, hy2⟩ := info_parts infoPlaced
  go_enter Try.func21, Try.ntmps21
  go_wp2
  go_loopw [6] (fun v wr => ∃ (ds : List ClD) (r : List UInt8), ds.length ≤ 40 ∧ Hid (progR s (40 - ds.length) ds r = programR s) ∧ Rd wr w.heap.size s r ∧ ProgIs wr w.heap.size v ds ∧ Below w.heap.size w wr) (fun v _ => 40 - slen v)
  case atStart => exact ⟨[], s.data.toList, by simp, rfl, hR0, ProgIs.nil _ _, (Below.refl _ _).alloc (Nat.le_refl _) _⟩
  case round =>
    obtain ⟨ds, r, hd4, HX, hRr, hPr, hB⟩ := hrel
    obtain ⟨ao, cap, rfl⟩ := hPr.form
    have hbw : w.heap.size < wr.heap.size := hRr.lt
    cases hem : (skipL r).isEmpty
    · by_cases h40 : ds.length = 40
      · have hq : ((ds.length : Int) == 40) = true := by rw [beq_iff_eq]; omega
        have HE : Hid (programR s = ⟨false, ds, skipL r⟩) := by
          show programR s = _
          rw [← HX.out, h40]; simp [progR, hem]
        clear h40
        go_wp2_with (go_at_call 32; refine (atEnd_l _ w.heap.size s r (by exact hRr) hsm).mono ?_; rintro e w1 ⟨rfl, hR1, hK1⟩; have c1 := hR1.c1)
        go_quiet (fail)
        go_wp2
        go_ret3
        rw [HE.out]
        exact ⟨.slice none 0 0, by simp [progV], by simp, hB.trans (below_drewN (hK1.below (Nat.le_refl _) (by omega)) _)⟩
      · have hq : ((ds.length : Int) == 40) = false := by rw [beq_eq_false_iff_ne]; omega
        have hd39 : ds.length + 1 ≤ 40 := by omega
        have HN : Hid (40 - ds.length = (39 - ds.length) + 1) := by show 40 - ds.length = _; omega
        clear h40
        obtain ⟨m, HM⟩ : ∃ m, Hid (m = skipL r) := ⟨_, rfl⟩
        obtain ⟨C, HC⟩ : ∃ C, Hid (C = clauseR s m) := ⟨_, rfl⟩
        cases hok : C.ok
        · have HE : Hid (programR s = ⟨false, ds, C.rest⟩) := by
            show programR s = _
            rw [HC.out, HM.out] at hok
            rw [← HX.out, HN.out]; simp [progR, hem, hok, HC.out, HM.out]
          go_wp2_with (first
            | (go_at_call 32; refine (atEnd_l _ w.heap.size s r (by exact hRr) hsm).mono ?_; rintro e w1 ⟨rfl, hR1, hK1⟩; rw [← HM.out] at hR1)
            | (go_at_call 33; refine (clause_l _ w.heap.size s m (by exact hR1) hs).mono ?_; rintro e w2 ⟨v, rfl, hv, hR2, hK2⟩; rw [← HC.out] at hv hR2; obtain ⟨n0, t0, t1, t2, c, ao2, po2, n2, m2, cap2, pcap2, hve, -⟩ := hv; rw [hok] at hve; subst hve; have c1 := hR2.c1; have hz2 : w.heap.size < w2.heap.size := hR2.lt))
          go_quiet (fail)
          go_wp2
          go_ret3
          rw [HE.out]
          exact ⟨.slice none 0 0, by simp [progV], by simp, hB.trans (below_drewN (((hK1.trans hK2).allocs _).below (Nat.le_refl _) (by omega)) _)⟩
        · have HE : Hid (progR s (40 - (ds ++ [C.d]).length) (ds ++ [C.d]) C.rest = programR s) := by
            show progR s (40 - (ds ++ [C.d]).length) (ds ++ [C.d]) C.rest = programR s
            rw [HC.out, HM.out] at hok
            rw [← HX.out, HN.out, List.length_append, List.length_singleton, show 40 - (ds.length + 1) = 39 - ds.length by omega]; simp [progR, hem, hok, HC.out, HM.out]
          go_wp2_with (first
            | (go_at_call 32; refine (atEnd_l _ w.heap.size s r (by exact hRr) hsm).mono ?_; rintro e w1 ⟨rfl, hR1, hK1⟩; rw [← HM.out] at hR1)
            | (go_at_call 33; refine (clause_l _ w.heap.size s m (by exact hR1) hs).mono ?_; rintro e w2 ⟨v, rfl, hv, hR2, hK2⟩; rw [← HC.out] at hv hR2; obtain ⟨n0, t0, t1, t2, c, ao2, po2, n2, m2, cap2, pcap2, hve, hvc⟩ := hv; have HVC := hid (hvc hok); clear hvc; rw [hok] at hve; subst hve; have hz2 : w.heap.size < w2.heap.size := hR2.lt; have HP2 := hid ((hPr.kept hK1 hRr.at.1 (by decide) (by decide) (by decide)).kept hK2 hR1.at.1 (by decide) (by decide) (by decide)); obtain ⟨rows, ho, hl, hr⟩ := HP2.out; have HL := hid hl; clear hl; have hb2 : B2 w w1 w2 := ⟨by have := hK1.size; omega, by omega⟩)
            | (at_builtin; refine wpList_append_ownS _ rfl _ _ 58 rfl w.heap.size 83 i1 _ 7 120 Try.underlying58 hi1 hy0 hy1 hy2 rfl (by decide) _ ds.length rows.flatten rfl ((ho.alloc _).alloc _) ⟨w2.heap.size + 1, 0, none⟩ 1 [Value.string n0, .int .i64 c, .string t0, .string t1, .string t2, .slice ao2 n2 cap2, .slice po2 m2 pcap2] rfl rfl (new_cells2 _ _ _ _) (by intro u hu; simp at hu; rcases hu with rfl | rfl | rfl | rfl | rfl | rfl | rfl <;> rfl) (by unfold maxLen; omega) (by omega) (by simp; omega) ?_; intro g cap3 w3 ho3 hg3))
          obtain ⟨hv1, hv2, hv3, hv4, hv5⟩ := HVC.out
          have hpl : PlacedIs w2 w.heap.size C.d [Value.string n0, .int .i64 c, .string t0, .string t1, .string t2, .slice ao2 n2 cap2, .slice po2 m2 pcap2] := by
            refine ⟨.slice ao2 n2 cap2, .slice po2 m2 pcap2, ?_, ?_, ?_⟩
            · show [Value.string n0, .int .i64 c, .string t0, .string t1, .string t2] ++ [Value.slice ao2 n2 cap2, .slice po2 m2 pcap2] = _
              rw [hv1]; rfl
            · rw [hv2] at hv4 ⊢; exact own_mono hv4 hb2.1
            · rw [hv3] at hv5 ⊢; exact own_mono hv5 hb2.1
          have hmore := ProgIs.more (fun i d cs h1 h2 => ((hr i d cs h1 h2).alloc _).alloc _) HL.out ((ho.alloc _).alloc _) ((hpl.alloc _).alloc _) ho3 hg3
          have hR3 := ((hR2.alloc _).alloc _).grown hg3 (own_ne ho hR2.at.1 (by decide))
          have hB3 := ((hB.trans ((hK1.trans hK2).below (Nat.le_refl _) (by omega))).alloc (by omega) _ |>.alloc (by simp; omega) _).grown hg3 (by simp; omega) (own_base ho)
          exact ⟨⟨ds ++ [C.d], C.rest, by simpa using hd39, HE, hR3, hmore, hB3⟩, by simp [slen]; omega⟩
    · have HE : Hid (programR s = ⟨true, ds, skipL r⟩) := by
        show programR s = _
        rw [← HX.out]
        cases 40 - ds.length <;> simp [progR, hem]
      go_wp2_with (go_at_call 32; refine (atEnd_l _ w.heap.size s r (by exact hRr) hsm).mono ?_; rintro e w1 ⟨rfl, hR1, hK1⟩)
      go_ret3
      rw [HE.out]
      exact ⟨_, by simp [progV], fun _ => hPr.kept hK1 hRr.at.1 (by decide) (by decide) (by decide), hB.trans (hK1.below (Nat.le_refl _) (by omega))⟩

end Go.Proofs.Ytpbfiffgcgnidaa
