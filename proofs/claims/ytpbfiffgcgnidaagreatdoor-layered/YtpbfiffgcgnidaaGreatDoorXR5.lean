/-
  OUR OWN. The document's answer: clauses as they lie; all their atoms.
-/
import Derived.Test.YtpbfiffgcgnidaaGreatDoorXR3
import Derived.Test.YtpbfiffgcgnidaaGreatDoorXR4
namespace Go.Proofs.YtpbfiffgcgnidaaGreatDoor
open Go.RowKit Go.WideMaps Go.Maps
attribute [local go_sem] drewN_alloc drewN_setCell

/-- Atoms in a row. -/
def AtomRow (w : World) (base : Nat) (v : Value) (b : List RA) : Prop :=
  ∃ rows : List (List Value), w.ownsRow base 69 5 v b.length rows.flatten ∧ rows.length = b.length ∧ ∀ (i : Nat) (a : RA) (cs : List Value), b[i]? = some a → rows[i]? = some cs → AtomIs w base a cs
def ClauseCs (w : World) (base : Nat) (c : RC) (cs : List Value) : Prop := ∃ hc bv, cs = hc ++ [bv] ∧ AtomIs w base c.head hc ∧ AtomRow w base bv c.body
/-- Clauses in a row. -/
def ClRow (w : World) (base : Nat) (v : Value) (l : List RC) : Prop :=
  ∃ rows : List (List Value), w.ownsRow base 71 6 v l.length rows.flatten ∧ rows.length = l.length ∧ ∀ (i : Nat) (c : RC) (cs : List Value), l[i]? = some c → rows[i]? = some cs → ClauseCs w base c cs
theorem AtomIs.len {w : World} {base : Nat} {a : RA} {cs : List Value} (h : AtomIs w base a cs) : cs.length = 5 := by obtain ⟨tv, rfl, _⟩ := h; rfl
theorem ClauseCs.len {w : World} {base : Nat} {c : RC} {cs : List Value} (h : ClauseCs w base c cs) : cs.length = 6 := by obtain ⟨hc, bv, rfl, h1, _⟩ := h; simp [h1.len]
theorem AtomIs.below {w w' : World} {base : Nat} {a : RA} {cs : List Value} (h : AtomIs w base a cs) (hb : Below w.heap.size w w') : AtomIs w' base a cs := by
  obtain ⟨tv, hc, hl⟩ := h
  exact ⟨tv, hc, own_below hl hb⟩
theorem AtomRow.below {w w' : World} {base : Nat} {v : Value} {b : List RA} (h : AtomRow w base v b) (hb : Below w.heap.size w w') : AtomRow w' base v b := by
  obtain ⟨rows, ho, hl, hr⟩ := h
  exact ⟨rows, own_below ho hb, hl, fun i a cs h1 h2 => (hr i a cs h1 h2).below hb⟩
theorem ClauseCs.below {w w' : World} {base : Nat} {c : RC} {cs : List Value} (h : ClauseCs w base c cs) (hb : Below w.heap.size w w') : ClauseCs w' base c cs := by
  obtain ⟨hc, bv, h1, h2, h3⟩ := h
  exact ⟨hc, bv, h1, h2.below hb, h3.below hb⟩
theorem ClRow.below {w w' : World} {base : Nat} {v : Value} {l : List RC} (h : ClRow w base v l) (hb : Below w.heap.size w w') : ClRow w' base v l := by
  obtain ⟨rows, ho, hl, hr⟩ := h
  exact ⟨rows, own_below ho hb, hl, fun i a cs h1 h2 => (hr i a cs h1 h2).below hb⟩
theorem AtomIs.mono {w : World} {base base' : Nat} {a : RA} {cs : List Value} (h : AtomIs w base a cs) (hb : base' ≤ base) : AtomIs w base' a cs := by
  obtain ⟨tv, hc, hl⟩ := h
  exact ⟨tv, hc, own_mono hl hb⟩
/-- An atom of a row: its five cells. -/
theorem ratom_at {w : World} {base : Nat} {ao : Option Addr} {n cap : Nat} {b : List RA} (h : AtomRow w base (.slice ao n cap) b) (hn : n = b.length) (i : Nat) (hi : i < b.length) :
    ∃ g tv, ao = some ⟨g, 0, none⟩ ∧ g < w.heap.size ∧ w.cell? ⟨g, i * 5, none⟩ = some (.string b[i].w) ∧ w.cell? ⟨g, i * 5 + 1, none⟩ = some tv ∧ w.cell? ⟨g, i * 5 + 2, none⟩ = some (.int .i64 (b[i].pl : Nat)) ∧ w.cell? ⟨g, i * 5 + 3, none⟩ = some (.int .i64 (b[i].bang : Nat)) ∧ w.cell? ⟨g, i * 5 + 4, none⟩ = some (.bool b[i].neg) ∧
      w.ownsRow base 130 3 tv b[i].ts.length (b[i].ts.flatMap RT.cells) := by
  subst hn
  obtain ⟨rows, ho, hl, hr⟩ := h
  have hall : ∀ r ∈ rows, r.length = 5 := by
    intro r hr'
    obtain ⟨j, hj, rfl⟩ := List.getElem_of_mem hr'
    exact (hr j b[j] rows[j] (by simp) (by simp)).len
  obtain ⟨g, rfl, hb, hc⟩ := own_at ho hall hl i hi
  obtain ⟨tv, hcs, ht⟩ := hr i b[i] rows[i] (by simp) (by simp)
  have e : rows.getD i [] = rows[i] := by simp [show i < rows.length by omega]
  rw [e, hcs] at hc
  exact ⟨g, tv, rfl, (ho.lt g rfl).2, hc 0 (by decide), hc 1 (by decide), hc 2 (by decide), hc 3 (by decide), hc 4 (by decide), ht⟩
/-- A clause of a row: its six cells. -/
theorem rclause_at {w : World} {base : Nat} {ao : Option Addr} {n cap : Nat} {l : List RC} (h : ClRow w base (.slice ao n cap) l) (hn : n = l.length) (i : Nat) (hi : i < l.length) :
    ∃ g tv bo bcap, ao = some ⟨g, 0, none⟩ ∧ g < w.heap.size ∧ w.cell? ⟨g, i * 6, none⟩ = some (.string l[i].head.w) ∧ w.cell? ⟨g, i * 6 + 1, none⟩ = some tv ∧ w.cell? ⟨g, i * 6 + 2, none⟩ = some (.int .i64 (l[i].head.pl : Nat)) ∧ w.cell? ⟨g, i * 6 + 3, none⟩ = some (.int .i64 (l[i].head.bang : Nat)) ∧ w.cell? ⟨g, i * 6 + 4, none⟩ = some (.bool l[i].head.neg) ∧
      w.cell? ⟨g, i * 6 + 5, none⟩ = some (.slice bo l[i].body.length bcap) ∧ w.ownsRow base 130 3 tv l[i].head.ts.length (l[i].head.ts.flatMap RT.cells) ∧ AtomRow w base (.slice bo l[i].body.length bcap) l[i].body := by
  subst hn
  obtain ⟨rows, ho, hl, hr⟩ := h
  have hall : ∀ r ∈ rows, r.length = 6 := by
    intro r hr'
    obtain ⟨j, hj, rfl⟩ := List.getElem_of_mem hr'
    exact (hr j l[j] rows[j] (by simp) (by simp)).len
  obtain ⟨g, rfl, hb, hc⟩ := own_at ho hall hl i hi
  obtain ⟨hcs, bv, e1, ⟨tv, e2, ht⟩, hB⟩ := hr i l[i] rows[i] (by simp) (by simp)
  have e : rows.getD i [] = rows[i] := by simp [show i < rows.length by omega]
  rw [e, e1, e2] at hc
  obtain ⟨brows, hbo, hbl, hbr⟩ := hB
  obtain ⟨bo, bcap, rfl⟩ := own_form hbo
  exact ⟨g, tv, bo, bcap, rfl, (ho.lt g rfl).2, hc 0 (by decide), hc 1 (by decide), hc 2 (by decide), hc 3 (by decide), hc 4 (by decide), hc 5 (by decide), ht, ⟨brows, hbo, hbl, hbr⟩⟩

theorem rterm_at {w : World} {base : Nat} {ao : Option Addr} {cap : Nat} {ts : List RT} (h : w.ownsRow base 130 3 (.slice ao ts.length cap) ts.length (ts.flatMap RT.cells)) (i : Nat) (hi : i < ts.length) :
    ∃ g, ao = some ⟨g, 0, none⟩ ∧ g < w.heap.size ∧ w.cell? ⟨g, i * 3, none⟩ = some (.string ts[i].w) ∧ w.cell? ⟨g, i * 3 + 1, none⟩ = some (.bool ts[i].var) ∧ w.cell? ⟨g, i * 3 + 2, none⟩ = some (.int .i64 (ts[i].pl : Nat)) := by
  have h' := h
  rw [flat_map] at h'
  obtain ⟨g, rfl, hb, hc⟩ := own_at h' (by intro r hr; simp at hr; obtain ⟨a, _, rfl⟩ := hr; rfl) (by simp) i hi
  have e : (ts.map RT.cells).getD i [] = ts[i].cells := by simp [hi]
  rw [e] at hc
  exact ⟨g, rfl, (h'.lt g rfl).2, hc 0 (by decide), hc 1 (by decide), hc 2 (by decide)⟩
def bindA (v : List UInt8) (a : RA) : Bool := !a.neg && a.ts.any fun t => t.var && decide (t.s = v)

set_option maxHeartbeats 2000000 in
set_option maxRecDepth 100000 in
theorem bound_c (w : World) (base : Nat) (c : RC) (nm : ByteArray) (tv : Value) (pl bg : Int) (ng : Bool) (bo : Option Addr) (bcap : Nat) (hR : AtomRow w base (.slice bo c.body.length bcap) c.body) (hn : c.body.length ≤ 40) (ht : ∀ a ∈ c.body, a.ts.length ≤ 40) (v : List UInt8) :
    Calls Tryz.prog 64 #[.agg #[.string nm, tv, .int .i64 pl, .int .i64 bg, .bool ng, .slice bo c.body.length bcap], .string (bs v)] w fun e w' => e = .returned (.bool (boundC c v)) ∧ Below w.heap.size w w' := by
  go_enter Tryz.func64, Tryz.ntmps64
  go_wp2
  go_loopw [5] (fun iv wr => ∃ (i : Nat), i ≤ c.body.length ∧ iv = .int .i64 i ∧ Hid ((c.body.drop i).any (bindA v) = boundC c v) ∧ Blk wr w.heap.size [.string nm, tv, .int .i64 pl, .int .i64 bg, .bool ng, .slice bo c.body.length bcap] 71 ∧ Below w.heap.size w wr) (fun iv _ => c.body.length - (intOf iv).toNat)
  case atStart => exact ⟨0, by omega, rfl, rfl, Blk.new w [.string nm, tv, .int .i64 pl, .int .i64 bg, .bool ng, .slice bo c.body.length bcap] 71, below_alloc _ _⟩
  case round =>
    obtain ⟨i, hi, rfl, HX, hC, hB⟩ := hrel
    have c5 : wr.cell? ⟨w.heap.size, 5, none⟩ = some (.slice bo c.body.length bcap) := hC.cell 5
    have hcw : w.heap.size < wr.heap.size := hC.lt
    by_cases hlt : i < c.body.length
    · obtain ⟨g, tw, rfl, hg, b0, b1, b2, b3, b4, hT⟩ := ratom_at hR rfl i hlt
      have htl := ht c.body[i] (List.getElem_mem hlt)
      have HD : Hid ((c.body.drop i).any (bindA v) = (bindA v c.body[i] || (c.body.drop (i + 1)).any (bindA v))) := by
        show _ = _
        rw [List.drop_eq_getElem_cons hlt, List.any_cons]
      generalize c.body[i] = a at *
      obtain ⟨tq, tcap, rfl⟩ := own_form hT
      have HB1 := hid b1
      have HB4 := hid b4
      rw [← hB.cell (p := ⟨g, i * 5 + 1, none⟩) hg] at b1
      clear b0 b2 b3 b4
      go_wp2_with fail
      go_loopw [6] (fun kv wq => ∃ (k : Nat), k ≤ a.ts.length ∧ kv = .int .i64 k ∧ Hid (((!a.neg && (a.ts.drop k).any fun t => t.var && decide (t.s = v)) || (c.body.drop (i + 1)).any (bindA v)) = boundC c v) ∧ Blk wq w.heap.size [.string nm, tv, .int .i64 pl, .int .i64 bg, .bool ng, .slice (some ⟨g, 0, none⟩) c.body.length bcap] 71 ∧ Below w.heap.size w wq) (fun kv _ => a.ts.length - (intOf kv).toNat)
      case atStart =>
        refine ⟨0, by omega, rfl, ?_, hC, hB⟩
        show _ = _
        rw [← HX.out, HD.out]; rfl
      case round =>
        clear hC hB c5 hcw b1
        obtain ⟨k, hk, rfl, HY, hC, hB⟩ := hrel
        have c5 : wr.cell? ⟨w.heap.size, 5, none⟩ = some (.slice (some ⟨g, 0, none⟩) c.body.length bcap) := hC.cell 5
        have hcw : w.heap.size < wr.heap.size := hC.lt
        have b1 := HB1.out
        have b4 := HB4.out
        rw [← hB.cell (p := ⟨g, i * 5 + 1, none⟩) hg] at b1
        rw [← hB.cell (p := ⟨g, i * 5 + 4, none⟩) hg] at b4
        have hgr : g < wr.heap.size := by omega
        by_cases hkl : k < a.ts.length
        · obtain ⟨g2, rfl, hg2, d0, d1, d2⟩ := rterm_at hT k hkl
          rw [← hB.cell (p := ⟨g2, k * 3, none⟩) hg2] at d0
          rw [← hB.cell (p := ⟨g2, k * 3 + 1, none⟩) hg2] at d1
          rw [← hB.cell (p := ⟨g2, k * 3 + 2, none⟩) hg2] at d2
          have HK : Hid ((a.ts.drop k).any (fun t => t.var && decide (t.s = v)) = ((a.ts[k].var && decide (a.ts[k].s = v)) || (a.ts.drop (k + 1)).any fun t => t.var && decide (t.s = v))) := by
            show _ = _
            rw [List.drop_eq_getElem_cons hkl, List.any_cons]
          have hq := str_beq a.ts[k].s v
          have hgr2 : g2 < wr.heap.size := by omega
          generalize a.ts[k] = t at *
          unfold RT.w at d0
          cases hng : a.neg
          · rw [hng] at b4
            cases hvr : t.var
            · rw [hvr] at d1
              have HN : Hid (((!a.neg && (a.ts.drop (k + 1)).any fun t => t.var && decide (t.s = v)) || (c.body.drop (i + 1)).any (bindA v)) = boundC c v) := by
                show _ = _
                rw [← HY.out, HK.out, hvr, Bool.false_and, Bool.false_or, hng]
              rw [hng] at HN
              go_wp2_with fail
              exact ⟨⟨k + 1, hkl, by go_num, HN, hC.alloc _, hB.alloc (by omega) _⟩, by simp [intOf]; omega⟩
            · rw [hvr] at d1
              cases heq : decide (t.s = v)
              · rw [heq] at hq
                have HN : Hid (((!a.neg && (a.ts.drop (k + 1)).any fun t => t.var && decide (t.s = v)) || (c.body.drop (i + 1)).any (bindA v)) = boundC c v) := by
                  show _ = _
                  rw [← HY.out, HK.out, hvr, heq, Bool.and_false, Bool.false_or, hng]
                rw [hng] at HN
                go_wp2_with fail
                exact ⟨⟨k + 1, hkl, by go_num, HN, hC.alloc _, hB.alloc (by omega) _⟩, by simp [intOf]; omega⟩
              · rw [heq] at hq
                have HE := hid (show boundC c v = true by rw [← HY.out, HK.out, hng, hvr, heq]; rfl)
                go_wp2_with fail
                go_ret
                rw [HE.out]
                exact ⟨rfl, hB.alloc (by omega) _⟩
          · rw [hng] at b4
            have HN : Hid (((!a.neg && (a.ts.drop (k + 1)).any fun t => t.var && decide (t.s = v)) || (c.body.drop (i + 1)).any (bindA v)) = boundC c v) := by
              show _ = _
              rw [← HY.out, hng]; rfl
            rw [hng] at HN
            go_wp2_with fail
            exact ⟨⟨k + 1, hkl, by go_num, HN, hC.alloc _, hB.alloc (by omega) _⟩, by simp [intOf]; omega⟩
        · have hke : k = a.ts.length := by omega
          have HN : Hid ((c.body.drop (i + 1)).any (bindA v) = boundC c v) := by
            show _ = _
            rw [← HY.out, hke, List.drop_length]
            simp
          clear hke
          go_wp2_with fail
          exact ⟨⟨i + 1, hlt, by go_num, HN, hC, hB⟩, by simp [intOf]; omega⟩
    · have hie : i = c.body.length := by omega
      have HE := hid (show boundC c v = false by rw [← HX.out, hie, List.drop_length]; rfl)
      clear hie
      go_wp2
      go_ret
      rw [HE.out]
      exact ⟨rfl, hB⟩

end Go.Proofs.YtpbfiffgcgnidaaGreatDoor

namespace Go.Proofs.YtpbfiffgcgnidaaGreatDoor
open Go.RowKit Go.WideMaps Go.Maps
attribute [local go_sem] drewN_alloc drewN_setCell

theorem infoRAtom : (Tryz.prog.info? 69).map (fun i => (i.zero, i.size, i.bytes)) = some (some (.agg #[.string ⟨#[]⟩, .slice none 0 0, .int .i64 0, .int .i64 0, .bool false]), 5, 64) := by kernel_rfl
/-- Atoms gathered in a row of one's own, their terms lying where they lay. -/
def Gather (w : World) (own base : Nat) (v : Value) (b : List RA) : Prop :=
  ∃ rows : List (List Value), w.ownsRow own 69 5 v b.length rows.flatten ∧ rows.length = b.length ∧ ∀ (i : Nat) (a : RA) (cs : List Value), b[i]? = some a → rows[i]? = some cs → AtomIs w base a cs
theorem AtomIs.kept {w w' : World} {base own : Nat} {a : RA} {cs : List Value} {v : Value} {n : Nat} {xs : List Value} (h : AtomIs w base a cs) (hg : w.grownBy w' v.ownBlock) (ho : w.ownsRow own 69 5 v n xs) : AtomIs w' base a cs := by
  obtain ⟨tv, hc, hl⟩ := h
  exact ⟨tv, hc, hl.kept hg (own_ne2 hl ho (by decide))⟩
theorem AtomIs.one {w : World} {base : Nat} {a : RA} {cs : List Value} (h : AtomIs w base a cs) : ∀ u ∈ cs, u.oneCell' = true := by
  obtain ⟨tv, rfl, hl⟩ := h
  obtain ⟨ao, cap, rfl⟩ := own_form hl
  intro u hu
  simp at hu
  rcases hu with rfl | rfl | rfl | rfl | rfl <;> rfl
/-- More atoms gathered. -/
theorem Gather.more {w w' : World} {own base : Nat} {v v' : Value} {b b2 : List RA} {rows rows2 : List (List Value)} (hl : rows.length = b.length) (hr : ∀ (i : Nat) (a : RA) (cs : List Value), b[i]? = some a → rows[i]? = some cs → AtomIs w base a cs)
    (hl2 : rows2.length = b2.length) (hr2 : ∀ (i : Nat) (a : RA) (cs : List Value), b2[i]? = some a → rows2[i]? = some cs → AtomIs w base a cs) (ho : w.ownsRow own 69 5 v b.length rows.flatten)
    (ho' : w'.ownsRow own 69 5 v' (b.length + b2.length) (rows.flatten ++ rows2.flatten)) (hg : w.grownBy w' v.ownBlock) : Gather w' own base v' (b ++ b2) := by
  refine ⟨rows ++ rows2, by rw [List.length_append, List.flatten_append]; exact ho', by simp [hl, hl2], ?_⟩
  intro i a cs h1 h2
  by_cases hi : i < b.length
  · rw [List.getElem?_append_left hi] at h1
    rw [List.getElem?_append_left (by omega)] at h2
    exact (hr i a cs h1 h2).kept hg ho
  · rw [List.getElem?_append_right (by omega)] at h1
    rw [List.getElem?_append_right (by omega), hl] at h2
    exact (hr2 _ a cs h1 h2).kept hg ho
theorem gather_rows {w w' : World} {own base : Nat} {v : Value} {b b2 : List RA} {rows rows2 : List (List Value)} (hl : rows.length = b.length) (hr : ∀ (i : Nat) (a : RA) (cs : List Value), b[i]? = some a → rows[i]? = some cs → AtomIs w base a cs)
    (hr2 : ∀ (i : Nat) (a : RA) (cs : List Value), b2[i]? = some a → rows2[i]? = some cs → AtomIs w base a cs) (ho : w.ownsRow own 69 5 v b.length rows.flatten) (hg : w.grownBy w' v.ownBlock) :
    ∀ (i : Nat) (a : RA) (cs : List Value), (b ++ b2)[i]? = some a → (rows ++ rows2)[i]? = some cs → AtomIs w' base a cs := by
  intro i a cs h1 h2
  by_cases hi : i < b.length
  · rw [List.getElem?_append_left hi] at h1
    rw [List.getElem?_append_left (by omega)] at h2
    exact (hr i a cs h1 h2).kept hg ho
  · rw [List.getElem?_append_right (by omega)] at h1
    rw [List.getElem?_append_right (by omega), hl] at h2
    exact (hr2 _ a cs h1 h2).kept hg ho
theorem own_room {w : World} {base : Nat} {e : TypeId} {size g n cap m : Nat} {xs : List Value} (h : w.ownsRow base e size (.slice (some ⟨g, 0, none⟩) n cap) m xs) : m ≤ cap ∧ n = m := by
  rcases h.2 with ⟨h1, _⟩ | ⟨g', cap', cur, hv, _, _, hc, _⟩
  · simp at h1
  · simp only [Value.slice.injEq] at hv
    obtain ⟨_, h2, h3⟩ := hv
    exact ⟨by omega, h2⟩
theorem wpList_append_ownM {P : Program} (w : World) {ops : Array Oper} {rest : List Oper} {o : Oper} {a : Act} {Q : Exit → Act → World → Prop} (hgd : o.guard = none) (s x : Operand) (t : TypeId)
    (ho : o.op = .call { callee := .builtin .append, args := #[s, x], argTypes := #[t, t] })
    (base : Nat) (e : TypeId) (i : TypeInfo) (z : Value) (size bytes : Nat) (ht : P.underlying t = some (.slice e)) (hi : P.info? e = some i) (hz : i.zero = some z)
    (hsize : i.size = size) (hby : i.bytes = bytes) (hzs : z.cells.size = size) (hsz : 0 < size)
    (v : Value) (n : Nat) (xs : List Value) (hs : a.eval s = v) (hown : w.ownsRow base e size v n xs) (hpos : 0 < n)
    (ad : Addr) (m c : Nat) (news : List Value) (hx : a.eval x = .slice (some ad) m c) (hl : news.length = m * size) (hnews : ∀ j u, news[j]? = some u → w.cell? (ad.add j) = some u) (h1 : ∀ u ∈ news, u.oneCell' = true)
    (h63 : n + m ≤ maxLen) (hbytes : (n + m) * bytes ≤ 140737488355328) (hbase : base ≤ w.heap.size)
    (h : ∀ g cap w', w'.ownsRow base e size (.slice (some ⟨g, 0, none⟩) (n + m) cap) (n + m) (xs ++ news) → w.grownBy w' v.ownBlock → wpList P ops Q rest (a.put o.dst (.slice (some ⟨g, 0, none⟩) (n + m) cap)) w') : wpList P ops Q (o :: rest) a w := by
  refine wpList_append_own w hgd s x t ho base e i z size bytes ht hi hz hsize hby hzs hsz v n xs hs hown ad m c news hx hl hnews h1 h63 hbytes hbase ?_
  intro v' w' h2 h3 _
  rcases h2.2 with ⟨hv, hn⟩ | ⟨g, cap, cur, hv, _⟩
  · omega
  · subst hv
    exact h g cap w' h2 h3
theorem atomsC_step (l : List RC) (i : Nat) (h : i < l.length) : atomsC (l.take (i + 1)) = atomsC (l.take i) ++ [l[i].head] ++ l[i].body := by
  unfold atomsC
  rw [List.take_succ_eq_append_getElem h, List.flatMap_append, List.flatMap_singleton, List.append_assoc]
  rfl

set_option maxHeartbeats 2000000 in
set_option maxRecDepth 100000 in
theorem atoms_r (w : World) (base : Nat) (ao : Option Addr) (cap : Nat) (l : List RC) (hL : ClRow w base (.slice ao l.length cap) l) (hn : l.length ≤ 40) (hb : ∀ c ∈ l, c.body.length ≤ 4) :
    Calls Tryz.prog 30 #[.slice ao l.length cap] w fun e w' => ∃ v, e = .returned v ∧ Gather w' w.heap.size base v (atomsC l) ∧ Below w.heap.size w w' := by
  obtain ⟨i1, hi1, hy0, hy1, hy2⟩ := info_parts infoRAtom
  go_enter Tryz.func30, Tryz.ntmps30
  go_wp2
  go_loopw [3, 4] (fun ov iv wr => ∃ (i : Nat), i ≤ l.length ∧ iv = .int .i64 i ∧ Gather wr w.heap.size base ov (atomsC (l.take i)) ∧ (atomsC (l.take i)).length ≤ 5 * i ∧ Below w.heap.size w wr) (fun _ iv _ => l.length - (intOf iv).toNat)
  case atStart => exact ⟨0, by omega, rfl, ⟨[], World.ownsRow_nil _ _ _ _, rfl, by simp [atomsC]⟩, by simp [atomsC], Below.refl _ _⟩
  case round =>
    obtain ⟨i, hi, rfl, hG, hle, hB⟩ := hrel
    by_cases hlt : i < l.length
    · obtain ⟨g, tv, bo, bcap, rfl, hg, b0, b1, b2, b3, b4, b5, hT, hR⟩ := rclause_at (hL.below (Below.refl _ w)) rfl i hlt
      have hstep := atomsC_step l i hlt
      have hbl := hb l[i] (List.getElem_mem hlt)
      generalize l[i] = c at *
      generalize hac : atomsC (l.take i) = acc at *
      have HST := hid hstep
      obtain ⟨rows, ho, hl, hr⟩ := hG
      obtain ⟨oo, ocap, rfl⟩ := own_form ho
      rw [← hB.cell (p := ⟨g, i * 6, none⟩) hg] at b0
      rw [← hB.cell (p := ⟨g, i * 6 + 1, none⟩) hg] at b1
      rw [← hB.cell (p := ⟨g, i * 6 + 2, none⟩) hg] at b2
      rw [← hB.cell (p := ⟨g, i * 6 + 3, none⟩) hg] at b3
      rw [← hB.cell (p := ⟨g, i * 6 + 4, none⟩) hg] at b4
      have hsz := hB.size
      clear hstep hac
      have hA0 : AtomIs w base c.head [.string c.head.w, tv, .int .i64 (c.head.pl : Nat), .int .i64 (c.head.bang : Nat), .bool c.head.neg] := ⟨tv, rfl, hT⟩
      have hone := hA0.one
      have HA0 := hid (hA0.below (hB.mono (Nat.le_refl _)))
      have HBR := hid (hR.below (hB.mono (Nat.le_refl _)))
      have hbs := own_base ho
      have hle1 : (acc ++ [c.head] ++ c.body).length = acc.length + 1 + c.body.length := by simp; omega
      rcases (show (bo = none ∧ c.body = [] ∧ bcap = 0) ∨ ∃ gb, bo = some ⟨gb, 0, none⟩ by
        obtain ⟨brows, hbo, _, _⟩ := hR
        rcases hbo.2 with ⟨h1, h2⟩ | ⟨gb, _, _, h1, _⟩
        · simp only [Value.slice.injEq] at h1
          exact .inl ⟨h1.1, List.eq_nil_of_length_eq_zero h2, h1.2.2⟩
        · simp only [Value.slice.injEq] at h1
          exact .inr ⟨gb, h1.1⟩) with ⟨rfl, hbe, rfl⟩ | ⟨gb, rfl⟩
      · rw [hbe, List.length_nil] at b5
        clear HBR hR
        go_wp2_with (at_builtin; refine wpList_append_ownS _ rfl _ _ 64 rfl w.heap.size 69 i1 _ 5 64 Tryz.underlying64 hi1 hy0 hy1 hy2 rfl (by decide) _ acc.length rows.flatten rfl (ho.alloc _) ⟨wr.heap.size, 0, none⟩ 1 [.string c.head.w, tv, .int .i64 (c.head.pl : Nat), .int .i64 (c.head.bang : Nat), .bool c.head.neg] rfl rfl (new_cells _ _ _) hone (by unfold maxLen; omega) (by omega) (by simp; omega) ?_; intro g2 cap2 w2 hL2 hg2; have hB2 : Below w.heap.size w w2 := (hB.alloc (by omega) _).grown hg2 (by simp; omega) hbs; have e5 := (hB2.cell (p := ⟨g, i * 6 + 5, none⟩) hg).trans b5; have hrm := (own_room hL2).1; have HG2 := hid (Gather.more (b := acc) (b2 := [c.head]) (rows2 := [[.string c.head.w, tv, .int .i64 (c.head.pl : Nat), .int .i64 (c.head.bang : Nat), .bool c.head.neg]]) hl (fun i a cs h1 h2 => (hr i a cs h1 h2).below (below_alloc wr _)) rfl (fun i a cs h1 h2 => by cases i with | zero => (simp at h1 h2; subst h1 h2; exact HA0.out.below (below_alloc wr _)) | succ i => simp at h1) (ho.alloc _) (by simpa using hL2) hg2); have hsz2 := hB2.size; have HR2 := hid (gather_rows (b := acc) (b2 := [c.head]) (rows2 := [[.string c.head.w, tv, .int .i64 (c.head.pl : Nat), .int .i64 (c.head.bang : Nat), .bool c.head.neg]]) hl (fun i a cs h1 h2 => (hr i a cs h1 h2).below (below_alloc wr _)) (fun i a cs h1 h2 => by cases i with | zero => (simp at h1 h2; subst h1 h2; exact HA0.out.below (below_alloc wr _)) | succ i => simp at h1) (ho.alloc _) hg2))
        have hst0 : atomsC (l.take (i + 1)) = acc ++ [c.head] := by rw [HST.out, hbe, List.append_nil]
        exact ⟨⟨i + 1, hlt, by go_num, by rw [hst0]; exact HG2.out, by rw [hst0, List.length_append, List.length_singleton]; omega, hB2⟩, by simp [intOf]; omega⟩
      · obtain ⟨brows, hbo, hbl2, hbr⟩ := hR
        have hbrl : brows.flatten.length = c.body.length * 5 := hbo.1
        have hbw2 : gb < w.heap.size := (hbo.lt gb rfl).2
        have hbone : ∀ u ∈ brows.flatten, u.oneCell' = true := by
          intro u hu
          rw [List.mem_flatten] at hu
          obtain ⟨r, hr1, hr2⟩ := hu
          obtain ⟨j, hj, rfl⟩ := List.getElem_of_mem hr1
          exact (hbr j c.body[j] brows[j] (by simp) (by simp)).one u hr2
        have HBC : Hid (∀ W : World, Below w.heap.size w W → ∀ j u, brows.flatten[j]? = some u → W.cell? ((⟨gb, 0, none⟩ : Addr).add j) = some u) := by
          intro W hW j u hj
          have hcell := hbo.cells (g := gb) rfl j u hj
          rw [Addr.add_lit] at hcell ⊢
          rw [hW.cell (p := ⟨gb, 0 + j, none⟩) hbw2]
          exact hcell
        have HBA : Hid (∀ W : World, Below w.heap.size w W → ∀ (i : Nat) (a : RA) (cs : List Value), c.body[i]? = some a → brows[i]? = some cs → AtomIs W base a cs) := fun W hW i a cs h1 h2 => (hbr i a cs h1 h2).below hW
        have HBL := hid hbl2
        clear HBR hbo hbr hbl2
        go_wp2_with (first | (at_builtin; have _t := hL2; (refine wpList_append_ownM _ rfl _ _ 64 rfl w.heap.size 69 i1 _ 5 64 Tryz.underlying64 hi1 hy0 hy1 hy2 rfl (by decide) _ (acc.length + 1) _ rfl hL2 (by omega) ⟨gb, 0, none⟩ c.body.length bcap brows.flatten rfl hbrl (HBC.out w2 hB2) hbone (by unfold maxLen; omega) (by omega) (by omega) ?_); intro g3 cap3 w3 hL3 hg3) | (at_builtin; refine wpList_append_ownS _ rfl _ _ 64 rfl w.heap.size 69 i1 _ 5 64 Tryz.underlying64 hi1 hy0 hy1 hy2 rfl (by decide) _ acc.length rows.flatten rfl (ho.alloc _) ⟨wr.heap.size, 0, none⟩ 1 [.string c.head.w, tv, .int .i64 (c.head.pl : Nat), .int .i64 (c.head.bang : Nat), .bool c.head.neg] rfl rfl (new_cells _ _ _) hone (by unfold maxLen; omega) (by omega) (by simp; omega) ?_; intro g2 cap2 w2 hL2 hg2; have hB2 : Below w.heap.size w w2 := (hB.alloc (by omega) _).grown hg2 (by simp; omega) hbs; have e5 := (hB2.cell (p := ⟨g, i * 6 + 5, none⟩) hg).trans b5; have hrm := (own_room hL2).1; have HG2 := hid (Gather.more (b := acc) (b2 := [c.head]) (rows2 := [[.string c.head.w, tv, .int .i64 (c.head.pl : Nat), .int .i64 (c.head.bang : Nat), .bool c.head.neg]]) hl (fun i a cs h1 h2 => (hr i a cs h1 h2).below (below_alloc wr _)) rfl (fun i a cs h1 h2 => by cases i with | zero => (simp at h1 h2; subst h1 h2; exact HA0.out.below (below_alloc wr _)) | succ i => simp at h1) (ho.alloc _) (by simpa using hL2) hg2); have hsz2 := hB2.size; have HR2 := hid (gather_rows (b := acc) (b2 := [c.head]) (rows2 := [[.string c.head.w, tv, .int .i64 (c.head.pl : Nat), .int .i64 (c.head.bang : Nat), .bool c.head.neg]]) hl (fun i a cs h1 h2 => (hr i a cs h1 h2).below (below_alloc wr _)) (fun i a cs h1 h2 => by cases i with | zero => (simp at h1 h2; subst h1 h2; exact HA0.out.below (below_alloc wr _)) | succ i => simp at h1) (ho.alloc _) hg2)))
        have hB3 : Below w.heap.size w w3 := hB2.grown hg3 (by omega) (own_base hL2)
        have hG3 := Gather.more (w := w2) (v := .slice (some ⟨g2, 0, none⟩) (acc.length + 1) cap2) (b := acc ++ [c.head]) (b2 := c.body) (rows := rows ++ [[.string c.head.w, tv, .int .i64 (c.head.pl : Nat), .int .i64 (c.head.bang : Nat), .bool c.head.neg]]) (rows2 := brows) (by simp [hl]) HR2.out HBL.out (HBA.out w2 hB2) (by simpa using hL2) (by simpa using hL3) (by exact hg3)
        exact ⟨⟨i + 1, hlt, by go_num, by rw [HST.out]; exact hG3, by rw [HST.out, hle1]; omega, hB3⟩, by simp [intOf]; omega⟩
    · have hie : i = l.length := by omega
      rw [hie, List.take_length] at hG
      clear hie
      go_wp2
      go_ret
      exact ⟨_, rfl, hG, hB⟩

end Go.Proofs.YtpbfiffgcgnidaaGreatDoor

namespace Go.Proofs.YtpbfiffgcgnidaaGreatDoor
open Go.RowKit Go.WideMaps Go.Maps
attribute [local go_sem] drewN_alloc drewN_setCell

/-- An atom that was gathered: its five cells. -/
theorem gather_at {w : World} {own base : Nat} {ao : Option Addr} {n cap : Nat} {b : List RA} (h : Gather w own base (.slice ao n cap) b) (hn : n = b.length) (i : Nat) (hi : i < b.length) :
    ∃ g tv, ao = some ⟨g, 0, none⟩ ∧ g < w.heap.size ∧ w.cell? ⟨g, i * 5, none⟩ = some (.string b[i].w) ∧ w.cell? ⟨g, i * 5 + 1, none⟩ = some tv ∧ w.cell? ⟨g, i * 5 + 2, none⟩ = some (.int .i64 (b[i].pl : Nat)) ∧ w.cell? ⟨g, i * 5 + 3, none⟩ = some (.int .i64 (b[i].bang : Nat)) ∧ w.cell? ⟨g, i * 5 + 4, none⟩ = some (.bool b[i].neg) ∧
      w.ownsRow base 130 3 tv b[i].ts.length (b[i].ts.flatMap RT.cells) := by
  subst hn
  obtain ⟨rows, ho, hl, hr⟩ := h
  have hall : ∀ r ∈ rows, r.length = 5 := by
    intro r hr'
    obtain ⟨j, hj, rfl⟩ := List.getElem_of_mem hr'
    exact (hr j b[j] rows[j] (by simp) (by simp)).len
  obtain ⟨g, rfl, hb, hc⟩ := own_at ho hall hl i hi
  obtain ⟨tv, hcs, ht⟩ := hr i b[i] rows[i] (by simp) (by simp)
  have e : rows.getD i [] = rows[i] := by simp [show i < rows.length by omega]
  rw [e, hcs] at hc
  exact ⟨g, tv, rfl, (ho.lt g rfl).2, hc 0 (by decide), hc 1 (by decide), hc 2 (by decide), hc 3 (by decide), hc 4 (by decide), ht⟩
theorem Gather.form {w : World} {own base : Nat} {v : Value} {b : List RA} (h : Gather w own base v b) : ∃ ao cap, v = .slice ao b.length cap := by
  obtain ⟨rows, ho, _, _⟩ := h
  exact own_form ho
theorem Gather.below {w w' : World} {own base : Nat} {v : Value} {b : List RA} (h : Gather w own base v b) (hb : Below w.heap.size w w') : Gather w' own base v b := by
  obtain ⟨rows, ho, hl, hr⟩ := h
  exact ⟨rows, own_below ho hb, hl, fun i a cs h1 h2 => (hr i a cs h1 h2).below hb⟩
theorem atomsC_len (l : List RC) (hb : ∀ c ∈ l, c.body.length ≤ 4) : (atomsC l).length ≤ 5 * l.length := by
  induction l with
  | nil => simp [atomsC]
  | cons c l ih =>
    have h1 := hb c (by simp)
    have h2 := ih (fun x hx => hb x (by simp [hx]))
    unfold atomsC at *
    simp only [List.flatMap_cons, List.length_append, List.length_cons]
    omega

set_option maxHeartbeats 2000000 in
set_option maxRecDepth 100000 in
theorem arity_r (w : World) (base : Nat) (ao : Option Addr) (cap : Nat) (l : List RC) (hL : ClRow w base (.slice ao l.length cap) l) (hn : l.length ≤ 40) (hb : ∀ c ∈ l, c.body.length ≤ 4) (nm : List UInt8) :
    Calls Tryz.prog 31 #[.slice ao l.length cap, .string (bs nm)] w fun e w' => e = .returned (.int .i64 (arityC (atomsC l) nm)) ∧ Below w.heap.size w w' := by
  have HAT := hid (atoms_r w base ao cap l hL hn hb)
  have hlen := atomsC_len l hb
  obtain ⟨all, HAL⟩ : ∃ all, Hid (all = atomsC l) := ⟨_, rfl⟩
  rw [← HAL.out] at HAT hlen ⊢
  clear HAL hL
  go_enter Tryz.func31, Tryz.ntmps31
  go_wp2_with fail
  refine (HAT.out).mono ?_
  rintro e w1 ⟨v, rfl, hG, hB⟩
  obtain ⟨oo, ocap, rfl⟩ := hG.form
  go_wp2_with fail
  go_loopw [6] (fun iv wr => ∃ (i : Nat), i ≤ all.length ∧ iv = .int .i64 i ∧ Hid (arityC (all.drop i) nm = arityC all nm) ∧ wr = w1) (fun iv _ => all.length - (intOf iv).toNat)
  case atStart => exact ⟨0, by omega, rfl, rfl, rfl⟩
  case round =>
    obtain ⟨i, hi, rfl, HX, rfl⟩ := hrel
    by_cases hlt : i < all.length
    · obtain ⟨g, tv, rfl, hg, b0, b1, b2, b3, b4, hT⟩ := gather_at hG rfl i hlt
      have HD : Hid (arityC (all.drop i) nm = if all[i].name = nm then ((all[i].ts.length : Nat) : Int) else arityC (all.drop (i + 1)) nm) := by
        show _ = _
        rw [List.drop_eq_getElem_cons hlt]
        unfold arityC
        rw [List.find?_cons]
        by_cases h : all[i].name = nm
        · simp [h]
        · simp [h]
      have hq := str_beq all[i].name nm
      generalize all[i] = a at *
      obtain ⟨tq, tcap, rfl⟩ := own_form hT
      unfold RA.w at b0
      cases hd : decide (a.name = nm)
      · rw [hd] at hq
        have hne : ¬ a.name = nm := by simpa using hd
        have HN : Hid (arityC (all.drop (i + 1)) nm = arityC all nm) := by
          show _ = _
          rw [← HX.out, HD.out, if_neg hne]
        clear hne hd
        go_wp2
        exact ⟨⟨i + 1, hlt, by go_num, HN, trivial⟩, by simp [intOf]; omega⟩
      · rw [hd] at hq
        have heq : a.name = nm := by simpa using hd
        have HE := hid (show arityC all nm = ((a.ts.length : Nat) : Int) by rw [← HX.out, HD.out, if_pos heq])
        clear heq hd
        go_wp2
        go_ret
        rw [HE.out]
        exact ⟨rfl, hB⟩
    · have hie : i = all.length := by omega
      have HE := hid (show arityC all nm = -1 by rw [← HX.out, hie, List.drop_length]; rfl)
      clear hie
      go_wp2
      go_ret
      rw [HE.out]
      exact ⟨rfl, hB⟩

end Go.Proofs.YtpbfiffgcgnidaaGreatDoor
