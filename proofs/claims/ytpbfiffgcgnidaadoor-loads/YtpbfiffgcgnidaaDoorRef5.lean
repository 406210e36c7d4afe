/-
  OUR OWN. The document's answer: clauses as they lie; all their atoms.
-/
import Derived.Test.YtpbfiffgcgnidaaDoorRef3
import Derived.Test.YtpbfiffgcgnidaaDoorFlt
namespace Go.Proofs.YtpbfiffgcgnidaaDoor
open Go.RowKit Go.WideMaps Go.Maps
attribute [local go_sem] drewN_alloc drewN_setCell

/-- Atoms in a row. -/
def AtomRow (w : World) (base : Nat) (v : Value) (b : List RA) : Prop :=
  ∃ rows : List (List Value), w.ownsRow base 55 5 v b.length rows.flatten ∧ rows.length = b.length ∧ ∀ (i : Nat) (a : RA) (cs : List Value), b[i]? = some a → rows[i]? = some cs → AtomIs w base a cs
def ClauseCs (w : World) (base : Nat) (c : RC) (cs : List Value) : Prop := ∃ hc bv, cs = hc ++ [bv] ∧ AtomIs w base c.head hc ∧ AtomRow w base bv c.body
/-- Clauses in a row. -/
def ClRow (w : World) (base : Nat) (v : Value) (l : List RC) : Prop :=
  ∃ rows : List (List Value), w.ownsRow base 57 6 v l.length rows.flatten ∧ rows.length = l.length ∧ ∀ (i : Nat) (c : RC) (cs : List Value), l[i]? = some c → rows[i]? = some cs → ClauseCs w base c cs
theorem AtomIs.len {w : World} {base : Nat} {a : RA} {cs : List Value} (h : AtomIs w base a cs) : cs.length = 5 := by obtain ⟨tv, rfl, _⟩ := h; rfl
theorem ClauseCs.len {w : World} {base : Nat} {c : RC} {cs : List Value} (h : ClauseCs w base c cs) : cs.length = 6 := by obtain ⟨hc, bv, rfl, h1, _⟩ := h; simp [h1.len]
theorem AtomIs.below {w w' : World} {base : Nat} {a : RA} {cs : List Value} (h : AtomIs w base a cs) (hb : Below w.heap.size w w') : AtomIs w' base a cs := by
  obtain ⟨tv, hc, hl⟩ := h
  exact ⟨tv, hc, own_below hl hb⟩
theorem AtomRow.below {w w' : World} {base : Nat} {v : Value} {b : List RA} (h : AtomRow w base v b) (hb : Below w.heap.size w w') : AtomRow w' base v b := by
  obtain ⟨rows, ho, hl, hr⟩ := h
  exact ⟨rows, own_below ho hb, hl, fun i a cs h1 h2 => (hr i a cs h1 h2).below hb⟩
theorem ClauseCs.below {w w' : World} {base : Nat} {c : RC} {cs : List Value} (h : ClauseCs w base c cs) (hb : Below w.heap.size w w') : ClauseCs w' base c cs := by
  obtain ⟨hc, bv, h1, h2, h3⟩ := h
  exact ⟨hc, bv, h1, h2.below hb, h3.below hb⟩
theorem ClRow.below {w w' : World} {base : Nat} {v : Value} {l : List RC} (h : ClRow w base v l) (hb : Below w.heap.size w w') : ClRow w' base v l := by
  obtain ⟨rows, ho, hl, hr⟩ := h
  exact ⟨rows, own_below ho hb, hl, fun i a cs h1 h2 => (hr i a cs h1 h2).below hb⟩
theorem AtomIs.mono {w : World} {base base' : Nat} {a : RA} {cs : List Value} (h : AtomIs w base a cs) (hb : base' ≤ base) : AtomIs w base' a cs := by
  obtain ⟨tv, hc, hl⟩ := h
  exact ⟨tv, hc, own_mono hl hb⟩
/-- An atom of a row: its five cells. -/
theorem ratom_at {w : World} {base : Nat} {ao : Option Addr} {n cap : Nat} {b : List RA} (h : AtomRow w base (.slice ao n cap) b) (hn : n = b.length) (i : Nat) (hi : i < b.length) :
    ∃ g tv, ao = some ⟨g, 0, none⟩ ∧ g < w.heap.size ∧ w.cell? ⟨g, i * 5, none⟩ = some (.string b[i].w) ∧ w.cell? ⟨g, i * 5 + 1, none⟩ = some tv ∧ w.cell? ⟨g, i * 5 + 2, none⟩ = some (.int .i64 (b[i].pl : Nat)) ∧ w.cell? ⟨g, i * 5 + 3, none⟩ = some (.int .i64 (b[i].bang : Nat)) ∧ w.cell? ⟨g, i * 5 + 4, none⟩ = some (.bool b[i].neg) ∧
      w.ownsRow base 88 3 tv b[i].ts.length (b[i].ts.flatMap RT.cells) := by
  subst hn
  obtain ⟨rows, ho, hl, hr⟩ := h
  have hall : ∀ r ∈ rows, r.length = 5 := by
    intro r hr'
    obtain ⟨j, hj, rfl⟩ := List.getElem_of_mem hr'
    exact (hr j b[j] rows[j] (by simp) (by simp)).len
  obtain ⟨g, rfl, hb, hc⟩ := own_at ho hall hl i hi
  obtain ⟨tv, hcs, ht⟩ := hr i b[i] rows[i] (by simp) (by simp)
  have e : rows.getD i [] = rows[i] := by simp [show i < rows.length by omega]
  rw [e, hcs] at hc
  exact ⟨g, tv, rfl, (ho.lt g rfl).2, hc 0 (by decide), hc 1 (by decide), hc 2 (by decide), hc 3 (by decide), hc 4 (by decide), ht⟩
/-- A clause of a row: its six cells. -/
theorem rclause_at {w : World} {base : Nat} {ao : Option Addr} {n cap : Nat} {l : List RC} (h : ClRow w base (.slice ao n cap) l) (hn : n = l.length) (i : Nat) (hi : i < l.length) :
    ∃ g tv bo bcap, ao = some ⟨g, 0, none⟩ ∧ g < w.heap.size ∧ w.cell? ⟨g, i * 6, none⟩ = some (.string l[i].head.w) ∧ w.cell? ⟨g, i * 6 + 1, none⟩ = some tv ∧ w.cell? ⟨g, i * 6 + 2, none⟩ = some (.int .i64 (l[i].head.pl : Nat)) ∧ w.cell? ⟨g, i * 6 + 3, none⟩ = some (.int .i64 (l[i].head.bang : Nat)) ∧ w.cell? ⟨g, i * 6 + 4, none⟩ = some (.bool l[i].head.neg) ∧
      w.cell? ⟨g, i * 6 + 5, none⟩ = some (.slice bo l[i].body.length bcap) ∧ w.ownsRow base 88 3 tv l[i].head.ts.length (l[i].head.ts.flatMap RT.cells) ∧ AtomRow w base (.slice bo l[i].body.length bcap) l[i].body := by
  subst hn
  obtain ⟨rows, ho, hl, hr⟩ := h
  have hall : ∀ r ∈ rows, r.length = 6 := by
    intro r hr'
    obtain ⟨j, hj, rfl⟩ := List.getElem_of_mem hr'
    exact (hr j l[j] rows[j] (by simp) (by simp)).len
  obtain ⟨g, rfl, hb, hc⟩ := own_at ho hall hl i hi
  obtain ⟨hcs, bv, e1, ⟨tv, e2, ht⟩, hB⟩ := hr i l[i] rows[i] (by simp) (by simp)
  have e : rows.getD i [] = rows[i] := by simp [show i < rows.length by omega]
  rw [e, e1, e2] at hc
  obtain ⟨brows, hbo, hbl, hbr⟩ := hB
  obtain ⟨bo, bcap, rfl⟩ := own_form hbo
  exact ⟨g, tv, bo, bcap, rfl, (ho.lt g rfl).2, hc 0 (by decide), hc 1 (by decide), hc 2 (by decide), hc 3 (by decide), hc 4 (by decide), hc 5 (by decide), ht, ⟨brows, hbo, hbl, hbr⟩⟩

theorem rterm_at {w : World} {base : Nat} {ao : Option Addr} {cap : Nat} {ts : List RT} (h : w.ownsRow base 88 3 (.slice ao ts.length cap) ts.length (ts.flatMap RT.cells)) (i : Nat) (hi : i < ts.length) :
    ∃ g, ao = some ⟨g, 0, none⟩ ∧ g < w.heap.size ∧ w.cell? ⟨g, i * 3, none⟩ = some (.string ts[i].w) ∧ w.cell? ⟨g, i * 3 + 1, none⟩ = some (.bool ts[i].var) ∧ w.cell? ⟨g, i * 3 + 2, none⟩ = some (.int .i64 (ts[i].pl : Nat)) := by
  have h' := h
  rw [flat_map] at h'
  obtain ⟨g, rfl, hb, hc⟩ := own_at h' (by intro r hr; simp at hr; obtain ⟨a, _, rfl⟩ := hr; rfl) (by simp) i hi
  have e : (ts.map RT.cells).getD i [] = ts[i].cells := by simp [hi]
  rw [e] at hc
  exact ⟨g, rfl, (h'.lt g rfl).2, hc 0 (by decide), hc 1 (by decide), hc 2 (by decide)⟩
def bindA (v : List UInt8) (a : RA) : Bool := !a.neg && a.ts.any fun t => t.var && decide (t.s = v)

set_option maxHeartbeats 2000000 in
set_option maxRecDepth 100000 in
theorem bound_c (w : World) (base : Nat) (c : RC) (nm : ByteArray) (tv : Value) (pl bg : Int) (ng : Bool) (bo : Option Addr) (bcap : Nat) (hR : AtomRow w base (.slice bo c.body.length bcap) c.body) (hn : c.body.length ≤ 40) (ht : ∀ a ∈ c.body, a.ts.length ≤ 40) (v : List UInt8) :
    Calls Tryd.prog 25 #[.agg #[.string nm, tv, .int .i64 pl, .int .i64 bg, .bool ng, .slice bo c.body.length bcap], .string (bs v)] w fun e w' => e = .returned (.bool (boundC c v)) ∧ Below w.heap.size w w' := by
  go_enter Tryd.func25, Tryd.ntmps25
  go_wp2
  go_loopw [5] (fun iv wr => ∃ (i : Nat), i ≤ c.body.length ∧ iv = .int .i64 i ∧ Hid ((c.body.drop i).any (bindA v) = boundC c v) ∧ Blk wr w.heap.size [.string nm, tv, .int .i64 pl, .int .i64 bg, .bool ng, .slice bo c.body.length bcap] 57 ∧ Below w.heap.size w wr) (fun iv _ => c.body.length - (intOf iv).toNat)
  case atStart => exact ⟨0, by omega, rfl, rfl, Blk.new w [.string nm, tv, .int .i64 pl, .int .i64 bg, .bool ng, .slice bo c.body.length bcap] 57, below_alloc _ _⟩
  case round =>
    obtain ⟨i, hi, rfl, HX, hC, hB⟩ := hrel
    have c5 : wr.cell? ⟨w.heap.size, 5, none⟩ = some (.slice bo c.body.length bcap) := hC.cell 5
    have hcw : w.heap.size < wr.heap.size := hC.lt
    by_cases hlt : i < c.body.length
    · obtain ⟨g, tw, rfl, hg, b0, b1, b2, b3, b4, hT⟩ := ratom_at hR rfl i hlt
      have htl := ht c.body[i] (List.getElem_mem hlt)
      have HD : Hid ((c.body.drop i).any (bindA v) = (bindA v c.body[i] || (c.body.drop (i + 1)).any (bindA v))) := by
        show _ = _
        rw [List.drop_eq_getElem_cons hlt, List.any_cons]
      generalize c.body[i] = a at *
      obtain ⟨tq, tcap, rfl⟩ := own_form hT
      have HB1 := hid b1
      have HB4 := hid b4
      rw [← hB.cell (p := ⟨g, i * 5 + 1, none⟩) hg] at b1
      clear b0 b2 b3 b4
      go_wp2_with fail
      go_loopw [6] (fun kv wq => ∃ (k : Nat), k ≤ a.ts.length ∧ kv = .int .i64 k ∧ Hid (((!a.neg && (a.ts.drop k).any fun t => t.var && decide (t.s = v)) || (c.body.drop (i + 1)).any (bindA v)) = boundC c v) ∧ Blk wq w.heap.size [.string nm, tv, .int .i64 pl, .int .i64 bg, .bool ng, .slice (some ⟨g, 0, none⟩) c.body.length bcap] 57 ∧ Below w.heap.size w wq) (fun kv _ => a.ts.length - (intOf kv).toNat)
      case atStart =>
        refine ⟨0, by omega, rfl, ?_, hC, hB⟩
        show _ = _
        rw [← HX.out, HD.out]; rfl
      case round =>
        clear hC hB c5 hcw b1
        obtain ⟨k, hk, rfl, HY, hC, hB⟩ := hrel
        have c5 : wr.cell? ⟨w.heap.size, 5, none⟩ = some (.slice (some ⟨g, 0, none⟩) c.body.length bcap) := hC.cell 5
        have hcw : w.heap.size < wr.heap.size := hC.lt
        have b1 := HB1.out
        have b4 := HB4.out
        rw [← hB.cell (p := ⟨g, i * 5 + 1, none⟩) hg] at b1
        rw [← hB.cell (p := ⟨g, i * 5 + 4, none⟩) hg] at b4
        have hgr : g < wr.heap.size := by omega
        by_cases hkl : k < a.ts.length
        · obtain ⟨g2, rfl, hg2, d0, d1, d2⟩ := rterm_at hT k hkl
          rw [← hB.cell (p := ⟨g2, k * 3, none⟩) hg2] at d0
          rw [← hB.cell (p := ⟨g2, k * 3 + 1, none⟩) hg2] at d1
          rw [← hB.cell (p := ⟨g2, k * 3 + 2, none⟩) hg2] at d2
          have HK : Hid ((a.ts.drop k).any (fun t => t.var && decide (t.s = v)) = ((a.ts[k].var && decide (a.ts[k].s = v)) || (a.ts.drop (k + 1)).any fun t => t.var && decide (t.s = v))) := by
            show _ = _
            rw [List.drop_eq_getElem_cons hkl, List.any_cons]
          have hq := str_beq a.ts[k].s v
          have hgr2 : g2 < wr.heap.size := by omega
          generalize a.ts[k] = t at *
          unfold RT.w at d0
          cases hng : a.neg
          · rw [hng] at b4
            cases hvr : t.var
            · rw [hvr] at d1
              have HN : Hid (((!a.neg && (a.ts.drop (k + 1)).any fun t => t.var && decide (t.s = v)) || (c.body.drop (i + 1)).any (bindA v)) = boundC c v) := by
                show _ = _
                rw [← HY.out, HK.out, hvr, Bool.false_and, Bool.false_or, hng]
              rw [hng] at HN
              go_wp2_with fail
              exact ⟨⟨k + 1, hkl, by go_num, HN, hC.alloc _, hB.alloc (by omega) _⟩, by simp [intOf]; omega⟩
            · rw [hvr] at d1
              cases heq : decide (t.s = v)
              · rw [heq] at hq
                have HN : Hid (((!a.neg && (a.ts.drop (k + 1)).any fun t => t.var && decide (t.s = v)) || (c.body.drop (i + 1)).any (bindA v)) = boundC c v) := by
                  show _ = _
                  rw [← HY.out, HK.out, hvr, heq, Bool.and_false, Bool.false_or, hng]
                rw [hng] at HN
                go_wp2_with fail
                exact ⟨⟨k + 1, hkl, by go_num, HN, hC.alloc _, hB.alloc (by omega) _⟩, by simp [intOf]; omega⟩
              · rw [heq] at hq
                have HE := hid (show boundC c v = true by rw [← HY.out, HK.out, hng, hvr, heq]; rfl)
                go_wp2_with fail
                go_ret
                rw [HE.out]
                exact ⟨rfl, hB.alloc (by omega) _⟩
          · rw [hng] at b4
            have HN : Hid (((!a.neg && (a.ts.drop (k + 1)).any fun t => t.var && decide (t.s = v)) || (c.body.drop (i + 1)).any (bindA v)) = boundC c v) := by
              show _ = _
              rw [← HY.out, hng]; rfl
            rw [hng] at HN
            go_wp2_with fail
            exact ⟨⟨k + 1, hkl, by go_num, HN, hC.alloc _, hB.alloc (by omega) _⟩, by simp [intOf]; omega⟩
        · have hke : k = a.ts.length := by omega
          have HN : Hid ((c.body.drop (i + 1)).any (bindA v) = boundC c v) := by
            show _ = _
            rw [← HY.out, hke, List.drop_length]
            simp
          clear hke
          go_wp2_with fail
          exact ⟨⟨i + 1, hlt, by go_num, HN, hC, hB⟩, by simp [intOf]; omega⟩
    · have hie : i = c.body.length := by omega
      have HE := hid (show boundC c v = false by rw [← HX.out, hie, List.drop_length]; rfl)
      clear hie
      go_wp2
      go_ret
      rw [HE.out]
      exact ⟨rfl, hB⟩

end Go.Proofs.YtpbfiffgcgnidaaDoor
