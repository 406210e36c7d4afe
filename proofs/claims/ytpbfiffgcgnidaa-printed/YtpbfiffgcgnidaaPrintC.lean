/-
  OUR OWN. Printing: a clause, a program, a base.
-/
import Derived.Test.YtpbfiffgcgnidaaPrintA
namespace Go.Proofs.Ytpbfiffgcgnidaa
open Go.RowKit Go.WideMaps Go.Maps
attribute [local go_sem] drewN_alloc drewN_setCell

def showL (i : Nat) (l : LitD) : List UInt8 := (if i = 0 then [58, 45] else [44]) ++ ((if l.neg = true then [33] else []) ++ showA l.name l.ts)
def showB : Nat → List LitD → List UInt8
  | _, [] => []
  | i, l :: r => showL i l ++ showB (i + 1) r
def ClD.shown (d : ClD) : List UInt8 := showA d.name d.ts ++ showB 0 d.lits ++ [46]
def shownAll (ds : List ClD) : List UInt8 := ds.flatMap fun d => d.shown ++ [10]
theorem showB_snoc (i : Nat) (ls : List LitD) (l : LitD) : showB i (ls ++ [l]) = showB i ls ++ showL (i + ls.length) l := by
  induction ls generalizing i with
  | nil => simp [showB]
  | cons a r ih => simp only [List.cons_append, showB, ih, List.length_cons, List.append_assoc]; rw [show i + 1 + r.length = i + (r.length + 1) by omega]
theorem showA_len (n : List UInt8) (ts : List (List UInt8)) (hn : n.length ≤ 12) (h3 : ts.length ≤ 3) (ht : ∀ t ∈ ts, t.length ≤ 12) : (showA n ts).length ≤ 60 := by
  have := join_len ts ht
  unfold showA
  split
  · omega
  · simp; omega

set_option maxHeartbeats 2000000 in
set_option maxRecDepth 100000 in
theorem printClause_c (w : World) (B b base : Nat) (l : List UInt8) (d : ClD) (bo : Option Addr) (bcap : Nat) (h : Bld w B b l) (hB : B ≤ w.heap.size) (hl : l.length ≤ 500000) (hwf : d.WF)
    (hL : w.ownsRow base 90 6 (.slice bo d.lits.length bcap) d.lits.length (d.lits.flatMap LitD.cells)) :
    Calls Try.prog 24 #[.pointer (some ⟨b, 0, none⟩), .agg #[.string (bs d.name), .int .i64 (d.ts.length : Nat), .string (bs (d.ts.getD 0 [])), .string (bs (d.ts.getD 1 [])), .string (bs (d.ts.getD 2 [])), .slice bo d.lits.length bcap]] w fun e w' => e = .returned (.tuple #[]) ∧ Bld w' B b (l ++ d.shown) ∧ KeptX B b [5] w w' := by
  have hblt := h.lt
  have hl4 := hwf.lits
  have hh := hwf.words (d.name, d.ts) (by simp [ClD.atoms])
  have hha := showA_len d.name d.ts hh.1 hh.2.1 hh.2.2
  obtain ⟨y0, Y0⟩ : ∃ y0, Hid (y0 = bs (d.ts.getD 0 [])) := ⟨_, rfl⟩
  obtain ⟨y1, Y1⟩ : ∃ y1, Hid (y1 = bs (d.ts.getD 1 [])) := ⟨_, rfl⟩
  obtain ⟨y2, Y2⟩ : ∃ y2, Hid (y2 = bs (d.ts.getD 2 [])) := ⟨_, rfl⟩
  have hpa := fun (W : World) (hb : Bld W B b l) (hs : B ≤ W.heap.size) => printAtom_c W B b l d.name d.ts hb hs (by omega) hh.1 hh.2.1 hh.2.2
  rw [← Y0.out, ← Y1.out, ← Y2.out]
  rw [← Y0.out, ← Y1.out, ← Y2.out] at hpa
  have HPA := hid hpa
  clear hpa
  have hbx0 := Blk.new w [Value.string (bs d.name), .int .i64 (d.ts.length : Nat), .string y0, .string y1, .string y2, .slice bo d.lits.length bcap] 54
  have hX0 : KeptX B b [5] w (w.alloc (.cells #[Value.string (bs d.name), .int .i64 (d.ts.length : Nat), .string y0, .string y1, .string y2, .slice bo d.lits.length bcap] 54)) := KeptX.alloc _ _ hB
  go_enter Try.func24, Try.ntmps24
  go_wp2_with (go_at_call 37; refine (HPA.out _ (by exact h.alloc _) (by simp; omega)).mono ?_; rintro e w1 ⟨rfl, hb1, hX1⟩; have hbx1 := hX1.ty _ _ _ (by omega) (by decide) hbx0; have f5 := hbx1.cell 5; simp at f5)
  have hXw1 := hX0.trans hX1
  clear hX0 hX1 hbx0
  go_loopw [13] (fun kv wr => ∃ (k : Nat), k ≤ d.lits.length ∧ kv = .int .i64 k ∧ (l ++ showA d.name d.ts ++ showB 0 (d.lits.take k)).length ≤ 500060 + 70 * k ∧ Bld wr B b (l ++ showA d.name d.ts ++ showB 0 (d.lits.take k)) ∧ KeptX B b [5] w wr) (fun kv _ => d.lits.length - (intOf kv).toNat)
  case atStart => exact ⟨0, by omega, rfl, by simp [showB]; omega, by simpa [showB] using hb1, hXw1⟩
  case round =>
    clear hb1 hXw1 f5 hbx1
    obtain ⟨k, hk, rfl, hlk, hb, hX⟩ := hrel
    have hsz : B ≤ wr.heap.size := by have := hX.size; omega
    have hbl := hb.lt
    by_cases hlt : k < d.lits.length
    · obtain ⟨g0, hao, hg0, e0, e1, e2, e3, e4, e5⟩ := lits_at (hX.own hL (by obtain ⟨p, v, h1, _⟩ := h; exact own_ne hL h1 (by decide)) (by decide)) k hlt
      subst hao
      have hwl := hwf.words (d.lits[k].name, d.lits[k].ts) (by simp only [ClD.atoms, List.mem_cons, List.mem_map]; exact .inr ⟨d.lits[k], List.getElem_mem hlt, rfl⟩)
      have HT := hid (show showB 0 (d.lits.take (k + 1)) = showB 0 (d.lits.take k) ++ showL k d.lits[k] by rw [List.take_succ_eq_append_getElem hlt, showB_snoc]; simp; rw [Nat.min_eq_left (by omega)])
      generalize d.lits[k] = L at *
      generalize hacc0 : l ++ showA d.name d.ts ++ showB 0 (d.lits.take k) = acc at *
      have HACC := hid hacc0
      clear hacc0
      have hsa := showA_len L.name L.ts hwl.1 hwl.2.1 hwl.2.2
      have HPL : Hid (∀ (W : World) (ac : List UInt8), Bld W B b ac → B ≤ W.heap.size → ac.length ≤ 900000 → Calls Try.prog 37 #[.pointer (some ⟨b, 0, none⟩), .agg #[.string L.nm, .int .i64 L.cn, .string (L.t 0), .string (L.t 1), .string (L.t 2)]] W fun e w' => e = .returned (.tuple #[]) ∧ Bld w' B b (ac ++ showA L.name L.ts) ∧ KeptX B b [5] W w') :=
        fun W ac h1 h2 h3 => printAtom_c W B b ac L.name L.ts h1 h2 h3 hwl.1 hwl.2.1 hwl.2.2
      have hbx0 := Blk.new wr [Value.string L.nm, .int .i64 L.cn, .string (L.t 0), .string (L.t 1), .string (L.t 2), .bool L.neg] 90
      by_cases hk0 : k = 0
      · cases hng : L.neg
        · have HLs := hid (show showL k L = [58, 45] ++ ([] ++ showA L.name L.ts) by simp [showL, hng, hk0])
          have hq : (((k : Nat) : Int) == 0) = true := by rw [beq_iff_eq]; omega
          clear hk0
          rw [hng] at e5 hbx0
          go_wp2_with fail
          refine (writeString_c _ B b acc [58, 45] (by exact hb.alloc _) (by simp; omega) (by omega) (by simp)).mono ?_
          rintro e w1 ⟨rfl, hb1, hX1⟩
          have hbx1 := hX1.ty _ _ _ (by omega) (by decide) hbx0
          have hs1 : B ≤ w1.heap.size := by have := hX1.size; simp at this; omega
          obtain ⟨c0, c1, c2, c3, c4, c5⟩ := hbx1.c6
          go_wp2_with fail
          refine (HPL.out _ (acc ++ [58, 45]) hb1 hs1 (by simp; omega)).mono ?_
          rintro e w3 ⟨rfl, hb3, hX3⟩
          go_wp2_with fail
          have hfin : acc ++ showL k L = acc ++ [58, 45] ++ showA L.name L.ts := by rw [HLs.out]; simp
          exact ⟨⟨k + 1, hlt, by go_num, by rw [HT.out, ← List.append_assoc, HACC.out, hfin]; simp; omega, by rw [HT.out, ← List.append_assoc, HACC.out, hfin]; exact hb3, ((hX.trans (KeptX.alloc _ _ hsz)).trans hX1).trans hX3⟩, by simp [intOf]; omega⟩
        · have HLs := hid (show showL k L = [58, 45] ++ ([33] ++ showA L.name L.ts) by simp [showL, hng, hk0])
          have hq : (((k : Nat) : Int) == 0) = true := by rw [beq_iff_eq]; omega
          clear hk0
          rw [hng] at e5 hbx0
          go_wp2_with fail
          refine (writeString_c _ B b acc [58, 45] (by exact hb.alloc _) (by simp; omega) (by omega) (by simp)).mono ?_
          rintro e w1 ⟨rfl, hb1, hX1⟩
          have hbx1 := hX1.ty _ _ _ (by omega) (by decide) hbx0
          have hs1 : B ≤ w1.heap.size := by have := hX1.size; simp at this; omega
          obtain ⟨c0, c1, c2, c3, c4, c5⟩ := hbx1.c6
          go_wp2_with fail
          refine (writeByte_c _ B b (acc ++ [58, 45]) 33 _ rfl hb1 hs1 (by simp; omega)).mono ?_
          rintro e w2 ⟨rfl, hb2, hX2⟩
          have hbx2 := hX2.ty _ _ _ (by omega) (by decide) hbx1
          have hs2 : B ≤ w2.heap.size := by have := hX2.size; omega
          clear c0 c1 c2 c3 c4 c5
          obtain ⟨c0, c1, c2, c3, c4, c5⟩ := hbx2.c6
          go_wp2_with fail
          refine (HPL.out _ (acc ++ [58, 45] ++ [33]) hb2 hs2 (by simp; omega)).mono ?_
          rintro e w3 ⟨rfl, hb3, hX3⟩
          go_wp2_with fail
          have hfin : acc ++ showL k L = acc ++ [58, 45] ++ [33] ++ showA L.name L.ts := by rw [HLs.out]; simp
          exact ⟨⟨k + 1, hlt, by go_num, by rw [HT.out, ← List.append_assoc, HACC.out, hfin]; simp; omega, by rw [HT.out, ← List.append_assoc, HACC.out, hfin]; exact hb3, (((hX.trans (KeptX.alloc _ _ hsz)).trans hX1).trans hX2).trans hX3⟩, by simp [intOf]; omega⟩
      · cases hng : L.neg
        · have HLs := hid (show showL k L = [44] ++ ([] ++ showA L.name L.ts) by simp [showL, hng, hk0])
          have hq : (((k : Nat) : Int) == 0) = false := by rw [beq_eq_false_iff_ne]; omega
          clear hk0
          rw [hng] at e5 hbx0
          go_wp2_with fail
          refine (writeByte_c _ B b acc 44 _ rfl (by exact hb.alloc _) (by simp; omega) (by omega)).mono ?_
          rintro e w1 ⟨rfl, hb1, hX1⟩
          have hbx1 := hX1.ty _ _ _ (by omega) (by decide) hbx0
          have hs1 : B ≤ w1.heap.size := by have := hX1.size; simp at this; omega
          obtain ⟨c0, c1, c2, c3, c4, c5⟩ := hbx1.c6
          go_wp2_with fail
          refine (HPL.out _ (acc ++ [44]) hb1 hs1 (by simp; omega)).mono ?_
          rintro e w3 ⟨rfl, hb3, hX3⟩
          go_wp2_with fail
          have hfin : acc ++ showL k L = acc ++ [44] ++ showA L.name L.ts := by rw [HLs.out]; simp
          exact ⟨⟨k + 1, hlt, by go_num, by rw [HT.out, ← List.append_assoc, HACC.out, hfin]; simp; omega, by rw [HT.out, ← List.append_assoc, HACC.out, hfin]; exact hb3, ((hX.trans (KeptX.alloc _ _ hsz)).trans hX1).trans hX3⟩, by simp [intOf]; omega⟩
        · have HLs := hid (show showL k L = [44] ++ ([33] ++ showA L.name L.ts) by simp [showL, hng, hk0])
          have hq : (((k : Nat) : Int) == 0) = false := by rw [beq_eq_false_iff_ne]; omega
          clear hk0
          rw [hng] at e5 hbx0
          go_wp2_with fail
          refine (writeByte_c _ B b acc 44 _ rfl (by exact hb.alloc _) (by simp; omega) (by omega)).mono ?_
          rintro e w1 ⟨rfl, hb1, hX1⟩
          have hbx1 := hX1.ty _ _ _ (by omega) (by decide) hbx0
          have hs1 : B ≤ w1.heap.size := by have := hX1.size; simp at this; omega
          obtain ⟨c0, c1, c2, c3, c4, c5⟩ := hbx1.c6
          go_wp2_with fail
          refine (writeByte_c _ B b (acc ++ [44]) 33 _ rfl hb1 hs1 (by simp; omega)).mono ?_
          rintro e w2 ⟨rfl, hb2, hX2⟩
          have hbx2 := hX2.ty _ _ _ (by omega) (by decide) hbx1
          have hs2 : B ≤ w2.heap.size := by have := hX2.size; omega
          clear c0 c1 c2 c3 c4 c5
          obtain ⟨c0, c1, c2, c3, c4, c5⟩ := hbx2.c6
          go_wp2_with fail
          refine (HPL.out _ (acc ++ [44] ++ [33]) hb2 hs2 (by simp; omega)).mono ?_
          rintro e w3 ⟨rfl, hb3, hX3⟩
          go_wp2_with fail
          have hfin : acc ++ showL k L = acc ++ [44] ++ [33] ++ showA L.name L.ts := by rw [HLs.out]; simp
          exact ⟨⟨k + 1, hlt, by go_num, by rw [HT.out, ← List.append_assoc, HACC.out, hfin]; simp; omega, by rw [HT.out, ← List.append_assoc, HACC.out, hfin]; exact hb3, (((hX.trans (KeptX.alloc _ _ hsz)).trans hX1).trans hX2).trans hX3⟩, by simp [intOf]; omega⟩
    · have hke : k = d.lits.length := by omega
      have HS := hid (show l ++ d.shown = l ++ showA d.name d.ts ++ showB 0 (d.lits.take k) ++ [46] by rw [hke, List.take_length]; simp [ClD.shown])
      clear hke
      go_wp2_with (go_at_call 25; refine (writeByte_c _ B b _ 46 _ rfl hb hsz (by omega)).mono ?_; rintro e w1 ⟨rfl, hb1, hX1⟩)
      go_end0
      rw [HS.out]
      exact ⟨rfl, hb1, hX.trans hX1⟩

end Go.Proofs.Ytpbfiffgcgnidaa
