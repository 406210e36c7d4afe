/-
  OUR OWN. The document's answer: a clause out of pieces.
-/
import Derived.Test.YtpbfiffgcgnidaaGreatDoorXR4
import Derived.Test.YtpbfiffgcgnidaaGreatDoorXR5
namespace Go.Proofs.YtpbfiffgcgnidaaGreatDoor
open Go.RowKit Go.WideMaps Go.Maps
attribute [local go_sem] drewN_alloc drewN_setCell

def z6 : List Value := [.string ⟨#[]⟩, .slice none 0 0, .int .i64 0, .int .i64 0, .bool false, .slice none 0 0]
/-- Six cells of a clause's kinds. -/
def Six (cs : List Value) : Prop := ∃ (nm : ByteArray) (tq : Option Addr) (tl tcap : Nat) (pl bg : Int) (ng : Bool) (bo : Option Addr) (bl bcap : Nat), cs = [.string nm, .slice tq tl tcap, .int .i64 pl, .int .i64 bg, .bool ng, .slice bo bl bcap]
def ClausePost (w : World) (ps : List Pc) (i : Nat) (e : Ending) (w' : World) : Prop :=
  ∃ (cs : List Value) (nx : Int) (ok : Bool), e = .returned (.tuple #[.agg cs.toArray, .int .i64 nx, .bool ok]) ∧ Six cs ∧ Below w.heap.size w w' ∧
    match clauseP (ps.drop i) with
    | none => ok = false
    | some (c, r) => ok = true ∧ ClauseCs w' w.heap.size c cs ∧ ∃ k : Nat, nx = (k : Nat) ∧ r = ps.drop k ∧ k ≤ ps.length
theorem clause_fail {w w' : World} {ps : List Pc} {i : Nat} {cs : List Value} {nx : Int} (hB : Below w.heap.size w w') (h : clauseP (ps.drop i) = none) (hF : Six cs := by exact ⟨_, _, _, _, _, _, _, _, _, _, rfl⟩) : ClausePost w ps i (.returned (.tuple #[.agg cs.toArray, .int .i64 nx, .bool false])) w' := ⟨cs, nx, false, rfl, hF, hB, by rw [h]⟩
theorem clause_good {w w' : World} {ps : List Pc} {i k : Nat} {cs : List Value} {c : RC} (hB : Below w.heap.size w w') (h : clauseP (ps.drop i) = some (c, ps.drop k)) (hk : k ≤ ps.length) (hA : ClauseCs w' w.heap.size c cs) (hF : Six cs := by exact ⟨_, _, _, _, _, _, _, _, _, _, rfl⟩) : ClausePost w ps i (.returned (.tuple #[.agg cs.toArray, .int .i64 (k : Nat), .bool true])) w' := ⟨cs, _, true, rfl, hF, hB, by rw [h]; exact ⟨rfl, hA, k, rfl, rfl, hk⟩⟩
def endP (a : RA) (y : List RA × List Pc) : Option (RC × List Pc) := match y.2 with
  | [] => none
  | p :: r => if (p.mark == 46 && decide (y.1.length ≤ 4)) = true then some (⟨a, y.1⟩, r) else none
theorem endP_cons (a : RA) (b : List RA) (p : Pc) (r : List Pc) : endP a (b, p :: r) = if (p.mark == 46 && decide (b.length ≤ 4)) = true then some (⟨a, b⟩, r) else none := rfl
theorem clauseP_no (ps : List Pc) (h : atomP ps = none) : clauseP ps = none := by unfold clauseP; rw [h]; rfl
theorem clauseP_neg (ps r : List Pc) (a : RA) (h : atomP ps = some (a, r)) (hn : a.neg = true) : clauseP ps = none := by unfold clauseP; rw [h, Option.bind_some, if_pos hn]
theorem clauseP_of (ps r : List Pc) (a : RA) (h : atomP ps = some (a, r)) (hn : a.neg = false) : clauseP ps = (BP [] r).bind (endP a) := by unfold clauseP; rw [h, Option.bind_some, if_neg (by rw [hn]; simp)]; rfl
def goesB (ps : List Pc) (acc : List RA) (q : Nat) : Bool := match ps.drop q with
  | [] => false
  | p :: _ => goesOn acc p
theorem goesB_at (ps : List Pc) (acc : List RA) (q : Nat) (hq : q < ps.length) : goesB ps acc q = goesOn acc ps[q] := by unfold goesB; rw [List.drop_eq_getElem_cons hq]
theorem goesB_end (ps : List Pc) (acc : List RA) (q : Nat) (hq : ¬ q < ps.length) : goesB ps acc q = false := by unfold goesB; rw [List.drop_eq_nil_of_le (by omega)]
theorem goesB_go (ps : List Pc) (acc : List RA) (q : Nat) (h : goesB ps acc q = true) : q < ps.length ∧ BP acc (ps.drop q) = (atomP (ps.drop (q + 1))).bind fun x => BP (acc ++ [x.1]) x.2 := by
  by_cases hq : q < ps.length
  · refine ⟨hq, ?_⟩
    rw [goesB_at ps acc q hq] at h
    rw [List.drop_eq_getElem_cons hq, BP_cons, if_pos h]
  · rw [goesB_end ps acc q hq] at h; exact absurd h (by simp)
theorem goesB_no (ps : List Pc) (acc : List RA) (q : Nat) (h : goesB ps acc q = false) : BP acc (ps.drop q) = some (acc, ps.drop q) := by
  by_cases hq : q < ps.length
  · rw [goesB_at ps acc q hq] at h
    rw [List.drop_eq_getElem_cons hq, BP_cons, if_neg (by rw [h]; simp)]
  · rw [List.drop_eq_nil_of_le (by omega), BP_nil]
theorem AtomIs.set {w : World} {base : Nat} {a : RA} {cs : List Value} (h : AtomIs w base a cs) {b : Nat} {bcs : List Value} {t : TypeId} (hb : Blk w b bcs t) (h1 : t ≠ 130) (o : Nat) (x : Value) : AtomIs (w.setCell ⟨b, o, none⟩ x) base a cs := by
  obtain ⟨tv, hc, hl⟩ := h
  exact ⟨tv, hc, own_set hl ⟨b, o, none⟩ x (own_ne hl hb h1)⟩
theorem Gather.set {w : World} {own base : Nat} {v : Value} {l : List RA} (h : Gather w own base v l) {b : Nat} {bcs : List Value} {t : TypeId} (hb : Blk w b bcs t) (h1 : t ≠ 130) (h2 : t ≠ 69) (o : Nat) (x : Value) : Gather (w.setCell ⟨b, o, none⟩ x) own base v l := by
  obtain ⟨rows, ho, hl, hr⟩ := h
  exact ⟨rows, own_set ho ⟨b, o, none⟩ x (own_ne ho hb h2), hl, fun i a cs h3 h4 => (hr i a cs h3 h4).set hb h1 o x⟩
theorem Gather.set6 {w : World} {own base : Nat} {v : Value} {l : List RA} (h : Gather w own base v l) {b : Nat} {bcs : List Value} (hb : Blk w b bcs 71) (x0 x1 x2 x3 x4 x5 : Value) :
    Gather ((((((w.setCell ⟨b, 0, none⟩ x0).setCell ⟨b, 1, none⟩ x1).setCell ⟨b, 2, none⟩ x2).setCell ⟨b, 3, none⟩ x3).setCell ⟨b, 4, none⟩ x4).setCell ⟨b, 5, none⟩ x5) own base v l :=
  (((((h.set hb (by decide) (by decide) 0 x0).set (hb.setCell 0 x0) (by decide) (by decide) 1 x1).set ((hb.setCell 0 x0).setCell 1 x1) (by decide) (by decide) 2 x2).set (((hb.setCell 0 x0).setCell 1 x1).setCell 2 x2) (by decide) (by decide) 3 x3).set ((((hb.setCell 0 x0).setCell 1 x1).setCell 2 x2).setCell 3 x3) (by decide) (by decide) 4 x4).set (((((hb.setCell 0 x0).setCell 1 x1).setCell 2 x2).setCell 3 x3).setCell 4 x4) (by decide) (by decide) 5 x5
theorem own_set6 {w : World} {base : Nat} {e : TypeId} {size : Nat} {v : Value} {n : Nat} {xs : List Value} (h : w.ownsRow base e size v n xs) (A : Nat) (hne : v.ownBlock ≠ some A) (x0 x1 x2 x3 x4 x5 : Value) :
    ((((((w.setCell ⟨A, 0, none⟩ x0).setCell ⟨A, 1, none⟩ x1).setCell ⟨A, 2, none⟩ x2).setCell ⟨A, 3, none⟩ x3).setCell ⟨A, 4, none⟩ x4).setCell ⟨A, 5, none⟩ x5).ownsRow base e size v n xs :=
  own_set (own_set (own_set (own_set (own_set (own_set h ⟨A, 0, none⟩ x0 hne) ⟨A, 1, none⟩ x1 hne) ⟨A, 2, none⟩ x2 hne) ⟨A, 3, none⟩ x3 hne) ⟨A, 4, none⟩ x4 hne) ⟨A, 5, none⟩ x5 hne
theorem Gather.one {w : World} {base : Nat} {v : Value} {l : List RA} (h : Gather w base base v l) : AtomRow w base v l := h
theorem own_keptA {w w' : World} {base own : Nat} {tv v : Value} {m n : Nat} {ys xs : List Value} (hl : w.ownsRow base 130 3 tv m ys) (hg : w.grownBy w' v.ownBlock) (ho : w.ownsRow own 69 5 v n xs) : w'.ownsRow base 130 3 tv m ys := hl.kept hg (own_ne2 hl ho (by decide))
theorem ClauseCs.drew {w : World} {base : Nat} {c : RC} {cs : List Value} (h : ClauseCs w base c cs) : ClauseCs w.drew base c cs := h
theorem Gather.nil (w : World) (own base : Nat) : Gather w own base (.slice none 0 0) [] := ⟨[], World.ownsRow_nil _ _ _ _, rfl, by simp⟩
theorem Gather.mono {w : World} {own own' base base' : Nat} {v : Value} {l : List RA} (h : Gather w own base v l) (h1 : own' ≤ own) (h2 : base' ≤ base) : Gather w own' base' v l := by
  obtain ⟨rows, ho, hl, hr⟩ := h
  exact ⟨rows, own_mono ho h1, hl, fun i a cs h3 h4 => (hr i a cs h3 h4).mono h2⟩

set_option maxHeartbeats 2000000 in
set_option maxRecDepth 100000 in
theorem clause_short (w : World) (base : Nat) (ao : Option Addr) (cap : Nat) (ps : List Pc) (hP : Pieces w base ao cap ps) (hn : ps.length ≤ 3000) (i : Nat) (hi : i ≤ ps.length) (hs : atomP (ps.drop i) = none ∨ ∃ a r, atomP (ps.drop i) = some (a, r) ∧ a.neg = true) :
    Calls Tryz.prog 62 #[.slice ao ps.length cap, .int .i64 (i : Nat)] w fun e w' => ClausePost w ps i e w' := by
  have hP2 : Pieces ((w.alloc (.cells z6.toArray 71)).alloc (.cells z6.toArray 71)) base ao cap ps := hP.below (((Below.refl _ w).alloc (Nat.le_refl _) _).alloc (by simp) _)
  have hcb0 := new_one w z6 71 z6 71
  have hcb1 := new_two w (.cells z6.toArray 71) z6 71
  have hB0 : Below w.heap.size w ((w.alloc (.cells z6.toArray 71)).alloc (.cells z6.toArray 71)) := ((Below.refl _ w).alloc (Nat.le_refl _) _).alloc (by simp) _
  rcases hs with hs | ⟨a, r, hs, hng⟩
  · have HA := hid hs
    have HC := hid (clauseP_no _ hs)
    clear hs
    go_enter Tryz.func62, Tryz.ntmps62
    go_wp2_with (go_at_call 100; refine (atom_c _ base ao cap ps (by exact hP2) hn i hi).mono ?_; rintro e w1 ⟨cs, nx, ok, rfl, hF, hB1, hm⟩; obtain ⟨nm, tq, tl, tcap, pl, bg, ng, rfl⟩ := hF; rw [HA.out] at hm; simp only [] at hm; subst hm; obtain ⟨r0, r1, r2, r3, r4, r5⟩ := (hcb0.below hB1).c6; obtain ⟨c0, c1, c2, c3, c4, c5⟩ := (hcb1.below hB1).c6; have fR := (hcb0.below hB1).frozen; have hcw := (hcb1.below hB1).lt; have hcw0 := (hcb0.below hB1).lt)
    have hBw : Below w.heap.size w w1 := hB0.trans (hB1.mono hB0.size)
    refine bodyPost_ret (v := .tuple #[.agg #[.string ⟨#[]⟩, .slice none 0 0, .int .i64 0, .int .i64 0, .bool false, .slice none 0 0], .int .i64 nx, .bool false]) (by simp [results, Tryz.results62, go_sem, r0, r1, r2, r3, r4, r5, hcw0]) rfl ?_
    refine clause_fail (cs := [.string ⟨#[]⟩, .slice none 0 0, .int .i64 0, .int .i64 0, .bool false, .slice none 0 0]) ?_ HC.out
    refine Below.alloc ?_ (by have := hBw.size; simp; omega) _
    repeat (refine Below.setCell ?_ (by simp only []; omega) _)
    exact hBw
  · have HA := hid hs
    have HC := hid (clauseP_neg _ _ _ hs hng)
    have HNG := hid hng
    clear hs hng
    go_enter Tryz.func62, Tryz.ntmps62
    go_wp2_with (go_at_call 100; refine (atom_c _ base ao cap ps (by exact hP2) hn i hi).mono ?_; rintro e w1 ⟨cs, nx, ok, rfl, hF, hB1, hm⟩; clear hF; rw [HA.out] at hm; obtain ⟨rfl, ⟨tv, hcs, hT⟩, k, rfl, -, hk⟩ := hm; rw [HNG.out] at hcs; subst hcs; obtain ⟨tq, tcap, rfl⟩ := own_form hT; obtain ⟨r0, r1, r2, r3, r4, r5⟩ := (hcb0.below hB1).c6; obtain ⟨c0, c1, c2, c3, c4, c5⟩ := (hcb1.below hB1).c6; have fR := (hcb0.below hB1).frozen; have hcw := (hcb1.below hB1).lt; have hcw0 := (hcb0.below hB1).lt)
    have hBw : Below w.heap.size w w1 := hB0.trans (hB1.mono hB0.size)
    refine bodyPost_ret (v := .tuple #[.agg #[.string ⟨#[]⟩, .slice none 0 0, .int .i64 0, .int .i64 0, .bool false, .slice none 0 0], .int .i64 (k : Nat), .bool false]) (by simp [results, Tryz.results62, go_sem, r0, r1, r2, r3, r4, r5, hcw0]) rfl ?_
    refine clause_fail (cs := [.string ⟨#[]⟩, .slice none 0 0, .int .i64 0, .int .i64 0, .bool false, .slice none 0 0]) ?_ HC.out
    refine Below.alloc ?_ (by have := hBw.size; simp; omega) _
    repeat (refine Below.setCell ?_ (by simp only []; omega) _)
    exact hBw

set_option maxHeartbeats 20000000 in
set_option maxRecDepth 100000 in
theorem clause_long (w : World) (base : Nat) (g cap : Nat) (ps : List Pc) (hP : Pieces w base (some ⟨g, 0, none⟩) cap ps) (hn : ps.length ≤ 3000) (i : Nat) (hi : i ≤ ps.length) (a : RA) (k0 : Nat) (_ : k0 ≤ ps.length) (hs : atomP (ps.drop i) = some (a, ps.drop k0)) (hng : a.neg = false) (hg : g < w.heap.size) :
    Calls Tryz.prog 62 #[.slice (some ⟨g, 0, none⟩) ps.length cap, .int .i64 (i : Nat)] w fun e w' => ClausePost w ps i e w' := by
  obtain ⟨i1, hi1, hy0, hy1, hy2⟩ := info_parts infoRAtom
  have hP2 : Pieces ((w.alloc (.cells z6.toArray 71)).alloc (.cells z6.toArray 71)) base (some ⟨g, 0, none⟩) cap ps := hP.below (((Below.refl _ w).alloc (Nat.le_refl _) _).alloc (by simp) _)
  have hcb0 := new_one w z6 71 z6 71
  have hcb1 := new_two w (.cells z6.toArray 71) z6 71
  have hB0 : Below w.heap.size w ((w.alloc (.cells z6.toArray 71)).alloc (.cells z6.toArray 71)) := ((Below.refl _ w).alloc (Nat.le_refl _) _).alloc (by simp) _
  have HA := hid hs
  have HC := hid (clauseP_of _ _ _ hs hng)
  have HNG := hid hng
  clear hs hng
  go_enter Tryz.func62, Tryz.ntmps62
  go_wp2_with (go_at_call 100; refine (atom_c _ base _ cap ps (by exact hP2) hn i hi).mono ?_; rintro e w1 ⟨cs, nx, ok, rfl, hF, hB1, hm⟩; clear hF; rw [HA.out] at hm; obtain ⟨rfl, ⟨tv, hcs, hT⟩, k, rfl, hdk, hk⟩ := hm; rw [HNG.out] at hcs; subst hcs; obtain ⟨tq, tcap, rfl⟩ := own_form hT; have hdk2 := hid hdk; clear hdk; obtain ⟨r0, r1, r2, r3, r4, r5⟩ := (hcb0.below hB1).c6; obtain ⟨c0, c1, c2, c3, c4, c5⟩ := (hcb1.below hB1).c6; have fC := (hcb1.below hB1).frozen; have hcw := (hcb1.below hB1).lt; have hcw0 := (hcb0.below hB1).lt)
  have hBw : Below w.heap.size w w1 := hB0.trans (hB1.mono hB0.size)
  have hws := hBw.size
  have hT1 := own_mono hT (base' := w.heap.size) (by simp; omega)
  go_loopw [9] (fun iv wr => ∃ (q : Nat) (acc : List RA) (bv : Value), iv = .int .i64 q ∧ q ≤ ps.length ∧ acc.length ≤ q ∧ Hid (BP acc (ps.drop q) = BP [] (ps.drop k0)) ∧ Blk wr w.heap.size z6 71 ∧ Blk wr (w.heap.size + 1) [.string a.w, .slice tq a.ts.length tcap, .int .i64 (a.pl : Nat), .int .i64 (a.bang : Nat), .bool false, bv] 71 ∧ wr.ownsRow w.heap.size 130 3 (.slice tq a.ts.length tcap) a.ts.length (a.ts.flatMap RT.cells) ∧ Gather wr w.heap.size w.heap.size bv acc ∧ Below w.heap.size w wr) (fun iv _ => ps.length - (intOf iv).toNat)
  case atStart =>
    have hCC := hcb1.below hB1
    have hRR := hcb0.below hB1
    refine ⟨k, [], .slice none 0 0, by go_num, hk, by simp, by rw [← hdk2.out]; rfl, ?_, ?_, ?_, Gather.nil _ _ _, ?_⟩
    · exact (((((hRR.setOther ⟨w.heap.size + 1, 0, none⟩ _ (by simp)).setOther ⟨w.heap.size + 1, 1, none⟩ _ (by simp)).setOther ⟨w.heap.size + 1, 2, none⟩ _ (by simp)).setOther ⟨w.heap.size + 1, 3, none⟩ _ (by simp)).setOther ⟨w.heap.size + 1, 4, none⟩ _ (by simp)).alloc _
    · exact (((((hCC.setCell 0 _).setCell 1 _).setCell 2 _).setCell 3 _).setCell 4 _).alloc _
    · have hne := own_ne hT1 hCC (by decide)
      exact (own_set (own_set (own_set (own_set (own_set hT1 ⟨w.heap.size + 1, 0, none⟩ _ hne) ⟨w.heap.size + 1, 1, none⟩ _ hne) ⟨w.heap.size + 1, 2, none⟩ _ hne) ⟨w.heap.size + 1, 3, none⟩ _ hne) ⟨w.heap.size + 1, 4, none⟩ _ hne).alloc _
    · refine Below.alloc ?_ (by simp; omega) _
      repeat (refine Below.setCell ?_ (by simp only []; omega) _)
      exact hBw
  case round =>
    clear r0 r1 r2 r3 r4 r5 c0 c1 c2 c3 c4 c5 fC hcb0 hcb1 hP2 hT hT1 hB1 hB0 hBw hws hcw hcw0 hdk2 HA
    obtain ⟨q, acc, bv, rfl, hq, hal, HX, hR, hA, hT, hG, hB⟩ := hrel
    obtain ⟨bo, bcap, rfl⟩ := hG.form
    obtain ⟨a0, a1, a2, a3, a4, a5⟩ := hA.c6
    obtain ⟨r0, r1, r2, r3, r4, r5⟩ := hR.c6
    have fR := hR.frozen
    have fA := hA.frozen
    have hbw := hA.lt
    have hgr : g < wr.heap.size := by have := hB.size; omega
    have hg2 : g ≠ w.heap.size := by omega
    have hg3 : g ≠ w.heap.size + 1 := by omega
    have hg4 : w.heap.size ≠ g := by omega
    have hwq := wrap_nat1 q (by omega)
    have hPq : ∀ (k : Nat) (hk : k < ps.length), wr.cell? ⟨g, k * 3, none⟩ = some (.int .u8 ps[k].m) := by
      intro k hk
      obtain ⟨g', hgg, hg', n0, n1, n2⟩ := piece_at hP k hk
      simp only [Option.some.injEq, Addr.mk.injEq, and_true] at hgg
      subst hgg
      rw [hB.cell (p := ⟨g, k * 3, none⟩) hg]; exact n0
    have HPQ := hid hPq
    have HHR := hid hR
    have HHA := hid hA
    clear hPq hR hA
    go_upto_region 6 with fail
    go_cut [62] from 31 to 81 (fun gv wx => gv = .bool (goesB ps acc q) ∧ wx = wr)
    case first =>
      by_cases hql : q < ps.length
      · have b0 := HPQ.out q hql
        have HV0 := hid (goesB_at ps acc q hql)
        by_cases he : acc = []
        · have hz0 : acc.length = 0 := by rw [he]; rfl
          have hz1 : (acc.length : Int) = 0 := by omega
          have hz2 : ((acc.length : Int) == 0) = true := by rw [hz1]; rfl
          have hz3 : ¬ (0 : Int) < (acc.length : Int) := by omega
          have hz4 : decide ((0 : Int) < (acc.length : Int)) = false := decide_eq_false hz3
          have hz5 : ¬ 0 < acc.length := by omega
          have hz6 : decide (0 < acc.length) = false := decide_eq_false hz5
          cases h58 : (ps[q].mark == 58)
          · have k1 := mark_ne _ 58 58 rfl h58
            have k3 : ¬ ps[q].m = 58 := by simpa using k1
            have HV := hid (HV0.out.trans (by rw [goesOn, h58, he]; simp : goesOn acc ps[q] = false))
            clear he hz0 hz1 h58 HV0
            cases h44 : (ps[q].mark == 44)
            · have l1 := mark_ne _ 44 44 rfl h44
              have l3 : ¬ ps[q].m = 44 := by simpa using l1
              clear h44
              go_wp2_with fail
              go_meet
              exact ⟨congrArg Value.bool HV.out.symm, rfl⟩
            · have l1 := mark_eq _ 44 44 rfl h44
              have l3 : ps[q].m = 44 := by simpa using l1
              clear h44
              go_wp2_with fail
              go_meet
              exact ⟨congrArg Value.bool HV.out.symm, rfl⟩
          · have k1 := mark_eq _ 58 58 rfl h58
            have k3 : ps[q].m = 58 := by simpa using k1
            have HV := hid (HV0.out.trans (by rw [goesOn, h58, he]; rfl : goesOn acc ps[q] = true))
            clear he hz0 hz1 h58 HV0
            go_wp2_with fail
            go_meet
            exact ⟨congrArg Value.bool HV.out.symm, rfl⟩
        · have hne' : acc.length ≠ 0 := by cases acc with
            | nil => exact absurd rfl he
            | cons a b => simp
          have hie : acc.isEmpty = false := by cases acc with
            | nil => exact absurd rfl he
            | cons a b => rfl
          have hne0 : ¬ (acc.length : Int) = 0 := by omega
          have hneb : ((acc.length : Int) == 0) = false := by simpa using hne0
          have hnep : (0 : Int) < (acc.length : Int) := by omega
          have hnep2 : 0 < acc.length := by omega
          have hnep3 : decide (0 < acc.length) = true := decide_eq_true hnep2
          cases h44 : (ps[q].mark == 44)
          · have l1 := mark_ne _ 44 44 rfl h44
            have l3 : ¬ ps[q].m = 44 := by simpa using l1
            have HV := hid (HV0.out.trans (by rw [goesOn, h44, hie]; simp : goesOn acc ps[q] = false))
            clear he h44 HV0 hie
            cases h58 : (ps[q].mark == 58)
            · have k1 := mark_ne _ 58 58 rfl h58
              have k3 : ¬ ps[q].m = 58 := by simpa using k1
              clear h58
              go_wp2_with fail
              go_meet
              exact ⟨congrArg Value.bool HV.out.symm, rfl⟩
            · have k1 := mark_eq _ 58 58 rfl h58
              have k3 : ps[q].m = 58 := by simpa using k1
              clear h58
              go_wp2_with fail
              go_meet
              exact ⟨congrArg Value.bool HV.out.symm, rfl⟩
          · have l1 := mark_eq _ 44 44 rfl h44
            have l3 : ps[q].m = 44 := by simpa using l1
            have k3 : ¬ ps[q].m = 58 := by omega
            have k1 : (ps[q].m == 58) = false := by simpa using k3
            have HV := hid (HV0.out.trans (by rw [goesOn, h44, hie]; simp : goesOn acc ps[q] = true))
            clear he h44 HV0 hie
            go_wp2_with fail
            go_meet
            exact ⟨congrArg Value.bool HV.out.symm, rfl⟩
      · have HV := hid (goesB_end ps acc q hql)
        go_wp2_with fail
        go_meet
        exact ⟨congrArg Value.bool HV.out.symm, rfl⟩
    case rest =>
      obtain ⟨hgv, hwc⟩ := hcut
      subst hgv
      subst wc
      cases hgo : goesB ps acc q
      · have HS := hid (goesB_no ps acc q hgo)
        have hne2 := own_ne hT HHR.out (by decide)
        clear hgo
        by_cases hql : q < ps.length
        · have b0 := HPQ.out q hql
          have hdq : ps.drop q = ps[q] :: ps.drop (q + 1) := List.drop_eq_getElem_cons hql
          cases h46 : (ps[q].mark == 46)
          · have HF := hid (show clauseP (ps.drop i) = none by rw [HC.out, ← HX.out, HS.out, hdq, Option.bind_some, endP_cons, h46]; rfl)
            have n1 := mark_ne _ 46 46 rfl h46
            have n2 : ¬ ps[q].m = 46 := by simpa using n1
            clear HC HX HS hdq h46
            go_upto_region 12 with fail
            go_region
            all_goals go_wp2_with fail
            all_goals
              refine bodyPost_ret (v := .tuple #[.agg #[.string a.w, .slice tq a.ts.length tcap, .int .i64 (a.pl : Nat), .int .i64 (a.bang : Nat), .bool false, .slice bo acc.length bcap], .int .i64 ((q : Nat) + 1), .bool false]) (by simp [results, Tryz.results62, go_sem, r0, r1, r2, r3, r4, r5]) rfl ?_
              refine clause_fail (cs := [.string a.w, .slice tq a.ts.length tcap, .int .i64 (a.pl : Nat), .int .i64 (a.bang : Nat), .bool false, .slice bo acc.length bcap]) ?_ HF.out
              refine Below.drew ?_
              repeat (refine Below.setCell ?_ (by simp only []; omega) _)
              exact hB
          · have n1 := mark_eq _ 46 46 rfl h46
            have n2 : ps[q].m = 46 := by simpa using n1
            by_cases h4 : acc.length ≤ 4
            · have HF := hid (show clauseP (ps.drop i) = some (⟨a, acc⟩, ps.drop (q + 1)) by rw [HC.out, ← HX.out, HS.out, hdq, Option.bind_some, endP_cons, h46, decide_eq_true h4]; rfl)
              have h4i : (acc.length : Int) ≤ 4 := by omega
              clear HC HX HS hdq h46
              go_upto_region 12 with fail
              go_region_held3 (fun w' => w'.cell? ⟨w.heap.size + 1, 0, none⟩ = some (.string a.w) ∧ w'.cell? ⟨w.heap.size + 1, 1, none⟩ = some (.slice tq a.ts.length tcap) ∧ w'.cell? ⟨w.heap.size + 1, 2, none⟩ = some (.int .i64 (a.pl : Nat)) ∧ w'.cell? ⟨w.heap.size + 1, 3, none⟩ = some (.int .i64 (a.bang : Nat)) ∧ w'.cell? ⟨w.heap.size + 1, 4, none⟩ = some (.bool false) ∧ w'.cell? ⟨w.heap.size + 1, 5, none⟩ = some (.slice bo acc.length bcap) ∧ w'.cell? ⟨g, q * 3, none⟩ = some (.int .u8 ps[q].m)) (go_keep) (fail)
              all_goals go_wp2_with fail
              all_goals
                refine bodyPost_ret (v := .tuple #[.agg #[.string a.w, .slice tq a.ts.length tcap, .int .i64 (a.pl : Nat), .int .i64 (a.bang : Nat), .bool false, .slice bo acc.length bcap], .int .i64 ((q + 1 : Nat) : Int), .bool true]) (by simp [results, Tryz.results62, go_sem, r0, r1, r2, r3, r4, r5]) rfl ?_
                refine clause_good (k := q + 1) (cs := [.string a.w, .slice tq a.ts.length tcap, .int .i64 (a.pl : Nat), .int .i64 (a.bang : Nat), .bool false, .slice bo acc.length bcap]) ?_ HF.out (by omega) (ClauseCs.drew ⟨[.string a.w, .slice tq a.ts.length tcap, .int .i64 (a.pl : Nat), .int .i64 (a.bang : Nat), .bool false], .slice bo acc.length bcap, rfl, ⟨.slice tq a.ts.length tcap, by rw [HNG.out], ?_⟩, ?_⟩)
                · refine Below.drew ?_
                  repeat (refine Below.setCell ?_ (by simp only []; omega) _)
                  exact hB
                · exact own_set6 hT w.heap.size hne2 (.string a.w) (.slice tq a.ts.length tcap) (.int .i64 (a.pl : Nat)) (.int .i64 (a.bang : Nat)) (.bool false) (.slice bo acc.length bcap)
                · exact (hG.set6 HHR.out (.string a.w) (.slice tq a.ts.length tcap) (.int .i64 (a.pl : Nat)) (.int .i64 (a.bang : Nat)) (.bool false) (.slice bo acc.length bcap)).one
            · have HF := hid (show clauseP (ps.drop i) = none by rw [HC.out, ← HX.out, HS.out, hdq, Option.bind_some, endP_cons, h46, decide_eq_false h4]; rfl)
              have h4i : ¬ (acc.length : Int) ≤ 4 := by omega
              clear HC HX HS hdq h46
              go_upto_region 12 with fail
              go_region_held3 (fun w' => w'.cell? ⟨w.heap.size + 1, 0, none⟩ = some (.string a.w) ∧ w'.cell? ⟨w.heap.size + 1, 1, none⟩ = some (.slice tq a.ts.length tcap) ∧ w'.cell? ⟨w.heap.size + 1, 2, none⟩ = some (.int .i64 (a.pl : Nat)) ∧ w'.cell? ⟨w.heap.size + 1, 3, none⟩ = some (.int .i64 (a.bang : Nat)) ∧ w'.cell? ⟨w.heap.size + 1, 4, none⟩ = some (.bool false) ∧ w'.cell? ⟨w.heap.size + 1, 5, none⟩ = some (.slice bo acc.length bcap) ∧ w'.cell? ⟨g, q * 3, none⟩ = some (.int .u8 ps[q].m)) (go_keep) (fail)
              all_goals go_wp2_with fail
              all_goals
                refine bodyPost_ret (v := .tuple #[.agg #[.string a.w, .slice tq a.ts.length tcap, .int .i64 (a.pl : Nat), .int .i64 (a.bang : Nat), .bool false, .slice bo acc.length bcap], .int .i64 ((q : Nat) + 1), .bool false]) (by simp [results, Tryz.results62, go_sem, r0, r1, r2, r3, r4, r5]) rfl ?_
                refine clause_fail (cs := [.string a.w, .slice tq a.ts.length tcap, .int .i64 (a.pl : Nat), .int .i64 (a.bang : Nat), .bool false, .slice bo acc.length bcap]) ?_ HF.out
                refine Below.drew ?_
                repeat (refine Below.setCell ?_ (by simp only []; omega) _)
                exact hB
        · have HF := hid (show clauseP (ps.drop i) = none by rw [HC.out, ← HX.out, HS.out, List.drop_eq_nil_of_le (by omega)]; rfl)
          clear HC HX HS
          go_upto_region 12 with fail
          go_region
          all_goals go_wp2_with fail
          all_goals
            refine bodyPost_ret (v := .tuple #[.agg #[.string a.w, .slice tq a.ts.length tcap, .int .i64 (a.pl : Nat), .int .i64 (a.bang : Nat), .bool false, .slice bo acc.length bcap], .int .i64 ((q : Nat) + 1), .bool false]) (by simp [results, Tryz.results62, go_sem, r0, r1, r2, r3, r4, r5]) rfl ?_
            refine clause_fail (cs := [.string a.w, .slice tq a.ts.length tcap, .int .i64 (a.pl : Nat), .int .i64 (a.bang : Nat), .bool false, .slice bo acc.length bcap]) ?_ HF.out
            refine Below.drew ?_
            repeat (refine Below.setCell ?_ (by simp only []; omega) _)
            exact hB
      · obtain ⟨hql, hgo'⟩ := goesB_go ps acc q hgo
        have HG := hid hgo'
        clear hgo hgo'
        have hPr := hP.below hB
        have hsz := hB.size
        cases hat : atomP (ps.drop (q + 1)) with
        | none =>
          have HAT := hid hat
          have HF := hid (show clauseP (ps.drop i) = none by rw [HC.out, ← HX.out, HG.out, hat]; rfl)
          clear hat HC HX HG
          go_wp2_with (go_at_call 100; refine (atom_c _ base _ cap ps (by exact hPr) hn (q + 1) (by omega)).mono ?_; rintro e w2 ⟨cs, nx, ok, rfl, hF, hB2, hm⟩; obtain ⟨nm, sq, tl, scap, pl, bg, ng, rfl⟩ := hF; rw [HAT.out] at hm; simp only [] at hm; subst hm; obtain ⟨r0, r1, r2, r3, r4, r5⟩ := (HHR.out.below hB2).c6; obtain ⟨a0, a1, a2, a3, a4, a5⟩ := (HHA.out.below hB2).c6; have fR := (HHR.out.below hB2).frozen; have hbw := (HHA.out.below hB2).lt; have hbw0 := (HHR.out.below hB2).lt)
          refine bodyPost_ret (v := .tuple #[.agg #[.string a.w, .slice tq a.ts.length tcap, .int .i64 (a.pl : Nat), .int .i64 (a.bang : Nat), .bool false, .slice bo acc.length bcap], .int .i64 nx, .bool false]) (by simp [results, Tryz.results62, go_sem, r0, r1, r2, r3, r4, r5, hbw0]) rfl ?_
          have hBw : Below w.heap.size w w2 := hB.trans (hB2.mono hsz)
          refine clause_fail (cs := [.string a.w, .slice tq a.ts.length tcap, .int .i64 (a.pl : Nat), .int .i64 (a.bang : Nat), .bool false, .slice bo acc.length bcap]) ?_ HF.out
          refine Below.alloc ?_ (by have := hBw.size; simp; omega) _
          repeat (refine Below.setCell ?_ (by simp only []; omega) _)
          exact hBw
        | some x =>
          obtain ⟨b, r⟩ := x
          have HAT := hid hat
          have HN0 := hid (show BP acc (ps.drop q) = BP (acc ++ [b]) r by rw [HG.out, hat]; rfl)
          have HL := hid (atomP_len _ _ _ hat)
          obtain ⟨rows, ho, hl, hr⟩ := hG
          clear hat HG
          go_wp2_with (first
            | (go_at_call 100; refine (atom_c _ base _ cap ps (by exact hPr) hn (q + 1) (by omega)).mono ?_; rintro e w2 ⟨cs, nx, ok, rfl, hF, hB2, hm⟩; clear hF; rw [HAT.out] at hm; obtain ⟨rfl, ⟨tv, hcs, hTb⟩, k, rfl, hdk, hk⟩ := hm; subst hcs; obtain ⟨sq, scap, rfl⟩ := own_form hTb; have HDK := hid hdk; clear hdk; have hA2 := HHA.out.below hB2; have hR2 := HHR.out.below hB2; obtain ⟨a0, a1, a2, a3, a4, a5⟩ := hA2.c6; have fA := hA2.frozen; have hbw := hA2.lt; have ho2 := own_below ho hB2)
            | (at_builtin; refine wpList_append_ownS _ rfl _ _ 64 rfl w.heap.size 69 i1 _ 5 64 Tryz.underlying64 hi1 hy0 hy1 hy2 rfl (by decide) _ acc.length rows.flatten rfl ((ho2.alloc _).alloc _) ⟨w2.heap.size + 1, 0, none⟩ 1 [.string b.w, .slice sq b.ts.length scap, .int .i64 (b.pl : Nat), .int .i64 (b.bang : Nat), .bool b.neg] rfl rfl (new_cells2 _ _ _ _) (by intro u hu; simp at hu; rcases hu with rfl | rfl | rfl | rfl | rfl <;> rfl) (by unfold maxLen; omega) (by omega) (by simp; omega) ?_; intro g4 cap4 w4 ho4 hg4; have hne1 := own_ne ho2 hA2 (by decide); have hne2 := own_ne ho2 hR2 (by decide); have hA4 := ((hA2.alloc _).alloc _).grown hg4 hne1; have hR4 := ((hR2.alloc _).alloc _).grown hg4 hne2; have d5 := hA4.cell 5; have fA4 := hA4.frozen; simp at d5))
          have hBw : Below w.heap.size w w2 := hB.trans (hB2.mono hsz)
          have h2 : ∀ o2 o3, Below w2.heap.size w2 ((w2.alloc o2).alloc o3) := fun o2 o3 => ((Below.refl _ w2).alloc (Nat.le_refl _) o2).alloc (by simp) o3
          have hAb : AtomIs w2 w.heap.size b [.string b.w, .slice sq b.ts.length scap, .int .i64 (b.pl : Nat), .int .i64 (b.bang : Nat), .bool b.neg] := ⟨_, rfl, own_mono hTb hsz⟩
          have hmore := Gather.more (w := (w2.alloc _).alloc _) (w' := w4) (own := w.heap.size) (base := w.heap.size) (b := acc) (b2 := [b]) (rows2 := [[.string b.w, .slice sq b.ts.length scap, .int .i64 (b.pl : Nat), .int .i64 (b.bang : Nat), .bool b.neg]]) hl (fun i a cs h1 h3 => ((hr i a cs h1 h3).below hB2).below (h2 _ _)) rfl (fun i a cs h1 h3 => by
            cases i with
            | zero => simp at h1 h3; subst h1; subst h3; exact hAb.below (h2 _ _)
            | succ n => simp at h1) ((ho2.alloc _).alloc _) (by simpa using ho4) hg4
          have hT4 := own_keptA (((own_below hT hB2).alloc _).alloc _) hg4 ((ho2.alloc _).alloc _)
          have hB4 : Below w.heap.size w w4 := (hBw.trans ((h2 _ _).mono hBw.size)).grown hg4 (by simp; omega) (own_base ho2)
          have hlen := HL.out
          rw [HDK.out] at hlen
          simp only [List.length_drop] at hlen
          refine ⟨⟨k, acc ++ [b], .slice (some ⟨g4, 0, none⟩) (acc.length + 1) cap4, by go_num, hk, by simp; omega, by rw [← HX.out, HN0.out, HDK.out]; rfl, hR4.setOther ⟨w.heap.size + 1, 5, none⟩ _ (by simp), hA4.setCell 5 _, own_set hT4 ⟨w.heap.size + 1, 5, none⟩ _ (own_ne hT4 hA4 (by decide)), hmore.set hA4 (by decide) (by decide) 5 _, hB4.setCell (p := ⟨w.heap.size + 1, 5, none⟩) (by simp only []; omega) _⟩, by simp [intOf]; omega⟩

theorem clause_c (w : World) (base : Nat) (ao : Option Addr) (cap : Nat) (ps : List Pc) (hP : Pieces w base ao cap ps) (hn : ps.length ≤ 3000) (i : Nat) (hi : i ≤ ps.length) :
    Calls Tryz.prog 62 #[.slice ao ps.length cap, .int .i64 (i : Nat)] w fun e w' => ClausePost w ps i e w' := by
  cases hat : atomP (ps.drop i) with
  | none => exact clause_short w base ao cap ps hP hn i hi (.inl hat)
  | some x =>
    obtain ⟨a, r⟩ := x
    cases hng : a.neg
    · have hlt : i < ps.length := by
        by_cases h : i < ps.length
        · exact h
        · rw [List.drop_eq_nil_of_le (by omega)] at hat; exact absurd hat (by simp [atomP])
      obtain ⟨g, rfl, hg, _⟩ := piece_at hP i hlt
      obtain ⟨k, hk, hr⟩ := atomP_at ps i a r hat
      subst hr
      exact clause_long w base g cap ps hP hn i hi a k hk hat hng hg
    · exact clause_short w base ao cap ps hP hn i hi (.inr ⟨a, r, hat, hng⟩)

end Go.Proofs.YtpbfiffgcgnidaaGreatDoor
