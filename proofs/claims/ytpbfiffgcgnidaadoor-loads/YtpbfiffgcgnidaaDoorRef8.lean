/-
  OUR OWN. The document's answer: a clause's first loose variable.
-/
import Derived.Test.YtpbfiffgcgnidaaDoorRef7
namespace Go.Proofs.YtpbfiffgcgnidaaDoor
open Go.RowKit Go.WideMaps Go.Maps
attribute [local go_sem] drewN_alloc drewN_setCell

def looseL (c : RC) : Bool → List RA → Option Nat
  | _, [] => none
  | f, a :: r => (if (f || a.neg) = true then looseT c a.ts else none).or (looseL c false r)
theorem looseB_L (c : RC) (b : List RA) : looseB c b = looseL c false b := by
  induction b with
  | nil => rfl
  | cons a r ih => rw [looseB, looseL, ih, Bool.false_or]
theorem looseC_L (c : RC) : looseC c = looseL c true (c.head :: c.body) := by
  unfold looseC
  rw [looseL, looseB_L, Bool.true_or, if_pos rfl]
/-- Loose among the terms from k on. -/
def looseK (c : RC) (chk : Bool) (ts : List RT) : Option Nat := if chk = true then looseT c ts else none
theorem looseK_cons (c : RC) (chk : Bool) (t : RT) (ts : List RT) : looseK c chk (t :: ts) = if (chk && (t.var && !boundC c t.s)) = true then some t.pl else looseK c chk ts := by
  unfold looseK looseT
  cases chk
  · rfl
  · rw [if_pos rfl, List.find?_cons]
    cases h : (t.var && !boundC c t.s)
    · rfl
    · rfl
def optI : Option Nat → Int
  | some p => (p : Nat)
  | none => -1

set_option maxHeartbeats 2000000 in
set_option maxRecDepth 100000 in
theorem loose_r (w : World) (base : Nat) (c : RC) (tv : Value) (bo : Option Addr) (bcap : Nat) (hT : w.ownsRow base 88 3 tv c.head.ts.length (c.head.ts.flatMap RT.cells)) (hR : AtomRow w base (.slice bo c.body.length bcap) c.body) (hbw : base ≤ w.heap.size) (hn : c.body.length ≤ 4) (ht : ∀ a ∈ c.head :: c.body, a.ts.length ≤ 3) :
    Calls Tryd.prog 14 #[.agg #[.string c.head.w, tv, .int .i64 (c.head.pl : Nat), .int .i64 (c.head.bang : Nat), .bool c.head.neg, .slice bo c.body.length bcap]] w fun e w' => e = .returned (.int .i64 (optI (looseC c))) ∧ Below w.heap.size w w' := by
  have hB0 : Below w.heap.size w ((w.alloc (.cells #[.string c.head.w, tv, .int .i64 (c.head.pl : Nat), .int .i64 (c.head.bang : Nat), .bool c.head.neg, .slice bo c.body.length bcap] 57)).alloc (.cells #[.string c.head.w, tv, .int .i64 (c.head.pl : Nat), .int .i64 (c.head.bang : Nat), .bool c.head.neg, .slice bo c.body.length bcap] 57)) := ((Below.refl _ w).alloc (Nat.le_refl _) _).alloc (by simp) _
  have hC0 := new_one w [.string c.head.w, tv, .int .i64 (c.head.pl : Nat), .int .i64 (c.head.bang : Nat), .bool c.head.neg, .slice bo c.body.length bcap] 57 [.string c.head.w, tv, .int .i64 (c.head.pl : Nat), .int .i64 (c.head.bang : Nat), .bool c.head.neg, .slice bo c.body.length bcap] 57
  have hS0 := new_two w (.cells #[.string c.head.w, tv, .int .i64 (c.head.pl : Nat), .int .i64 (c.head.bang : Nat), .bool c.head.neg, .slice bo c.body.length bcap] 57) [.string c.head.w, tv, .int .i64 (c.head.pl : Nat), .int .i64 (c.head.bang : Nat), .bool c.head.neg, .slice bo c.body.length bcap] 57
  have hL0 : ClRow ((w.alloc (.cells #[.string c.head.w, tv, .int .i64 (c.head.pl : Nat), .int .i64 (c.head.bang : Nat), .bool c.head.neg, .slice bo c.body.length bcap] 57)).alloc (.cells #[.string c.head.w, tv, .int .i64 (c.head.pl : Nat), .int .i64 (c.head.bang : Nat), .bool c.head.neg, .slice bo c.body.length bcap] 57)) base (.slice (some ⟨w.heap.size + 1, 0, none⟩) 1 1) [c] := by
    refine ⟨[[.string c.head.w, tv, .int .i64 (c.head.pl : Nat), .int .i64 (c.head.bang : Nat), .bool c.head.neg, .slice bo c.body.length bcap]], ⟨rfl, .inr ⟨w.heap.size + 1, 1, #[.string c.head.w, tv, .int .i64 (c.head.pl : Nat), .int .i64 (c.head.bang : Nat), .bool c.head.neg, .slice bo c.body.length bcap], rfl, by omega, hS0, Nat.le_refl _, by decide, rfl, rfl⟩⟩, rfl, ?_⟩
    intro i c' cs h1 h2
    cases i with
    | zero =>
      simp at h1 h2
      subst h1 h2
      exact ⟨_, _, rfl, ⟨tv, rfl, own_below hT hB0⟩, hR.below hB0⟩
    | succ i => simp at h1
  have HAT := hid (atoms_r _ base (some ⟨w.heap.size + 1, 0, none⟩) 1 [c] hL0 (by simp) (by simpa using hn))
  have hone : atomsC [c] = c.head :: c.body := by simp [atomsC]
  rw [hone] at HAT
  have HLC := hid (looseC_L c)
  obtain ⟨all, HAL⟩ : ∃ all, Hid (all = c.head :: c.body) := ⟨_, rfl⟩
  have hlen : all.length ≤ 5 := by rw [HAL.out]; simp; omega
  have hts : ∀ a ∈ c.body, a.ts.length ≤ 3 := fun a ha => ht a (by simp [ha])
  rw [← HAL.out] at HAT HLC ht
  have HR := hid hR
  have HTS : Hid (∀ a ∈ c.body, a.ts.length ≤ 40) := fun a ha => by have := hts a ha; omega
  have HC0 := hid hC0
  have HB0 := hid hB0
  clear HAL hone hL0 hS0 hC0 hB0 hR
  go_enter Tryd.func14, Tryd.ntmps14
  go_wp2_with fail
  refine (HAT.out).mono ?_
  rintro e w1 ⟨v, rfl, hG, hB1⟩
  obtain ⟨oo, ocap, rfl⟩ := hG.form
  have hC1 := HC0.out.below hB1
  have hBw1 : Below w.heap.size w w1 := HB0.out.trans (hB1.mono (by simp; omega))
  clear HC0 HB0 HAT hB1
  go_wp2_with fail
  go_loopw [4] (fun iv wr => ∃ (i : Nat), i ≤ all.length ∧ iv = .int .i64 i ∧ Hid (looseL c (decide (i = 0)) (all.drop i) = looseC c) ∧ Blk wr w.heap.size [.string c.head.w, tv, .int .i64 (c.head.pl : Nat), .int .i64 (c.head.bang : Nat), .bool c.head.neg, .slice bo c.body.length bcap] 57 ∧ Gather wr ((w.alloc (.cells #[.string c.head.w, tv, .int .i64 (c.head.pl : Nat), .int .i64 (c.head.bang : Nat), .bool c.head.neg, .slice bo c.body.length bcap] 57)).alloc (.cells #[.string c.head.w, tv, .int .i64 (c.head.pl : Nat), .int .i64 (c.head.bang : Nat), .bool c.head.neg, .slice bo c.body.length bcap] 57)).heap.size base (.slice oo all.length ocap) all ∧ Below w.heap.size w wr) (fun iv _ => all.length - (intOf iv).toNat)
  case atStart => exact ⟨0, by omega, rfl, HLC.out.symm, hC1, hG, hBw1⟩
  case round =>
    clear hC1 hG hBw1
    obtain ⟨i, hi, rfl, HX, hC, hG, hB⟩ := hrel
    by_cases hlt : i < all.length
    · obtain ⟨g, tw, rfl, hg, b0, b1, b2, b3, b4, hTi⟩ := gather_at hG rfl i hlt
      have htl := ht all[i] (List.getElem_mem hlt)
      have HD : Hid (looseL c (decide (i = 0)) (all.drop i) = (looseK c (decide (i = 0) || all[i].neg) all[i].ts).or (looseL c false (all.drop (i + 1)))) := by
        show _ = _
        rw [List.drop_eq_getElem_cons hlt, looseL]
        rfl
      have HGA : Hid (∀ W : World, Gather W ((w.alloc (.cells #[.string c.head.w, tv, .int .i64 (c.head.pl : Nat), .int .i64 (c.head.bang : Nat), .bool c.head.neg, .slice bo c.body.length bcap] 57)).alloc (.cells #[.string c.head.w, tv, .int .i64 (c.head.pl : Nat), .int .i64 (c.head.bang : Nat), .bool c.head.neg, .slice bo c.body.length bcap] 57)).heap.size base (.slice (some ⟨g, 0, none⟩) all.length ocap) all → ∃ tq tcap, W.cell? ⟨g, i * 5 + 1, none⟩ = some (.slice tq all[i].ts.length tcap) ∧ W.cell? ⟨g, i * 5 + 4, none⟩ = some (.bool all[i].neg) ∧ W.ownsRow base 88 3 (.slice tq all[i].ts.length tcap) all[i].ts.length (all[i].ts.flatMap RT.cells)) := by
        intro W hW
        obtain ⟨g', tw', hgg, _, _, q1, _, _, q4, hTq⟩ := gather_at hW rfl i hlt
        simp only [Option.some.injEq, Addr.mk.injEq, and_true] at hgg
        subst hgg
        obtain ⟨tq, tcap, rfl⟩ := own_form hTq
        exact ⟨tq, tcap, q1, q4, hTq⟩
      generalize all[i] = a at *
      obtain ⟨tq, tcap, rfl⟩ := own_form hTi
      clear b0 b2 b3
      have c5 := hC.cell 5
      go_wp2_with fail
      go_loopw [5] (fun kv wr => ∃ (k : Nat), k ≤ a.ts.length ∧ kv = .int .i64 k ∧ Hid ((looseK c (decide (i = 0) || a.neg) (a.ts.drop k)).or (looseL c false (all.drop (i + 1))) = looseC c) ∧ Blk wr w.heap.size [.string c.head.w, tv, .int .i64 (c.head.pl : Nat), .int .i64 (c.head.bang : Nat), .bool c.head.neg, .slice bo c.body.length bcap] 57 ∧ Gather wr ((w.alloc (.cells #[.string c.head.w, tv, .int .i64 (c.head.pl : Nat), .int .i64 (c.head.bang : Nat), .bool c.head.neg, .slice bo c.body.length bcap] 57)).alloc (.cells #[.string c.head.w, tv, .int .i64 (c.head.pl : Nat), .int .i64 (c.head.bang : Nat), .bool c.head.neg, .slice bo c.body.length bcap] 57)).heap.size base (.slice (some ⟨g, 0, none⟩) all.length ocap) all ∧ Below w.heap.size w wr) (fun kv _ => a.ts.length - (intOf kv).toNat)
      case atStart =>
        refine ⟨0, by omega, rfl, ?_, hC, hG, hB⟩
        show _ = _
        rw [List.drop_zero, ← HD.out, HX.out]
      case round =>
        clear hC hG hB c5 b1 b4 hTi
        obtain ⟨k, hk, rfl, HY, hC, hG, hB⟩ := hrel
        obtain ⟨tq2, tcap2, b1, b4, hTi⟩ := HGA.out wr hG
        obtain ⟨c0, c1, c2, c3, c4, c5⟩ := (show wr.cell? ⟨w.heap.size, 0, none⟩ = some (.string c.head.w) ∧ wr.cell? ⟨w.heap.size, 1, none⟩ = some tv ∧ wr.cell? ⟨w.heap.size, 2, none⟩ = some (.int .i64 (c.head.pl : Nat)) ∧ wr.cell? ⟨w.heap.size, 3, none⟩ = some (.int .i64 (c.head.bang : Nat)) ∧ wr.cell? ⟨w.heap.size, 4, none⟩ = some (.bool c.head.neg) ∧ wr.cell? ⟨w.heap.size, 5, none⟩ = some (.slice bo c.body.length bcap) from ⟨hC.cell 0, hC.cell 1, hC.cell 2, hC.cell 3, hC.cell 4, hC.cell 5⟩)
        by_cases hkl : k < a.ts.length
        · obtain ⟨g3, rfl, hg3, d0, d1, d2⟩ := rterm_at hTi k hkl
          have HK : Hid (looseK c (decide (i = 0) || a.neg) (a.ts.drop k) = if ((decide (i = 0) || a.neg) && (a.ts[k].var && !boundC c a.ts[k].s)) = true then some a.ts[k].pl else looseK c (decide (i = 0) || a.neg) (a.ts.drop (k + 1))) := by
            show _ = _
            rw [List.drop_eq_getElem_cons hkl, looseK_cons]
          generalize a.ts[k] = t at *
          unfold RT.w at d0
          have hTB := Blk.new wr [.string (bs t.s), .bool t.var, .int .i64 (t.pl : Nat)] 88
          have hcw : w.heap.size < wr.heap.size := hC.lt
          cases hbd : boundC c t.s
          · cases hvr : t.var
            · rw [hvr] at d1 hTB
              have HN : Hid ((looseK c (decide (i = 0) || a.neg) (a.ts.drop (k + 1))).or (looseL c false (all.drop (i + 1))) = looseC c) := by
                show _ = _
                rw [← HY.out, HK.out, if_neg (by simp [hvr])]
              go_wp2_with (go_at_call 25; refine (bound_c _ base c _ _ _ _ _ bo bcap (by exact (HR.out.below hB).below (below_alloc wr _)) (by omega) (HTS.out) t.s).mono ?_; rintro e w2 ⟨he, hB2⟩; rw [hbd] at he; subst he; have hB3 : Below wr.heap.size wr w2 := (below_alloc wr _).trans (hB2.mono (by simp)); have hC2 := hC.below hB3; have hG2 := hG.below hB3; obtain ⟨f0, f1, f2⟩ := (show w2.cell? ⟨wr.heap.size, 0, none⟩ = some (.string (bs t.s)) ∧ w2.cell? ⟨wr.heap.size, 1, none⟩ = some (.bool false) ∧ w2.cell? ⟨wr.heap.size, 2, none⟩ = some (.int .i64 (t.pl : Nat)) from ⟨(hTB.below hB2).cell 0, (hTB.below hB2).cell 1, (hTB.below hB2).cell 2⟩); obtain ⟨tq3, tcap3, q1, q4, hTq⟩ := HGA.out w2 hG2)
              exact ⟨⟨k + 1, hkl, by go_num, HN, hC2, hG2, hB.trans (hB3.mono hB.size)⟩, by simp [intOf]; omega⟩
            · rw [hvr] at d1 hTB
              by_cases hi0 : i = 0
              · have hi1 : ((i : Int) == 0) = true := by rw [hi0]; rfl
                have HE := hid (show looseC c = some t.pl by rw [← HY.out, HK.out, if_pos (by simp [hvr, hbd, hi0])]; rfl)
                clear hi0
                go_wp2_with (go_at_call 25; refine (bound_c _ base c _ _ _ _ _ bo bcap (by exact (HR.out.below hB).below (below_alloc wr _)) (by omega) (HTS.out) t.s).mono ?_; rintro e w2 ⟨he, hB2⟩; rw [hbd] at he; subst he; have hB3 : Below wr.heap.size wr w2 := (below_alloc wr _).trans (hB2.mono (by simp)); have hC2 := hC.below hB3; have hG2 := hG.below hB3; obtain ⟨f0, f1, f2⟩ := (show w2.cell? ⟨wr.heap.size, 0, none⟩ = some (.string (bs t.s)) ∧ w2.cell? ⟨wr.heap.size, 1, none⟩ = some (.bool true) ∧ w2.cell? ⟨wr.heap.size, 2, none⟩ = some (.int .i64 (t.pl : Nat)) from ⟨(hTB.below hB2).cell 0, (hTB.below hB2).cell 1, (hTB.below hB2).cell 2⟩); obtain ⟨tq3, tcap3, q1, q4, hTq⟩ := HGA.out w2 hG2)
                go_ret
                rw [HE.out]
                exact ⟨rfl, hB.trans (hB3.mono hB.size)⟩
              · have hi1 : ((i : Int) == 0) = false := by rw [beq_eq_false_iff_ne]; omega
                cases hng : a.neg
                · rw [hng] at b4
                  have HN : Hid ((looseK c (decide (i = 0) || false) (a.ts.drop (k + 1))).or (looseL c false (all.drop (i + 1))) = looseC c) := by
                    show _ = _
                    rw [← HY.out, HK.out, if_neg (by simp [hi0, hng]), hng]
                  go_wp2_with (go_at_call 25; refine (bound_c _ base c _ _ _ _ _ bo bcap (by exact (HR.out.below hB).below (below_alloc wr _)) (by omega) (HTS.out) t.s).mono ?_; rintro e w2 ⟨he, hB2⟩; rw [hbd] at he; subst he; have hB3 : Below wr.heap.size wr w2 := (below_alloc wr _).trans (hB2.mono (by simp)); have hC2 := hC.below hB3; have hG2 := hG.below hB3; obtain ⟨f0, f1, f2⟩ := (show w2.cell? ⟨wr.heap.size, 0, none⟩ = some (.string (bs t.s)) ∧ w2.cell? ⟨wr.heap.size, 1, none⟩ = some (.bool true) ∧ w2.cell? ⟨wr.heap.size, 2, none⟩ = some (.int .i64 (t.pl : Nat)) from ⟨(hTB.below hB2).cell 0, (hTB.below hB2).cell 1, (hTB.below hB2).cell 2⟩); obtain ⟨tq3, tcap3, q1, q4, hTq⟩ := HGA.out w2 hG2)
                  exact ⟨⟨k + 1, hkl, by go_num, HN, hC2, hG2, hB.trans (hB3.mono hB.size)⟩, by simp [intOf]; omega⟩
                · rw [hng] at b4
                  have HE := hid (show looseC c = some t.pl by rw [← HY.out, HK.out, if_pos (by simp [hvr, hbd, hng])]; rfl)
                  go_wp2_with (go_at_call 25; refine (bound_c _ base c _ _ _ _ _ bo bcap (by exact (HR.out.below hB).below (below_alloc wr _)) (by omega) (HTS.out) t.s).mono ?_; rintro e w2 ⟨he, hB2⟩; rw [hbd] at he; subst he; have hB3 : Below wr.heap.size wr w2 := (below_alloc wr _).trans (hB2.mono (by simp)); have hC2 := hC.below hB3; have hG2 := hG.below hB3; obtain ⟨f0, f1, f2⟩ := (show w2.cell? ⟨wr.heap.size, 0, none⟩ = some (.string (bs t.s)) ∧ w2.cell? ⟨wr.heap.size, 1, none⟩ = some (.bool true) ∧ w2.cell? ⟨wr.heap.size, 2, none⟩ = some (.int .i64 (t.pl : Nat)) from ⟨(hTB.below hB2).cell 0, (hTB.below hB2).cell 1, (hTB.below hB2).cell 2⟩); obtain ⟨tq3, tcap3, q1, q4, hTq⟩ := HGA.out w2 hG2)
                  go_ret
                  rw [HE.out]
                  exact ⟨rfl, hB.trans (hB3.mono hB.size)⟩
          · cases hvr : t.var
            · rw [hvr] at d1 hTB
              have HN : Hid ((looseK c (decide (i = 0) || a.neg) (a.ts.drop (k + 1))).or (looseL c false (all.drop (i + 1))) = looseC c) := by
                show _ = _
                rw [← HY.out, HK.out, if_neg (by simp [hvr])]
              go_wp2_with (go_at_call 25; refine (bound_c _ base c _ _ _ _ _ bo bcap (by exact (HR.out.below hB).below (below_alloc wr _)) (by omega) (HTS.out) t.s).mono ?_; rintro e w2 ⟨he, hB2⟩; rw [hbd] at he; subst he; have hB3 : Below wr.heap.size wr w2 := (below_alloc wr _).trans (hB2.mono (by simp)); have hC2 := hC.below hB3; have hG2 := hG.below hB3; obtain ⟨f0, f1, f2⟩ := (show w2.cell? ⟨wr.heap.size, 0, none⟩ = some (.string (bs t.s)) ∧ w2.cell? ⟨wr.heap.size, 1, none⟩ = some (.bool false) ∧ w2.cell? ⟨wr.heap.size, 2, none⟩ = some (.int .i64 (t.pl : Nat)) from ⟨(hTB.below hB2).cell 0, (hTB.below hB2).cell 1, (hTB.below hB2).cell 2⟩); obtain ⟨tq3, tcap3, q1, q4, hTq⟩ := HGA.out w2 hG2)
              exact ⟨⟨k + 1, hkl, by go_num, HN, hC2, hG2, hB.trans (hB3.mono hB.size)⟩, by simp [intOf]; omega⟩
            · rw [hvr] at d1 hTB
              have HN : Hid ((looseK c (decide (i = 0) || a.neg) (a.ts.drop (k + 1))).or (looseL c false (all.drop (i + 1))) = looseC c) := by
                show _ = _
                rw [← HY.out, HK.out, if_neg (by simp [hbd])]
              go_wp2_with (go_at_call 25; refine (bound_c _ base c _ _ _ _ _ bo bcap (by exact (HR.out.below hB).below (below_alloc wr _)) (by omega) (HTS.out) t.s).mono ?_; rintro e w2 ⟨he, hB2⟩; rw [hbd] at he; subst he; have hB3 : Below wr.heap.size wr w2 := (below_alloc wr _).trans (hB2.mono (by simp)); have hC2 := hC.below hB3; have hG2 := hG.below hB3; obtain ⟨f0, f1, f2⟩ := (show w2.cell? ⟨wr.heap.size, 0, none⟩ = some (.string (bs t.s)) ∧ w2.cell? ⟨wr.heap.size, 1, none⟩ = some (.bool true) ∧ w2.cell? ⟨wr.heap.size, 2, none⟩ = some (.int .i64 (t.pl : Nat)) from ⟨(hTB.below hB2).cell 0, (hTB.below hB2).cell 1, (hTB.below hB2).cell 2⟩); obtain ⟨tq3, tcap3, q1, q4, hTq⟩ := HGA.out w2 hG2)
              exact ⟨⟨k + 1, hkl, by go_num, HN, hC2, hG2, hB.trans (hB3.mono hB.size)⟩, by simp [intOf]; omega⟩
        · have hke : k = a.ts.length := by omega
          have HN : Hid (looseL c (decide (i + 1 = 0)) (all.drop (i + 1)) = looseC c) := by
            show _ = _
            rw [← HY.out, hke, List.drop_length]
            unfold looseK looseT
            rw [show decide (i + 1 = 0) = false by simp]
            split <;> rfl
          clear hke
          go_wp2_with fail
          exact ⟨⟨i + 1, hlt, by go_num, HN, hC, hG, hB⟩, by simp [intOf]; omega⟩
    · have hie : i = all.length := by omega
      have HE := hid (show looseC c = none by rw [← HX.out, hie, List.drop_length]; rfl)
      clear hie
      go_wp2
      go_ret
      rw [HE.out]
      exact ⟨rfl, hB⟩

end Go.Proofs.YtpbfiffgcgnidaaDoor
