/-
  OUR OWN. The document's answer: a clause's first loose variable.
-/
import Derived.Test.YtpbfiffgcgnidaaGreatDoorXR5
namespace Go.Proofs.YtpbfiffgcgnidaaGreatDoor
open Go.RowKit Go.WideMaps Go.Maps
attribute [local go_sem] drewN_alloc drewN_setCell

def looseL (c : RC) : Bool → List RA → Option Nat
  | _, [] => none
  | f, a :: r => (if (f || a.neg) = true then looseT c a.ts else none).or (looseL c false r)
theorem looseB_L (c : RC) (b : List RA) : looseB c b = looseL c false b := by
  induction b with
  | nil => rfl
  | cons a r ih => rw [looseB, looseL, ih, Bool.false_or]
theorem looseC_L (c : RC) : looseC c = looseL c true (c.head :: c.body) := by
  unfold looseC
  rw [looseL, looseB_L, Bool.true_or, if_pos rfl]
/-- Loose among the terms from k on. -/
def looseK (c : RC) (chk : Bool) (ts : List RT) : Option Nat := if chk = true then looseT c ts else none
theorem looseK_cons (c : RC) (chk : Bool) (t : RT) (ts : List RT) : looseK c chk (t :: ts) = if (chk && (t.var && !boundC c t.s)) = true then some t.pl else looseK c chk ts := by
  unfold looseK looseT
  cases chk
  · rfl
  · rw [if_pos rfl, List.find?_cons]
    cases h : (t.var && !boundC c t.s)
    · rfl
    · rfl
def optI : Option Nat → Int
  | some p => (p : Nat)
  | none => -1

set_option maxHeartbeats 2000000 in
set_option maxRecDepth 100000 in
theorem loose_r (w : World) (base : Nat) (c : RC) (tv : Value) (bo : Option Addr) (bcap : Nat) (hT : w.ownsRow base 130 3 tv c.head.ts.length (c.head.ts.flatMap RT.cells)) (hR : AtomRow w base (.slice bo c.body.length bcap) c.body) (hbw : base ≤ w.heap.size) (hn : c.body.length ≤ 4) (ht : ∀ a ∈ c.head :: c.body, a.ts.length ≤ 3) :
    Calls Tryz.prog 32 #[.agg #[.string c.head.w, tv, .int .i64 (c.head.pl : Nat), .int .i64 (c.head.bang : Nat), .bool c.head.neg, .slice bo c.body.length bcap]] w fun e w' => e = .returned (.int .i64 (optI (looseC c))) ∧ Below w.heap.size w w' := by
  have hB0 : Below w.heap.size w ((w.alloc (.cells #[.string c.head.w, tv, .int .i64 (c.head.pl : Nat), .int .i64 (c.head.bang : Nat), .bool c.head.neg, .slice bo c.body.length bcap] 71)).alloc (.cells #[.string c.head.w, tv, .int .i64 (c.head.pl : Nat), .int .i64 (c.head.bang : Nat), .bool c.head.neg, .slice bo c.body.length bcap] 71)) := ((Below.refl _ w).alloc (Nat.le_refl _) _).alloc (by simp) _
  have hC0 := new_one w [.string c.head.w, tv, .int .i64 (c.head.pl : Nat), .int .i64 (c.head.bang : Nat), .bool c.head.neg, .slice bo c.body.length bcap] 71 [.string c.head.w, tv, .int .i64 (c.head.pl : Nat), .int .i64 (c.head.bang : Nat), .bool c.head.neg, .slice bo c.body.length bcap] 71
  have hS0 := new_two w (.cells #[.string c.head.w, tv, .int .i64 (c.head.pl : Nat), .int .i64 (c.head.bang : Nat), .bool c.head.neg, .slice bo c.body.length bcap] 71) [.string c.head.w, tv, .int .i64 (c.head.pl : Nat), .int .i64 (c.head.bang : Nat), .bool c.head.neg, .slice bo c.body.length bcap] 71
  have hL0 : ClRow ((w.alloc (.cells #[.string c.head.w, tv, .int .i64 (c.head.pl : Nat), .int .i64 (c.head.bang : Nat), .bool c.head.neg, .slice bo c.body.length bcap] 71)).alloc (.cells #[.string c.head.w, tv, .int .i64 (c.head.pl : Nat), .int .i64 (c.head.bang : Nat), .bool c.head.neg, .slice bo c.body.length bcap] 71)) base (.slice (some ⟨w.heap.size + 1, 0, none⟩) 1 1) [c] := by
    refine ⟨[[.string c.head.w, tv, .int .i64 (c.head.pl : Nat), .int .i64 (c.head.bang : Nat), .bool c.head.neg, .slice bo c.body.length bcap]], ⟨rfl, .inr ⟨w.heap.size + 1, 1, #[.string c.head.w, tv, .int .i64 (c.head.pl : Nat), .int .i64 (c.head.bang : Nat), .bool c.head.neg, .slice bo c.body.length bcap], rfl, by omega, hS0, Nat.le_refl _, by decide, rfl, rfl⟩⟩, rfl, ?_⟩
    intro i c' cs h1 h2
    cases i with
    | zero =>
      simp at h1 h2
      subst h1 h2
      exact ⟨_, _, rfl, ⟨tv, rfl, own_below hT hB0⟩, hR.below hB0⟩
    | succ i => simp at h1
  have HAT := hid (atoms_r _ base (some ⟨w.heap.size + 1, 0, none⟩) 1 [c] hL0 (by simp) (by simpa using hn))
  have hone : atomsC [c] = c.head :: c.body := by simp [atomsC]
  rw [hone] at HAT
  have HLC := hid (looseC_L c)
  obtain ⟨all, HAL⟩ : ∃ all, Hid (all = c.head :: c.body) := ⟨_, rfl⟩
  have hlen : all.length ≤ 5 := by rw [HAL.out]; simp; omega
  have hts : ∀ a ∈ c.body, a.ts.length ≤ 3 := fun a ha => ht a (by simp [ha])
  rw [← HAL.out] at HAT HLC ht
  have HR := hid hR
  have HTS : Hid (∀ a ∈ c.body, a.ts.length ≤ 40) := fun a ha => by have := hts a ha; omega
  have HC0 := hid hC0
  have HB0 := hid hB0
  clear HAL hone hL0 hS0 hC0 hB0 hR
  go_enter Tryz.func32, Tryz.ntmps32
  go_wp2_with fail
  refine (HAT.out).mono ?_
  rintro e w1 ⟨v, rfl, hG, hB1⟩
  obtain ⟨oo, ocap, rfl⟩ := hG.form
  have hC1 := HC0.out.below hB1
  have hBw1 : Below w.heap.size w w1 := HB0.out.trans (hB1.mono (by simp; omega))
  clear HC0 HB0 HAT hB1
  go_wp2_with fail
  go_loopw [4] (fun iv wr => ∃ (i : Nat), i ≤ all.length ∧ iv = .int .i64 i ∧ Hid (looseL c (decide (i = 0)) (all.drop i) = looseC c) ∧ Blk wr w.heap.size [.string c.head.w, tv, .int .i64 (c.head.pl : Nat), .int .i64 (c.head.bang : Nat), .bool c.head.neg, .slice bo c.body.length bcap] 71 ∧ Gather wr ((w.alloc (.cells #[.string c.head.w, tv, .int .i64 (c.head.pl : Nat), .int .i64 (c.head.bang : Nat), .bool c.head.neg, .slice bo c.body.length bcap] 71)).alloc (.cells #[.string c.head.w, tv, .int .i64 (c.head.pl : Nat), .int .i64 (c.head.bang : Nat), .bool c.head.neg, .slice bo c.body.length bcap] 71)).heap.size base (.slice oo all.length ocap) all ∧ Below w.heap.size w wr) (fun iv _ => all.length - (intOf iv).toNat)
  case atStart => exact ⟨0, by omega, rfl, HLC.out.symm, hC1, hG, hBw1⟩
  case round =>
    clear hC1 hG hBw1
    obtain ⟨i, hi, rfl, HX, hC, hG, hB⟩ := hrel
    by_cases hlt : i < all.length
    · obtain ⟨g, tw, rfl, hg, b0, b1, b2, b3, b4, hTi⟩ := gather_at hG rfl i hlt
      have htl := ht all[i] (List.getElem_mem hlt)
      have HD : Hid (looseL c (decide (i = 0)) (all.drop i) = (looseK c (decide (i = 0) || all[i].neg) all[i].ts).or (looseL c false (all.drop (i + 1)))) := by
        show _ = _
        rw [List.drop_eq_getElem_cons hlt, looseL]
        rfl
      have HGA : Hid (∀ W : World, Gather W ((w.alloc (.cells #[.string c.head.w, tv, .int .i64 (c.head.pl : Nat), .int .i64 (c.head.bang : Nat), .bool c.head.neg, .slice bo c.body.length bcap] 71)).alloc (.cells #[.string c.head.w, tv, .int .i64 (c.head.pl : Nat), .int .i64 (c.head.bang : Nat), .bool c.head.neg, .slice bo c.body.length bcap] 71)).heap.size base (.slice (some ⟨g, 0, none⟩) all.length ocap) all → ∃ tq tcap, W.cell? ⟨g, i * 5 + 1, none⟩ = some (.slice tq all[i].ts.length tcap) ∧ W.cell? ⟨g, i * 5 + 4, none⟩ = some (.bool all[i].neg) ∧ W.ownsRow base 130 3 (.slice tq all[i].ts.length tcap) all[i].ts.length (all[i].ts.flatMap RT.cells)) := by
        intro W hW
        obtain ⟨g', tw', hgg, _, _, q1, _, _, q4, hTq⟩ := gather_at hW rfl i hlt
        simp only [Option.some.injEq, Addr.mk.injEq, and_true] at hgg
        subst hgg
        obtain ⟨tq, tcap, rfl⟩ := own_form hTq
        exact ⟨tq, tcap, q1, q4, hTq⟩
      generalize all[i] = a at *
      obtain ⟨tq, tcap, rfl⟩ := own_form hTi
      clear b0 b2 b3
      have c5 := hC.cell 5
      go_wp2_with fail
      go_loopw [5] (fun kv wr => ∃ (k : Nat), k ≤ a.ts.length ∧ kv = .int .i64 k ∧ Hid ((looseK c (decide (i = 0) || a.neg) (a.ts.drop k)).or (looseL c false (all.drop (i + 1))) = looseC c) ∧ Blk wr w.heap.size [.string c.head.w, tv, .int .i64 (c.head.pl : Nat), .int .i64 (c.head.bang : Nat), .bool c.head.neg, .slice bo c.body.length bcap] 71 ∧ Gather wr ((w.alloc (.cells #[.string c.head.w, tv, .int .i64 (c.head.pl : Nat), .int .i64 (c.head.bang : Nat), .bool c.head.neg, .slice bo c.body.length bcap] 71)).alloc (.cells #[.string c.head.w, tv, .int .i64 (c.head.pl : Nat), .int .i64 (c.head.bang : Nat), .bool c.head.neg, .slice bo c.body.length bcap] 71)).heap.size base (.slice (some ⟨g, 0, none⟩) all.length ocap) all ∧ Below w.heap.size w wr) (fun kv _ => a.ts.length - (intOf kv).toNat)
      case atStart =>
        refine ⟨0, by omega, rfl, ?_, hC, hG, hB⟩
        show _ = _
        rw [List.drop_zero, ← HD.out, HX.out]
      case round =>
        clear hC hG hB c5 b1 b4 hTi
        obtain ⟨k, hk, rfl, HY, hC, hG, hB⟩ := hrel
        obtain ⟨tq2, tcap2, b1, b4, hTi⟩ := HGA.out wr hG
        obtain ⟨c0, c1, c2, c3, c4, c5⟩ := (show wr.cell? ⟨w.heap.size, 0, none⟩ = some (.string c.head.w) ∧ wr.cell? ⟨w.heap.size, 1, none⟩ = some tv ∧ wr.cell? ⟨w.heap.size, 2, none⟩ = some (.int .i64 (c.head.pl : Nat)) ∧ wr.cell? ⟨w.heap.size, 3, none⟩ = some (.int .i64 (c.head.bang : Nat)) ∧ wr.cell? ⟨w.heap.size, 4, none⟩ = some (.bool c.head.neg) ∧ wr.cell? ⟨w.heap.size, 5, none⟩ = some (.slice bo c.body.length bcap) from ⟨hC.cell 0, hC.cell 1, hC.cell 2, hC.cell 3, hC.cell 4, hC.cell 5⟩)
        by_cases hkl : k < a.ts.length
        · obtain ⟨g3, rfl, hg3, d0, d1, d2⟩ := rterm_at hTi k hkl
          have HK : Hid (looseK c (decide (i = 0) || a.neg) (a.ts.drop k) = if ((decide (i = 0) || a.neg) && (a.ts[k].var && !boundC c a.ts[k].s)) = true then some a.ts[k].pl else looseK c (decide (i = 0) || a.neg) (a.ts.drop (k + 1))) := by
            show _ = _
            rw [List.drop_eq_getElem_cons hkl, looseK_cons]
          generalize a.ts[k] = t at *
          unfold RT.w at d0
          have hTB := Blk.new wr [.string (bs t.s), .bool t.var, .int .i64 (t.pl : Nat)] 130
          have hcw : w.heap.size < wr.heap.size := hC.lt
          cases hbd : boundC c t.s
          · cases hvr : t.var
            · rw [hvr] at d1 hTB
              have HN : Hid ((looseK c (decide (i = 0) || a.neg) (a.ts.drop (k + 1))).or (looseL c false (all.drop (i + 1))) = looseC c) := by
                show _ = _
                rw [← HY.out, HK.out, if_neg (by simp [hvr])]
              go_wp2_with (go_at_call 64; refine (bound_c _ base c _ _ _ _ _ bo bcap (by exact (HR.out.below hB).below (below_alloc wr _)) (by omega) (HTS.out) t.s).mono ?_; rintro e w2 ⟨he, hB2⟩; rw [hbd] at he; subst he; have hB3 : Below wr.heap.size wr w2 := (below_alloc wr _).trans (hB2.mono (by simp)); have hC2 := hC.below hB3; have hG2 := hG.below hB3; obtain ⟨f0, f1, f2⟩ := (show w2.cell? ⟨wr.heap.size, 0, none⟩ = some (.string (bs t.s)) ∧ w2.cell? ⟨wr.heap.size, 1, none⟩ = some (.bool false) ∧ w2.cell? ⟨wr.heap.size, 2, none⟩ = some (.int .i64 (t.pl : Nat)) from ⟨(hTB.below hB2).cell 0, (hTB.below hB2).cell 1, (hTB.below hB2).cell 2⟩); obtain ⟨tq3, tcap3, q1, q4, hTq⟩ := HGA.out w2 hG2)
              exact ⟨⟨k + 1, hkl, by go_num, HN, hC2, hG2, hB.trans (hB3.mono hB.size)⟩, by simp [intOf]; omega⟩
            · rw [hvr] at d1 hTB
              by_cases hi0 : i = 0
              · have hi1 : ((i : Int) == 0) = true := by rw [hi0]; rfl
                have HE := hid (show looseC c = some t.pl by rw [← HY.out, HK.out, if_pos (by simp [hvr, hbd, hi0])]; rfl)
                clear hi0
                go_wp2_with (go_at_call 64; refine (bound_c _ base c _ _ _ _ _ bo bcap (by exact (HR.out.below hB).below (below_alloc wr _)) (by omega) (HTS.out) t.s).mono ?_; rintro e w2 ⟨he, hB2⟩; rw [hbd] at he; subst he; have hB3 : Below wr.heap.size wr w2 := (below_alloc wr _).trans (hB2.mono (by simp)); have hC2 := hC.below hB3; have hG2 := hG.below hB3; obtain ⟨f0, f1, f2⟩ := (show w2.cell? ⟨wr.heap.size, 0, none⟩ = some (.string (bs t.s)) ∧ w2.cell? ⟨wr.heap.size, 1, none⟩ = some (.bool true) ∧ w2.cell? ⟨wr.heap.size, 2, none⟩ = some (.int .i64 (t.pl : Nat)) from ⟨(hTB.below hB2).cell 0, (hTB.below hB2).cell 1, (hTB.below hB2).cell 2⟩); obtain ⟨tq3, tcap3, q1, q4, hTq⟩ := HGA.out w2 hG2)
                go_ret
                rw [HE.out]
                exact ⟨rfl, hB.trans (hB3.mono hB.size)⟩
              · have hi1 : ((i : Int) == 0) = false := by rw [beq_eq_false_iff_ne]; omega
                cases hng : a.neg
                · rw [hng] at b4
                  have HN : Hid ((looseK c (decide (i = 0) || false) (a.ts.drop (k + 1))).or (looseL c false (all.drop (i + 1))) = looseC c) := by
                    show _ = _
                    rw [← HY.out, HK.out, if_neg (by simp [hi0, hng]), hng]
                  go_wp2_with (go_at_call 64; refine (bound_c _ base c _ _ _ _ _ bo bcap (by exact (HR.out.below hB).below (below_alloc wr _)) (by omega) (HTS.out) t.s).mono ?_; rintro e w2 ⟨he, hB2⟩; rw [hbd] at he; subst he; have hB3 : Below wr.heap.size wr w2 := (below_alloc wr _).trans (hB2.mono (by simp)); have hC2 := hC.below hB3; have hG2 := hG.below hB3; obtain ⟨f0, f1, f2⟩ := (show w2.cell? ⟨wr.heap.size, 0, none⟩ = some (.string (bs t.s)) ∧ w2.cell? ⟨wr.heap.size, 1, none⟩ = some (.bool true) ∧ w2.cell? ⟨wr.heap.size, 2, none⟩ = some (.int .i64 (t.pl : Nat)) from ⟨(hTB.below hB2).cell 0, (hTB.below hB2).cell 1, (hTB.below hB2).cell 2⟩); obtain ⟨tq3, tcap3, q1, q4, hTq⟩ := HGA.out w2 hG2)
                  exact ⟨⟨k + 1, hkl, by go_num, HN, hC2, hG2, hB.trans (hB3.mono hB.size)⟩, by simp [intOf]; omega⟩
                · rw [hng] at b4
                  have HE := hid (show looseC c = some t.pl by rw [← HY.out, HK.out, if_pos (by simp [hvr, hbd, hng])]; rfl)
                  go_wp2_with (go_at_call 64; refine (bound_c _ base c _ _ _ _ _ bo bcap (by exact (HR.out.below hB).below (below_alloc wr _)) (by omega) (HTS.out) t.s).mono ?_; rintro e w2 ⟨he, hB2⟩; rw [hbd] at he; subst he; have hB3 : Below wr.heap.size wr w2 := (below_alloc wr _).trans (hB2.mono (by simp)); have hC2 := hC.below hB3; have hG2 := hG.below hB3; obtain ⟨f0, f1, f2⟩ := (show w2.cell? ⟨wr.heap.size, 0, none⟩ = some (.string (bs t.s)) ∧ w2.cell? ⟨wr.heap.size, 1, none⟩ = some (.bool true) ∧ w2.cell? ⟨wr.heap.size, 2, none⟩ = some (.int .i64 (t.pl : Nat)) from ⟨(hTB.below hB2).cell 0, (hTB.below hB2).cell 1, (hTB.below hB2).cell 2⟩); obtain ⟨tq3, tcap3, q1, q4, hTq⟩ := HGA.out w2 hG2)
                  go_ret
                  rw [HE.out]
                  exact ⟨rfl, hB.trans (hB3.mono hB.size)⟩
          · cases hvr : t.var
            · rw [hvr] at d1 hTB
              have HN : Hid ((looseK c (decide (i = 0) || a.neg) (a.ts.drop (k + 1))).or (looseL c false (all.drop (i + 1))) = looseC c) := by
                show _ = _
                rw [← HY.out, HK.out, if_neg (by simp [hvr])]
              go_wp2_with (go_at_call 64; refine (bound_c _ base c _ _ _ _ _ bo bcap (by exact (HR.out.below hB).below (below_alloc wr _)) (by omega) (HTS.out) t.s).mono ?_; rintro e w2 ⟨he, hB2⟩; rw [hbd] at he; subst he; have hB3 : Below wr.heap.size wr w2 := (below_alloc wr _).trans (hB2.mono (by simp)); have hC2 := hC.below hB3; have hG2 := hG.below hB3; obtain ⟨f0, f1, f2⟩ := (show w2.cell? ⟨wr.heap.size, 0, none⟩ = some (.string (bs t.s)) ∧ w2.cell? ⟨wr.heap.size, 1, none⟩ = some (.bool false) ∧ w2.cell? ⟨wr.heap.size, 2, none⟩ = some (.int .i64 (t.pl : Nat)) from ⟨(hTB.below hB2).cell 0, (hTB.below hB2).cell 1, (hTB.below hB2).cell 2⟩); obtain ⟨tq3, tcap3, q1, q4, hTq⟩ := HGA.out w2 hG2)
              exact ⟨⟨k + 1, hkl, by go_num, HN, hC2, hG2, hB.trans (hB3.mono hB.size)⟩, by simp [intOf]; omega⟩
            · rw [hvr] at d1 hTB
              have HN : Hid ((looseK c (decide (i = 0) || a.neg) (a.ts.drop (k + 1))).or (looseL c false (all.drop (i + 1))) = looseC c) := by
                show _ = _
                rw [← HY.out, HK.out, if_neg (by simp [hbd])]
              go_wp2_with (go_at_call 64; refine (bound_c _ base c _ _ _ _ _ bo bcap (by exact (HR.out.below hB).below (below_alloc wr _)) (by omega) (HTS.out) t.s).mono ?_; rintro e w2 ⟨he, hB2⟩; rw [hbd] at he; subst he; have hB3 : Below wr.heap.size wr w2 := (below_alloc wr _).trans (hB2.mono (by simp)); have hC2 := hC.below hB3; have hG2 := hG.below hB3; obtain ⟨f0, f1, f2⟩ := (show w2.cell? ⟨wr.heap.size, 0, none⟩ = some (.string (bs t.s)) ∧ w2.cell? ⟨wr.heap.size, 1, none⟩ = some (.bool true) ∧ w2.cell? ⟨wr.heap.size, 2, none⟩ = some (.int .i64 (t.pl : Nat)) from ⟨(hTB.below hB2).cell 0, (hTB.below hB2).cell 1, (hTB.below hB2).cell 2⟩); obtain ⟨tq3, tcap3, q1, q4, hTq⟩ := HGA.out w2 hG2)
              exact ⟨⟨k + 1, hkl, by go_num, HN, hC2, hG2, hB.trans (hB3.mono hB.size)⟩, by simp [intOf]; omega⟩
        · have hke : k = a.ts.length := by omega
          have HN : Hid (looseL c (decide (i + 1 = 0)) (all.drop (i + 1)) = looseC c) := by
            show _ = _
            rw [← HY.out, hke, List.drop_length]
            unfold looseK looseT
            rw [show decide (i + 1 = 0) = false by simp]
            split <;> rfl
          clear hke
          go_wp2_with fail
          exact ⟨⟨i + 1, hlt, by go_num, HN, hC, hG, hB⟩, by simp [intOf]; omega⟩
    · have hie : i = all.length := by omega
      have HE := hid (show looseC c = none by rw [← HX.out, hie, List.drop_length]; rfl)
      clear hie
      go_wp2
      go_ret
      rw [HE.out]
      exact ⟨rfl, hB⟩

end Go.Proofs.YtpbfiffgcgnidaaGreatDoor

namespace Go.Proofs.YtpbfiffgcgnidaaGreatDoor
open Go.RowKit Go.WideMaps Go.Maps
attribute [local go_sem] drewN_alloc drewN_setCell

def bnat : Value → Nat
  | .bool true => 1
  | _ => 0
/-- All names of bodies. -/
def bodyNames (l : List RC) : List (List UInt8) := l.flatMap fun c => c.body.map fun b => b.name
theorem bodyNames_len (l : List RC) (hb : ∀ c ∈ l, c.body.length ≤ 4) : (bodyNames l).length ≤ 4 * l.length := by
  induction l with
  | nil => simp [bodyNames]
  | cons c l ih =>
    have h1 := hb c (by simp)
    have h2 := ih (fun x hx => hb x (by simp [hx]))
    unfold bodyNames at *
    simp only [List.flatMap_cons, List.length_append, List.length_map, List.length_cons]
    omega
/-- What was gathered so far. -/
structure Dep (l : List RC) (p : List UInt8) (xs : List (List UInt8)) : Prop where
  nodup : xs.Nodup
  sub : ∀ x ∈ xs, x ∈ bodyNames l
  least : ∀ P : List UInt8 → Prop, (∀ c ∈ l, (c.head.name = p ∨ P c.head.name) → ∀ b ∈ c.body, P b.name) → ∀ x ∈ xs, P x
theorem Dep.nil (l : List RC) (p : List UInt8) : Dep l p [] := ⟨by simp, by simp, by simp⟩
theorem Dep.len {l : List RC} {p : List UInt8} {xs : List (List UInt8)} (h : Dep l p xs) : xs.length ≤ (bodyNames l).length := h.nodup.length_le_of_subset h.sub
theorem Dep.more {l : List RC} {p : List UInt8} {xs : List (List UInt8)} (h : Dep l p xs) {c : RC} (hc : c ∈ l) {b : RA} (hb : b ∈ c.body) (hf : c.head.name = p ∨ c.head.name ∈ xs) (hn : hasW xs b.name = false) : Dep l p (xs ++ [b.name]) := by
  have hx : b.name ∉ xs := by simpa [hasW] using hn
  refine ⟨?_, ?_, ?_⟩
  · rw [List.nodup_append]
    exact ⟨h.nodup, by simp, by intro a ha b' hb'; simp at hb'; subst hb'; intro e; exact hx (e ▸ ha)⟩
  · intro x hx'
    rw [List.mem_append, List.mem_singleton] at hx'
    rcases hx' with h' | rfl
    · exact h.sub x h'
    · unfold bodyNames
      rw [List.mem_flatMap]
      exact ⟨c, hc, List.mem_map.2 ⟨b, hb, rfl⟩⟩
  · intro P hP x hx'
    rw [List.mem_append, List.mem_singleton] at hx'
    rcases hx' with h' | rfl
    · exact h.least P hP x h'
    · refine hP c hc ?_ b hb
      rcases hf with hf | hf
      · exact .inl hf
      · exact .inr (h.least P hP _ hf)
/-- A clause's first k literals add nothing. -/
def Still (p : List UInt8) (xs : List (List UInt8)) (c : RC) (k : Nat) : Prop := (c.head.name = p ∨ c.head.name ∈ xs) → ∀ b ∈ c.body.take k, b.name ∈ xs
theorem Still.step {p : List UInt8} {xs : List (List UInt8)} {c : RC} {k : Nat} (h : Still p xs c k) (hk : k < c.body.length) (hs : (c.head.name = p ∨ c.head.name ∈ xs) → c.body[k].name ∈ xs) : Still p xs c (k + 1) := by
  intro hf b hb
  rw [List.take_succ_eq_append_getElem hk, List.mem_append, List.mem_singleton] at hb
  rcases hb with hb | rfl
  · exact h hf b hb
  · exact hs hf

set_option maxHeartbeats 4000000 in
set_option maxRecDepth 100000 in
theorem below_r (w : World) (base : Nat) (ao : Option Addr) (cap : Nat) (l : List RC) (hL : ClRow w base (.slice ao l.length cap) l) (hn : l.length ≤ 40) (hb : ∀ c ∈ l, c.body.length ≤ 4) (p : List UInt8) :
    Calls Tryz.prog 33 #[.slice ao l.length cap, .string (bs p)] w fun e w' => ∃ xs v, e = .returned v ∧ w'.ownsRow w.heap.size 9 1 v xs.length (xs.map fun x => .string (bs x)) ∧ xs.length ≤ 160 ∧ Deps l p xs ∧ Below w.heap.size w w' := by
  obtain ⟨i1, hi1, hy0, hy1, hy2⟩ := info_parts infoStr
  have hU := bodyNames_len l hb
  go_enter Tryz.func33, Tryz.ntmps33
  go_wp2
  go_loopw [5, 6] (fun ov gv wr => ∃ (xs : List (List UInt8)) (gr : Bool), gv = .bool gr ∧ wr.ownsRow w.heap.size 9 1 ov xs.length (xs.map fun x => .string (bs x)) ∧ Hid (Dep l p xs) ∧ Hid (gr = false → ∀ c ∈ l, Still p xs c c.body.length) ∧ Below w.heap.size w wr) (fun ov gv _ => ((bodyNames l).length - slen ov) * 2 + bnat gv)
  case atStart => exact ⟨[], true, rfl, World.ownsRow_nil _ _ _ _, Dep.nil l p, by intro h; simp at h, Below.refl _ _⟩
  case round =>
    obtain ⟨xs0, gr, rfl, ho, HD, HS, hB⟩ := hrel
    cases gr
    · have HDD : Hid (Deps l p xs0) := by
        refine ⟨?_, HD.out.least⟩
        intro c hc hf b hb'
        refine HS.out rfl c hc hf b ?_
        rw [List.take_length]
        exact hb'
      have hlen := HD.out.len
      go_wp2
      go_ret
      exact ⟨xs0, _, rfl, ho, by omega, HDD.out, hB⟩
    · have hlen0 := HD.out.len
      clear HS
      obtain ⟨oo, ocap, rfl⟩ := own_form ho
      go_wp2_with fail
      go_loopw [5, 6, 7] (fun ov gv iv wr => ∃ (i : Nat) (xs : List (List UInt8)) (gr : Bool), i ≤ l.length ∧ iv = .int .i64 i ∧ gv = .bool gr ∧ wr.ownsRow w.heap.size 9 1 ov xs.length (xs.map fun x => .string (bs x)) ∧ Hid (Dep l p xs) ∧ xs0.length ≤ xs.length ∧ (gr = true → xs0.length < xs.length) ∧ Hid (gr = false → ∀ c ∈ l.take i, Still p xs c c.body.length) ∧ Below w.heap.size w wr) (fun _ _ iv _ => l.length - (intOf iv).toNat)
      case atStart => exact ⟨0, xs0, false, by omega, rfl, rfl, ho, HD, Nat.le_refl _, by simp, by intro _ c hc; simp at hc, hB⟩
      case round =>
        clear ho HD hB
        obtain ⟨i, xs, gr, hi, rfl, rfl, ho, HD, hxl, hgr, HS, hB⟩ := hrel
        have hlen := HD.out.len
        obtain ⟨oq, oqc, rfl⟩ := own_form ho
        by_cases hlt : i < l.length
        · obtain ⟨g, tv, bo, bcap, rfl, hg, b0, b1, b2, b3, b4, b5, hT, hR⟩ := rclause_at hL rfl i hlt
          have hcl : l[i] ∈ l := List.getElem_mem hlt
          have hbl := hb l[i] hcl
          have HTK := hid (show l.take (i + 1) = l.take i ++ [l[i]] from List.take_succ_eq_append_getElem hlt)
          generalize l[i] = c at *
          have HB0 := hid b0
          have HB5 := hid b5
          rw [← hB.cell (p := ⟨g, i * 6 + 5, none⟩) hg] at b5
          clear b0 b1 b2 b3 b4 hT
          go_wp2_with fail
          go_loopw [5, 6, 8] (fun ov gv kv wr => ∃ (k : Nat) (xs : List (List UInt8)) (gr : Bool), k ≤ c.body.length ∧ kv = .int .i64 k ∧ gv = .bool gr ∧ wr.ownsRow w.heap.size 9 1 ov xs.length (xs.map fun x => .string (bs x)) ∧ Hid (Dep l p xs) ∧ xs0.length ≤ xs.length ∧ (gr = true → xs0.length < xs.length) ∧ Hid (gr = false → (∀ c ∈ l.take i, Still p xs c c.body.length) ∧ Still p xs c k) ∧ Below w.heap.size w wr) (fun _ _ kv _ => c.body.length - (intOf kv).toNat)
          case atStart => exact ⟨0, xs, gr, by omega, rfl, rfl, ho, HD, hxl, hgr, fun h => ⟨HS.out h, by intro _ b hb'; simp at hb'⟩, hB⟩
          case round =>
            clear ho HD hB HS hxl hgr hlen b5
            obtain ⟨k, xs, gr, hk, rfl, rfl, ho, HD1, hxl, hgr, HS1, hB1⟩ := hrel
            have hlen := HD1.out.len
            have hszw := hB1.size
            obtain ⟨oq, oqc, rfl⟩ := own_form ho
            have b5 := HB5.out
            rw [← hB1.cell (p := ⟨g, i * 6 + 5, none⟩) hg] at b5
            by_cases hkl : k < c.body.length
            · obtain ⟨gb, tw, rfl, hgb, e0, e1, e2, e3, e4, hTb⟩ := ratom_at hR rfl k hkl
              have hbm : c.body[k] ∈ c.body := List.getElem_mem hkl
              have b0 := HB0.out
              rw [← hB1.cell (p := ⟨g, i * 6, none⟩) hg] at b0
              rw [← hB1.cell (p := ⟨gb, k * 5, none⟩) hgb] at e0
              obtain ⟨b, HBN⟩ : ∃ b, Hid (b = c.body[k]) := ⟨c.body[k], hid rfl⟩
              rw [← HBN.out] at hbm e0
              unfold RA.w at b0 e0
              clear e1 e2 e3 e4 hTb
              have hq := str_beq c.head.name p
              cases hp : decide (c.head.name = p)
              · rw [hp] at hq
                have hpn : ¬ c.head.name = p := by simpa using hp
                cases hin : hasW xs c.head.name
                · have hfrom : ¬ (c.head.name = p ∨ c.head.name ∈ xs) := by
                    rintro (h | h)
                    · exact hpn h
                    · have : hasW xs c.head.name = true := by simpa [hasW] using h
                      rw [hin] at this; simp at this
                  clear hpn hp
                  go_wp2_with fail
                  refine (in_c _ w.heap.size oq oqc xs ho (by omega) c.head.name).mono ?_
                  rintro e wx ⟨he, hwx⟩
                  subst wx
                  rw [hin] at he
                  subst he
                  have HSN : Hid (gr = false → (∀ c ∈ l.take i, Still p xs c c.body.length) ∧ Still p xs c (k + 1)) := fun h => ⟨(HS1.out h).1, (HS1.out h).2.step hkl (fun hf => absurd hf hfrom)⟩
                  obtain ⟨hadb, hhad⟩ : ∃ hb, hasW xs b.name = hb := ⟨_, rfl⟩
                  go_wp2_with fail
                  refine (in_c _ w.heap.size oq oqc xs ho (by omega) b.name).mono ?_
                  rintro e wx ⟨he, hwx⟩
                  subst wx
                  rw [hhad] at he
                  subst he
                  go_wp2_with fail
                  exact ⟨⟨k + 1, xs, gr, hkl, by go_num, rfl, ho, HD1, hxl, hgr, HSN, hB1⟩, by simp [intOf]; omega⟩
                · have hfrom : c.head.name = p ∨ c.head.name ∈ xs := .inr (by simpa [hasW] using hin)
                  clear hpn hp
                  go_wp2_with fail
                  refine (in_c _ w.heap.size oq oqc xs ho (by omega) c.head.name).mono ?_
                  rintro e wx ⟨he, hwx⟩
                  subst wx
                  rw [hin] at he
                  subst he
                  cases hhad : hasW xs b.name
                  · have HDN := hid (HD1.out.more hcl hbm hfrom hhad)
                    go_wp2_with fail
                    refine (in_c _ w.heap.size oq oqc xs ho (by omega) b.name).mono ?_
                    rintro e wx ⟨he, hwx⟩
                    subst wx
                    rw [hhad] at he
                    subst he
                    go_wp2_with (at_builtin; refine wpList_append_ownS _ rfl _ _ 31 rfl w.heap.size 9 i1 _ 1 16 Tryz.underlying31 hi1 hy0 hy1 hy2 rfl (by decide) _ xs.length (xs.map fun x => .string (bs x)) rfl (ho.alloc _) ⟨wr.heap.size, 0, none⟩ 1 [.string (bs b.name)] rfl rfl (new_cells _ _ _) (by intro u hu; simp at hu; subst hu; rfl) (by unfold maxLen; omega) (by omega) (by simp; omega) ?_; intro g2 cap2 w2 hL2 hg2)
                    have hB2 : Below w.heap.size w w2 := (hB1.alloc (by omega) _).grown hg2 (by simp; omega) (own_base ho)
                    exact ⟨⟨k + 1, xs ++ [b.name], true, hkl, by go_num, rfl, by simpa using hL2, HDN, by simp; omega, by simp; omega, by intro h; simp at h, hB2⟩, by simp [intOf]; omega⟩
                  · have HSN : Hid (gr = false → (∀ c ∈ l.take i, Still p xs c c.body.length) ∧ Still p xs c (k + 1)) := fun h => ⟨(HS1.out h).1, (HS1.out h).2.step hkl (fun _ => HBN.out ▸ (by simpa [hasW] using hhad))⟩
                    go_wp2_with fail
                    refine (in_c _ w.heap.size oq oqc xs ho (by omega) b.name).mono ?_
                    rintro e wx ⟨he, hwx⟩
                    subst wx
                    rw [hhad] at he
                    subst he
                    go_wp2_with fail
                    exact ⟨⟨k + 1, xs, gr, hkl, by go_num, rfl, ho, HD1, hxl, hgr, HSN, hB1⟩, by simp [intOf]; omega⟩
              · rw [hp] at hq
                have hfrom : c.head.name = p ∨ c.head.name ∈ xs := .inl (by simpa using hp)
                clear hp
                cases hhad : hasW xs b.name
                · have HDN := hid (HD1.out.more hcl hbm hfrom hhad)
                  go_wp2_with fail
                  refine (in_c _ w.heap.size oq oqc xs ho (by omega) b.name).mono ?_
                  rintro e wx ⟨he, hwx⟩
                  subst wx
                  rw [hhad] at he
                  subst he
                  go_wp2_with (at_builtin; refine wpList_append_ownS _ rfl _ _ 31 rfl w.heap.size 9 i1 _ 1 16 Tryz.underlying31 hi1 hy0 hy1 hy2 rfl (by decide) _ xs.length (xs.map fun x => .string (bs x)) rfl (ho.alloc _) ⟨wr.heap.size, 0, none⟩ 1 [.string (bs b.name)] rfl rfl (new_cells _ _ _) (by intro u hu; simp at hu; subst hu; rfl) (by unfold maxLen; omega) (by omega) (by simp; omega) ?_; intro g2 cap2 w2 hL2 hg2)
                  have hB2 : Below w.heap.size w w2 := (hB1.alloc (by omega) _).grown hg2 (by simp; omega) (own_base ho)
                  exact ⟨⟨k + 1, xs ++ [b.name], true, hkl, by go_num, rfl, by simpa using hL2, HDN, by simp; omega, by simp; omega, by intro h; simp at h, hB2⟩, by simp [intOf]; omega⟩
                · have HSN : Hid (gr = false → (∀ c ∈ l.take i, Still p xs c c.body.length) ∧ Still p xs c (k + 1)) := fun h => ⟨(HS1.out h).1, (HS1.out h).2.step hkl (fun _ => HBN.out ▸ (by simpa [hasW] using hhad))⟩
                  go_wp2_with fail
                  refine (in_c _ w.heap.size oq oqc xs ho (by omega) b.name).mono ?_
                  rintro e wx ⟨he, hwx⟩
                  subst wx
                  rw [hhad] at he
                  subst he
                  go_wp2_with fail
                  exact ⟨⟨k + 1, xs, gr, hkl, by go_num, rfl, ho, HD1, hxl, hgr, HSN, hB1⟩, by simp [intOf]; omega⟩
            · have hke : k = c.body.length := by omega
              have HSN : Hid (gr = false → ∀ c ∈ l.take (i + 1), Still p xs c c.body.length) := by
                intro h c' hc'
                rw [HTK.out, List.mem_append, List.mem_singleton] at hc'
                rcases hc' with hc' | rfl
                · exact (HS1.out h).1 c' hc'
                · rw [← hke]; exact (HS1.out h).2
              clear hke
              go_wp2_with fail
              exact ⟨⟨i + 1, xs, gr, hlt, by go_num, rfl, ho, HD1, hxl, hgr, HSN, hB1⟩, by simp [intOf]; omega⟩
        · have hie : i = l.length := by omega
          rw [hie, List.take_length] at HS
          clear hie
          go_wp2_with fail
          refine ⟨⟨xs, gr, rfl, ho, HD, HS, hB⟩, ?_⟩
          cases gr
          · simp only [slen, bnat]; omega
          · have := hgr rfl
            simp only [slen, bnat]; omega

end Go.Proofs.YtpbfiffgcgnidaaGreatDoor
