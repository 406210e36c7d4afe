/-
  OUR OWN. The document's answer: Retract.
-/
import Derived.Test.YtpbfiffgcgnidaaGreatDoorXM6
import Derived.Test.YtpbfiffgcgnidaaGreatDoorXF6
namespace Go.Proofs.YtpbfiffgcgnidaaGreatDoor
open Go.RowKit Go.WideMaps Go.Maps
attribute [local go_sem] drewN_alloc drewN_setCell

/-- Is a clause other than this fact? -/
def otherB (x : List UInt8) (c : RC) : Bool := !(c.body.isEmpty && decide (c.shown = x ++ [46]))
def retractC (cs : List RC) (s : ByteArray) : (Nat × Nat) × List RC :=
  if (askE cs s).1 ≠ 0 then (askE cs s, cs)
  else match questT s with
    | none => ((0, 0), cs)
    | some a => match gvar a.ts with
      | some p => ((6, p), cs)
      | none => if factsN cs a.shown = 0 then ((8, 0), cs) else ((0, 0), cs.filter (otherB a.shown))
theorem retractC_bad {cs : List RC} {s : ByteArray} (h : (askE cs s).1 ≠ 0) : retractC cs s = (askE cs s, cs) := by unfold retractC; rw [if_pos h]
theorem retractC_of {cs : List RC} {s : ByteArray} {a : RA} (h : askE cs s = (0, 0)) (hq : questT s = some a) : retractC cs s = match gvar a.ts with
      | some p => ((6, p), cs)
      | none => if factsN cs a.shown = 0 then ((8, 0), cs) else ((0, 0), cs.filter (otherB a.shown)) := by
  unfold retractC
  rw [h, if_neg (by simp), hq]
theorem filter_step (cs : List RC) (p : RC → Bool) (k : Nat) (hk : k < cs.length) : (cs.take (k + 1)).filter p = (cs.take k).filter p ++ (if p cs[k] = true then [cs[k]] else []) := by
  rw [List.take_succ_eq_append_getElem hk, List.filter_append]
  congr 1
  cases h : p cs[k] <;> simp [h]
theorem List.length_append_one {A : Type} (l : List A) (x : A) : (l ++ [x]).length = l.length + 1 := by simp
/-- One clause more in a row of one's own. -/
theorem cl_more {w w' : World} {own base : Nat} {v v' : Value} {l : List RC} {c : RC} {cs : List Value} {rows : List (List Value)} (hr : ∀ (i : Nat) (c : RC) (cs : List Value), l[i]? = some c → rows[i]? = some cs → ClauseCs w base c cs) (hl : rows.length = l.length)
    (ho : w.ownsRow own 71 6 v l.length rows.flatten) (hc : ClauseCs w base c cs) (ho' : w'.ownsRow own 71 6 v' (l.length + 1) (rows.flatten ++ cs)) (hg : w.grownBy w' v.ownBlock) :
    ∃ rows' : List (List Value), w'.ownsRow own 71 6 v' (l ++ [c]).length rows'.flatten ∧ rows'.length = (l ++ [c]).length ∧ ∀ (i : Nat) (c' : RC) (cs' : List Value), (l ++ [c])[i]? = some c' → rows'[i]? = some cs' → ClauseCs w' base c' cs' := by
  refine ⟨rows ++ [cs], by simpa using ho', by simp [hl], ?_⟩
  intro i d' cs' h1 h2
  by_cases hi : i < l.length
  · rw [List.getElem?_append_left hi] at h1
    rw [List.getElem?_append_left (by omega)] at h2
    exact (hr i d' cs' h1 h2).kept hg ho
  · rw [List.getElem?_append_right (by omega)] at h1
    rw [List.getElem?_append_right (by omega), hl] at h2
    cases hk : i - l.length with
    | zero => rw [hk] at h1 h2; simp at h1 h2; subst h1; subst h2; exact hc.kept hg ho
    | succ k => rw [hk] at h1; simp at h1

set_option maxHeartbeats 1000000 in
set_option maxRecDepth 100000 in
theorem rretract_bad (w : World) (hE : EndsIs w) (hw : 0 < w.heap.size) (base rb : Nat) (v : Value) (cs : List RC) (hV : Blk w rb [v] 76) (hL : ClRow w base v cs) (hn : cs.length ≤ 40) (hb : ∀ c ∈ cs, c.body.length ≤ 4) (s : ByteArray) (hs : s.size ≤ maxLen) (hbad : (askE cs s).1 ≠ 0) :
    Calls Tryz.prog 19 #[.pointer (some ⟨rb, 0, none⟩), .string s] w fun e w' => RChange w base rb v (retractC cs s) e w' := by
  have hI : RBaseIs w base rb cs := ⟨v, hV, hL⟩
  obtain ⟨x, HXX⟩ : ∃ x, Hid ((askE cs s).1 = x) := ⟨_, rfl⟩
  obtain ⟨y, HYY⟩ : ∃ y, Hid ((askE cs s).2 = y) := ⟨_, rfl⟩
  have HC := hid (show retractC cs s = ((x, y), cs) by rw [retractC_bad hbad, ← HXX.out, ← HYY.out])
  rw [HXX.out] at hbad
  have hxb : (((x : Nat) : Int) != 0) = true := by rw [bne_iff_ne]; omega
  go_enter Tryz.func19, Tryz.ntmps19
  go_wp2_with (go_at_call 40; refine (asked_c _ hE hw base rb cs hI hn hb s hs).mono ?_; rintro e w1 ⟨c5, he, hF, hB1, hm⟩; clear hm; obtain ⟨nm, tq, tl, tcap, pl, bg, ng, rfl⟩ := hF; rw [HXX.out, HYY.out] at he; subst he)
  go_ret2
  exact change_none hV hL HC.out (hB1.alloc hB1.size _)

set_option maxHeartbeats 4000000 in
set_option maxRecDepth 100000 in
theorem rretract_stay (w : World) (hE : EndsIs w) (hw : 0 < w.heap.size) (base rb : Nat) (v : Value) (cs : List RC) (hV : Blk w rb [v] 76) (hL : ClRow w base v cs) (hn : cs.length ≤ 40) (hb : ∀ c ∈ cs, c.body.length ≤ 4) (hcs : ∀ c ∈ cs, c.Small) (s : ByteArray) (hs : s.size ≤ maxLen) (hok : askE cs s = (0, 0)) (a : RA) (hq : questT s = some a) (hst : gvar a.ts ≠ none ∨ factsN cs a.shown = 0) :
    Calls Tryz.prog 19 #[.pointer (some ⟨rb, 0, none⟩), .string s] w fun e w' => RChange w base rb v (retractC cs s) e w' := by
  have hI : RBaseIs w base rb cs := ⟨v, hV, hL⟩
  have hsm := quest_small hq
  have HC0 := hid (retractC_of hok hq)
  have HE := hid hok
  have HQ := hid hq
  obtain ⟨fn, HFN⟩ : ∃ fn, Hid (factsN cs a.shown = fn) := ⟨_, rfl⟩
  rw [HFN.out] at hst HC0
  clear hok hq
  cases hg : gvar a.ts with
  | some p =>
    have HG := hid hg
    have HC := hid (show retractC cs s = ((6, p), cs) by rw [HC0.out, hg])
    clear hg hst HC0
    go_enter Tryz.func19, Tryz.ntmps19
    go_wp2_with (first
      | (go_at_call 40; refine (asked_c _ hE hw base rb cs hI hn hb s hs).mono ?_; rintro e w1 ⟨c5, he, hF, hB1, hm⟩; clear hF; rw [HE.out] at he hm; obtain ⟨a', hq', tv, rfl, hTm⟩ := hm rfl; rw [HQ.out] at hq'; obtain rfl := Option.some.inj hq'; clear hq'; obtain ⟨tq, tcap, rfl⟩ := own_form hTm; subst he; have hBa := below_alloc w1 (.cells #[.string a.w, .slice tq a.ts.length tcap, .int .i64 (a.pl : Nat), .int .i64 (a.bang : Nat), .bool a.neg] 69); have hA1 := Blk.new w1 [.string a.w, .slice tq a.ts.length tcap, .int .i64 (a.pl : Nat), .int .i64 (a.bang : Nat), .bool a.neg] 69; have hT1 := own_below hTm hBa; have hz1 := hB1.size; have hza := hBa.size; have hI1 := (RBaseIs.below hI hB1).below hBa; have hcw1 := hA1.lt)
      | (go_at_call 41; refine (ground_c _ w.heap.size a tq tcap a.neg (by exact hT1) (by have := hsm.few; omega)).mono ?_; rintro e w2 ⟨he, hB2⟩; rw [HG.out] at he; simp only [] at he; subst he; have hA2 := hA1.below hB2; have hT2 := own_below hT1 hB2; have hI2 := hI1.below hB2; have hz2 := hB2.size; obtain ⟨a0, a1, a2, a3, a4⟩ := hA2.c5; have hcw2 := hA2.lt)
      | (go_at_call 43; refine (shownA_c _ w.heap.size a tq tcap (by exact hT2) hsm).mono ?_; rintro e w3 ⟨rfl, hB3⟩; have hI3 := hI2.below hB3; have hA3 := hA2.below hB3; have hT3 := own_below hT2 hB3; have hz3 := hB3.size)
      | (go_at_call 42; refine (facts_c _ base rb cs (by exact hI3) hcs hn a.shown (by have := a.shown_len hsm; omega)).mono ?_; rintro e w4 ⟨he, hB4⟩; rw [HFN.out] at he; subst he; have hI4 := hI3.below hB4; have hA4 := hA3.below hB4; have hT4 := own_below hT3 hB4; have hz4 := hB4.size))
    have hBw : Below w.heap.size w w4 := (((hB1.trans (hBa.mono hz1)).trans (hB2.mono (by omega))).trans (hB3.mono (by omega))).trans (hB4.mono (by omega))
    go_ret2
    exact change_none hV hL HC.out hBw
  | none =>
    have HG := hid hg
    have hf : fn = 0 := by
      rcases hst with h | h
      · exact absurd hg h
      · exact h
    have HC := hid (show retractC cs s = ((8, 0), cs) by rw [HC0.out, hg]; simp only []; rw [if_pos hf])
    subst hf
    clear hg hst HC0
    go_enter Tryz.func19, Tryz.ntmps19
    go_wp2_with (first
      | (go_at_call 40; refine (asked_c _ hE hw base rb cs hI hn hb s hs).mono ?_; rintro e w1 ⟨c5, he, hF, hB1, hm⟩; clear hF; rw [HE.out] at he hm; obtain ⟨a', hq', tv, rfl, hTm⟩ := hm rfl; rw [HQ.out] at hq'; obtain rfl := Option.some.inj hq'; clear hq'; obtain ⟨tq, tcap, rfl⟩ := own_form hTm; subst he; have hBa := below_alloc w1 (.cells #[.string a.w, .slice tq a.ts.length tcap, .int .i64 (a.pl : Nat), .int .i64 (a.bang : Nat), .bool a.neg] 69); have hA1 := Blk.new w1 [.string a.w, .slice tq a.ts.length tcap, .int .i64 (a.pl : Nat), .int .i64 (a.bang : Nat), .bool a.neg] 69; have hT1 := own_below hTm hBa; have hz1 := hB1.size; have hza := hBa.size; have hI1 := (RBaseIs.below hI hB1).below hBa; have hcw1 := hA1.lt)
      | (go_at_call 41; refine (ground_c _ w.heap.size a tq tcap a.neg (by exact hT1) (by have := hsm.few; omega)).mono ?_; rintro e w2 ⟨he, hB2⟩; rw [HG.out] at he; simp only [] at he; subst he; have hA2 := hA1.below hB2; have hT2 := own_below hT1 hB2; have hI2 := hI1.below hB2; have hz2 := hB2.size; obtain ⟨a0, a1, a2, a3, a4⟩ := hA2.c5; have hcw2 := hA2.lt)
      | (go_at_call 43; refine (shownA_c _ w.heap.size a tq tcap (by exact hT2) hsm).mono ?_; rintro e w3 ⟨rfl, hB3⟩; have hI3 := hI2.below hB3; have hA3 := hA2.below hB3; have hT3 := own_below hT2 hB3; have hz3 := hB3.size)
      | (go_at_call 42; refine (facts_c _ base rb cs (by exact hI3) hcs hn a.shown (by have := a.shown_len hsm; omega)).mono ?_; rintro e w4 ⟨he, hB4⟩; rw [HFN.out] at he; subst he; have hI4 := hI3.below hB4; have hA4 := hA3.below hB4; have hT4 := own_below hT3 hB4; have hz4 := hB4.size))
    have hBw : Below w.heap.size w w4 := (((hB1.trans (hBa.mono hz1)).trans (hB2.mono (by omega))).trans (hB3.mono (by omega))).trans (hB4.mono (by omega))
    go_ret2
    exact change_none hV hL HC.out hBw

set_option maxHeartbeats 8000000 in
set_option maxRecDepth 100000 in
theorem rretract_some (w : World) (hE : EndsIs w) (hw : 0 < w.heap.size) (base rb : Nat) (v : Value) (cs : List RC) (hbw : base ≤ w.heap.size) (hV : Blk w rb [v] 76) (hL : ClRow w base v cs) (hn : cs.length ≤ 40) (hb : ∀ c ∈ cs, c.body.length ≤ 4) (hcs : ∀ c ∈ cs, c.Small) (s : ByteArray) (hs : s.size ≤ maxLen) (hok : askE cs s = (0, 0)) (a : RA) (hq : questT s = some a) (hg : gvar a.ts = none) (hf : factsN cs a.shown ≠ 0) :
    Calls Tryz.prog 19 #[.pointer (some ⟨rb, 0, none⟩), .string s] w fun e w' => RChange w base rb v (retractC cs s) e w' := by
  obtain ⟨i1, hi1, hy0, hy1, hy2⟩ := info_parts infoRClause
  obtain ⟨ao, cap, rfl⟩ := hL.form
  have hI : RBaseIs w base rb cs := ⟨_, hV, hL⟩
  have hsm := quest_small hq
  have HC := hid (show retractC cs s = ((0, 0), cs.filter (otherB a.shown)) by rw [retractC_of hok hq, hg]; simp only []; rw [if_neg hf])
  have HE := hid hok
  have HQ := hid hq
  have HG := hid hg
  obtain ⟨fn, HFN⟩ : ∃ fn, Hid (factsN cs a.shown = fn) := ⟨_, rfl⟩
  rw [HFN.out] at hf
  have hfi : ¬ (fn : Int) = 0 := by omega
  have hfb : ((fn : Int) == 0) = false := by simpa using hfi
  have hasl := a.shown_len hsm
  have hxs : ¬ 9223372036854775807 < (bs a.shown).size + 1 := by rw [bs_len]; omega
  have HXD := hid (show bs a.shown ++ ⟨#[46]⟩ = bs (a.shown ++ [46]) from bs_cat a.shown [46])
  clear hok hq hg
  go_enter Tryz.func19, Tryz.ntmps19
  go_wp2_with (first
    | (go_at_call 40; refine (asked_c _ hE hw base rb cs hI hn hb s hs).mono ?_; rintro e w1 ⟨c5, he, hF, hB1, hm⟩; clear hF; rw [HE.out] at he hm; obtain ⟨a', hq', tv, rfl, hTm⟩ := hm rfl; rw [HQ.out] at hq'; obtain rfl := Option.some.inj hq'; clear hq'; obtain ⟨tq, tcap, rfl⟩ := own_form hTm; subst he; have hBa := below_alloc w1 (.cells #[.string a.w, .slice tq a.ts.length tcap, .int .i64 (a.pl : Nat), .int .i64 (a.bang : Nat), .bool a.neg] 69); have hA1 := Blk.new w1 [.string a.w, .slice tq a.ts.length tcap, .int .i64 (a.pl : Nat), .int .i64 (a.bang : Nat), .bool a.neg] 69; have hT1 := own_below hTm hBa; have hz1 := hB1.size; have hza := hBa.size; have hV1 := (hV.below hB1).below hBa; have hL1 := (hL.below hB1).below hBa; have hI1 : RBaseIs _ base rb cs := ⟨_, hV1, hL1⟩; have hcw1 := hA1.lt)
    | (go_at_call 41; refine (ground_c _ w.heap.size a tq tcap a.neg (by exact hT1) (by have := hsm.few; omega)).mono ?_; rintro e w2 ⟨he, hB2⟩; rw [HG.out] at he; simp only [] at he; subst he; have hA2 := hA1.below hB2; have hT2 := own_below hT1 hB2; have hV2 := hV1.below hB2; have hL2 := hL1.below hB2; have hI2 : RBaseIs _ base rb cs := ⟨_, hV2, hL2⟩; have hz2 := hB2.size; obtain ⟨a0, a1, a2, a3, a4⟩ := hA2.c5; have hcw2 := hA2.lt)
    | (go_at_call 43; refine (shownA_c _ w.heap.size a tq tcap (by exact hT2) hsm).mono ?_; rintro e w3 ⟨rfl, hB3⟩; have hV3 := hV2.below hB3; have hL3 := hL2.below hB3; have hI3 : RBaseIs _ base rb cs := ⟨_, hV3, hL3⟩; have hA3 := hA2.below hB3; have hT3 := own_below hT2 hB3; have hz3 := hB3.size)
    | (go_at_call 42; refine (facts_c _ base rb cs (by exact hI3) hcs hn a.shown (by have := a.shown_len hsm; omega)).mono ?_; rintro e w4 ⟨he, hB4⟩; rw [HFN.out] at he; subst he; have hV4 := hV3.below hB4; have hL4 := hL3.below hB4; have v40 := hV4.cell 0; have fV4 := hV4.frozen; have hlv4 := hV4.lt; simp at v40; have hA4 := hA3.below hB4; have hT4 := own_below hT3 hB4; have hz4 := hB4.size; obtain ⟨a0, a1, a2, a3, a4⟩ := hA4.c5; have hcw4 := hA4.lt))
  have hBw : Below w.heap.size w w4 := (((hB1.trans (hBa.mono hz1)).trans (hB2.mono (by omega))).trans (hB3.mono (by omega))).trans (hB4.mono (by omega))
  have hzz := hBw.size
  clear hA1 hA2 hA3 hT1 hT2 hT3 hV1 hV2 hV3 hL1 hL2 hL3 hI1 hI2 hI3 hB1 hBa hB2 hB3 hB4 hTm a0 a1 a2 a3 a4 v40 fV4
  go_loopw [12, 13] (fun lv kv wr => ∃ (k : Nat) (rows : List (List Value)) (m : Nat), k ≤ cs.length ∧ kv = .int .i64 k ∧ wr.ownsRow w4.heap.size 71 6 lv m rows.flatten ∧ rows.length = m ∧ Hid (m = ((cs.take k).filter (otherB a.shown)).length) ∧ (∀ (i : Nat) (c : RC) (cs' : List Value), ((cs.take k).filter (otherB a.shown))[i]? = some c → rows[i]? = some cs' → ClauseCs wr base c cs') ∧ Below w4.heap.size w4 wr) (fun _ kv _ => cs.length - (intOf kv).toNat)
  case atStart => exact ⟨0, [], 0, by omega, rfl, World.ownsRow_nil _ _ _ _, rfl, hid (by simp), by simp, Below.refl _ _⟩
  case round =>
    obtain ⟨k, rows, m, hk, rfl, hol, hrm, HXm, hrl, hB⟩ := hrel
    obtain ⟨lo, lcap, rfl⟩ := own_form hol
    have hsz := hB.size
    have hVr := hV4.below hB
    have v0 : wr.cell? ⟨rb, 0, none⟩ = some (.slice ao cs.length cap) := hVr.cell 0
    have hvl := hVr.lt
    have fVr := hVr.frozen
    by_cases hlt : k < cs.length
    · obtain ⟨g, tv, bo, bcap, rfl, hg, b0, b1, b2, b3, b4, b5, hTc, hRc⟩ := rclause_at (hL4.below hB) rfl k hlt
      have hsc := hcs cs[k] (List.getElem_mem hlt)
      have HST := hid (filter_step cs (otherB a.shown) k hlt)
      have hmk : m ≤ 40 := by
        rw [HXm.out]
        have h1 := List.length_filter_le (otherB a.shown) (cs.take k)
        have h2 : (cs.take k).length ≤ k := by simp; omega
        omega
      generalize cs[k] = c at *
      obtain ⟨cq, ccap, rfl⟩ := own_form hTc
      obtain ⟨X, HXX⟩ : ∃ X, Hid (X = (cs.take k).filter (otherB a.shown)) := ⟨_, rfl⟩
      have HXM : Hid (m = X.length) := by rw [HXX.out]; exact HXm.out
      rw [← HXX.out] at HST
      clear HXm
      by_cases hbz : c.body.length = 0
      · have hbe : c.body.isEmpty = true := by cases hc : c.body with
          | nil => rfl
          | cons x y => rw [hc] at hbz; simp at hbz
        have hbi : ¬ (0 : Int) < (c.body.length : Int) := by omega
        have hbn : ¬ 0 < c.body.length := by omega
        have hq := str_beq c.shown (a.shown ++ [46])
        cases hd : decide (c.shown = a.shown ++ [46])
        · rw [hd] at hq
          have HN := hid (show (cs.take (k + 1)).filter (otherB a.shown) = X ++ [c] by rw [HST.out, otherB, hbe, hd]; rfl)
          have hqe : ((bs c.shown).toList == (bs a.shown ++ ⟨#[46]⟩).toList) = false := by rw [HXD.out]; exact hq
          clear HST hbz hbe hd hq
          go_wp2_with (first
            | (go_at_call 36; refine (shownC_c _ base c cq ccap bo bcap (by exact hTc) (by exact hRc) hsc).mono ?_; rintro e w5 ⟨rfl, hB5⟩; have hz5 := hB5.size; have v05 : w5.cell? ⟨rb, 0, none⟩ = some (.slice (some ⟨g, 0, none⟩) cs.length cap) := ((hV4.below hB).below hB5).cell 0; have q0 := (hB5.cell (p := ⟨g, k * 6, none⟩) hg).trans b0; have q1 := (hB5.cell (p := ⟨g, k * 6 + 1, none⟩) hg).trans b1; have q2 := (hB5.cell (p := ⟨g, k * 6 + 2, none⟩) hg).trans b2; have q3 := (hB5.cell (p := ⟨g, k * 6 + 3, none⟩) hg).trans b3; have q4 := (hB5.cell (p := ⟨g, k * 6 + 4, none⟩) hg).trans b4; have q5 := (hB5.cell (p := ⟨g, k * 6 + 5, none⟩) hg).trans b5; obtain ⟨a0, a1, a2, a3, a4⟩ := ((hA4.below hB).below hB5).c5; have hT5 := own_below (own_below hT4 hB) hB5; have hg5 : g < w5.heap.size := Nat.lt_of_lt_of_le hg hz5)
            | (go_at_call 43; refine (shownA_c _ w.heap.size a tq tcap (by exact hT5) hsm).mono ?_; rintro e w6 ⟨rfl, hB6⟩; have hz6 := hB6.size; have v06 : w6.cell? ⟨rb, 0, none⟩ = some (.slice (some ⟨g, 0, none⟩) cs.length cap) := (((hV4.below hB).below hB5).below hB6).cell 0; have q0 := (hB6.cell (p := ⟨g, k * 6, none⟩) hg5).trans q0; have q1 := (hB6.cell (p := ⟨g, k * 6 + 1, none⟩) hg5).trans q1; have q2 := (hB6.cell (p := ⟨g, k * 6 + 2, none⟩) hg5).trans q2; have q3 := (hB6.cell (p := ⟨g, k * 6 + 3, none⟩) hg5).trans q3; have q4 := (hB6.cell (p := ⟨g, k * 6 + 4, none⟩) hg5).trans q4; have q5 := (hB6.cell (p := ⟨g, k * 6 + 5, none⟩) hg5).trans q5)
            | (at_builtin; refine wpList_append_ownS _ rfl _ _ 60 rfl w4.heap.size 71 i1 _ 6 88 Tryz.underlying60 hi1 hy0 hy1 hy2 rfl (by decide) _ m rows.flatten rfl ((own_below hol (hB5.trans (hB6.mono hz5))).alloc _) ⟨w6.heap.size, 0, none⟩ 1 [.string c.head.w, .slice cq c.head.ts.length ccap, .int .i64 (c.head.pl : Nat), .int .i64 (c.head.bang : Nat), .bool c.head.neg, .slice bo c.body.length bcap] rfl rfl (new_cells _ _ _) (by intro u hu; simp at hu; rcases hu with rfl | rfl | rfl | rfl | rfl | rfl <;> rfl) (by unfold maxLen; omega) (by omega) (by simp; omega) ?_; intro g7 cap7 w7 ho7 hg7))
          have hBn := hB5.trans (hB6.mono hz5)
          have h2 : Below w6.heap.size w6 (w6.alloc (.cells #[.string c.head.w, .slice cq c.head.ts.length ccap, .int .i64 (c.head.pl : Nat), .int .i64 (c.head.bang : Nat), .bool c.head.neg, .slice bo c.body.length bcap] 71)) := below_alloc w6 _
          have hmore := cl_more (w := w6.alloc (.cells #[.string c.head.w, .slice cq c.head.ts.length ccap, .int .i64 (c.head.pl : Nat), .int .i64 (c.head.bang : Nat), .bool c.head.neg, .slice bo c.body.length bcap] 71)) (w' := w7) (own := w4.heap.size) (base := base) (l := X) (c := c) (fun i c cs h1 h3 => ((hrl i c cs (by rw [← HXX.out]; exact h1) h3).below hBn).below h2) (by rw [hrm, HXM.out]) (by rw [← HXM.out]; exact (own_below hol hBn).alloc _) ((ClauseCs.below (ClauseCs.below (w := wr) ⟨[.string c.head.w, .slice cq c.head.ts.length ccap, .int .i64 (c.head.pl : Nat), .int .i64 (c.head.bang : Nat), .bool c.head.neg], _, rfl, ⟨_, rfl, hTc⟩, hRc⟩ hBn)) h2) (by rw [← HXM.out]; exact ho7) hg7
          obtain ⟨rows7, hr1, hr2, hr3⟩ := hmore
          have hB7 : Below w4.heap.size w4 w7 := ((hB.trans (hBn.mono hsz)).trans (h2.mono (by omega))).grown hg7 (by simp; omega) (own_base hol)
          refine ⟨⟨k + 1, rows7, m + 1, by omega, by go_num, ?_, ?_, ?_, ?_, hB7⟩, by simp [intOf]; omega⟩
          · rw [show (X ++ [c]).length = m + 1 by simp [HXM.out]] at hr1; exact hr1
          · rw [hr2]; simp [HXM.out]
          · exact hid (by rw [HN.out]; simp [HXM.out])
          · intro i c' cs' h1 h3; exact hr3 i c' cs' (by rw [HN.out] at h1; exact h1) h3
        · rw [hd] at hq
          have HN := hid (show (cs.take (k + 1)).filter (otherB a.shown) = X by rw [HST.out, otherB, hbe, hd]; simp)
          have hqe : ((bs c.shown).toList == (bs a.shown ++ ⟨#[46]⟩).toList) = true := by rw [HXD.out]; exact hq
          clear HST hbz hbe hd hq
          go_wp2_with (first
            | (go_at_call 36; refine (shownC_c _ base c cq ccap bo bcap (by exact hTc) (by exact hRc) hsc).mono ?_; rintro e w5 ⟨rfl, hB5⟩; have hz5 := hB5.size; have v05 : w5.cell? ⟨rb, 0, none⟩ = some (.slice (some ⟨g, 0, none⟩) cs.length cap) := ((hV4.below hB).below hB5).cell 0; have q0 := (hB5.cell (p := ⟨g, k * 6, none⟩) hg).trans b0; have q1 := (hB5.cell (p := ⟨g, k * 6 + 1, none⟩) hg).trans b1; have q2 := (hB5.cell (p := ⟨g, k * 6 + 2, none⟩) hg).trans b2; have q3 := (hB5.cell (p := ⟨g, k * 6 + 3, none⟩) hg).trans b3; have q4 := (hB5.cell (p := ⟨g, k * 6 + 4, none⟩) hg).trans b4; have q5 := (hB5.cell (p := ⟨g, k * 6 + 5, none⟩) hg).trans b5; obtain ⟨a0, a1, a2, a3, a4⟩ := ((hA4.below hB).below hB5).c5; have hT5 := own_below (own_below hT4 hB) hB5; have hg5 : g < w5.heap.size := Nat.lt_of_lt_of_le hg hz5)
            | (go_at_call 43; refine (shownA_c _ w.heap.size a tq tcap (by exact hT5) hsm).mono ?_; rintro e w6 ⟨rfl, hB6⟩; have hz6 := hB6.size; have v06 : w6.cell? ⟨rb, 0, none⟩ = some (.slice (some ⟨g, 0, none⟩) cs.length cap) := (((hV4.below hB).below hB5).below hB6).cell 0; have q0 := (hB6.cell (p := ⟨g, k * 6, none⟩) hg5).trans q0; have q1 := (hB6.cell (p := ⟨g, k * 6 + 1, none⟩) hg5).trans q1; have q2 := (hB6.cell (p := ⟨g, k * 6 + 2, none⟩) hg5).trans q2; have q3 := (hB6.cell (p := ⟨g, k * 6 + 3, none⟩) hg5).trans q3; have q4 := (hB6.cell (p := ⟨g, k * 6 + 4, none⟩) hg5).trans q4; have q5 := (hB6.cell (p := ⟨g, k * 6 + 5, none⟩) hg5).trans q5))
          have hBn := hB5.trans (hB6.mono hz5)
          refine ⟨⟨k + 1, rows, m, by omega, by go_num, own_below hol hBn, hrm, ?_, ?_, hB.trans (hBn.mono hsz)⟩, by simp [intOf]; omega⟩
          · exact hid (by rw [HN.out]; exact HXM.out)
          · intro i c' cs' h1 h3; exact (hrl i c' cs' (by rw [HN.out] at h1; rw [← HXX.out]; exact h1) h3).below hBn
      · have hbe : c.body.isEmpty = false := by cases hc : c.body with
          | nil => rw [hc] at hbz; simp at hbz
          | cons x y => rfl
        have hbi : (0 : Int) < (c.body.length : Int) := by omega
        have hbn : 0 < c.body.length := by omega
        have HN := hid (show (cs.take (k + 1)).filter (otherB a.shown) = X ++ [c] by rw [HST.out, otherB, hbe]; rfl)
        clear HST hbz hbe
        go_wp2_with (first
          | (go_at_call 36; refine (shownC_c _ base c cq ccap bo bcap (by exact hTc) (by exact hRc) hsc).mono ?_; rintro e w5 ⟨rfl, hB5⟩; have hz5 := hB5.size; have v05 : w5.cell? ⟨rb, 0, none⟩ = some (.slice (some ⟨g, 0, none⟩) cs.length cap) := ((hV4.below hB).below hB5).cell 0; have q0 := (hB5.cell (p := ⟨g, k * 6, none⟩) hg).trans b0; have q1 := (hB5.cell (p := ⟨g, k * 6 + 1, none⟩) hg).trans b1; have q2 := (hB5.cell (p := ⟨g, k * 6 + 2, none⟩) hg).trans b2; have q3 := (hB5.cell (p := ⟨g, k * 6 + 3, none⟩) hg).trans b3; have q4 := (hB5.cell (p := ⟨g, k * 6 + 4, none⟩) hg).trans b4; have q5 := (hB5.cell (p := ⟨g, k * 6 + 5, none⟩) hg).trans b5; obtain ⟨a0, a1, a2, a3, a4⟩ := ((hA4.below hB).below hB5).c5; have hT5 := own_below (own_below hT4 hB) hB5; have hg5 : g < w5.heap.size := Nat.lt_of_lt_of_le hg hz5)
          | (at_builtin; refine wpList_append_ownS _ rfl _ _ 60 rfl w4.heap.size 71 i1 _ 6 88 Tryz.underlying60 hi1 hy0 hy1 hy2 rfl (by decide) _ m rows.flatten rfl ((own_below hol hB5).alloc _) ⟨w5.heap.size, 0, none⟩ 1 [.string c.head.w, .slice cq c.head.ts.length ccap, .int .i64 (c.head.pl : Nat), .int .i64 (c.head.bang : Nat), .bool c.head.neg, .slice bo c.body.length bcap] rfl rfl (new_cells _ _ _) (by intro u hu; simp at hu; rcases hu with rfl | rfl | rfl | rfl | rfl | rfl <;> rfl) (by unfold maxLen; omega) (by omega) (by simp; omega) ?_; intro g7 cap7 w7 ho7 hg7))
        have hBn := hB5
        have h2 : Below w5.heap.size w5 (w5.alloc (.cells #[.string c.head.w, .slice cq c.head.ts.length ccap, .int .i64 (c.head.pl : Nat), .int .i64 (c.head.bang : Nat), .bool c.head.neg, .slice bo c.body.length bcap] 71)) := below_alloc w5 _
        have hmore := cl_more (w := w5.alloc (.cells #[.string c.head.w, .slice cq c.head.ts.length ccap, .int .i64 (c.head.pl : Nat), .int .i64 (c.head.bang : Nat), .bool c.head.neg, .slice bo c.body.length bcap] 71)) (w' := w7) (own := w4.heap.size) (base := base) (l := X) (c := c) (fun i c cs h1 h3 => ((hrl i c cs (by rw [← HXX.out]; exact h1) h3).below hBn).below h2) (by rw [hrm, HXM.out]) (by rw [← HXM.out]; exact (own_below hol hBn).alloc _) ((ClauseCs.below (ClauseCs.below (w := wr) ⟨[.string c.head.w, .slice cq c.head.ts.length ccap, .int .i64 (c.head.pl : Nat), .int .i64 (c.head.bang : Nat), .bool c.head.neg], _, rfl, ⟨_, rfl, hTc⟩, hRc⟩ hBn)) h2) (by rw [← HXM.out]; exact ho7) hg7
        obtain ⟨rows7, hr1, hr2, hr3⟩ := hmore
        have hB7 : Below w4.heap.size w4 w7 := ((hB.trans (hBn.mono hsz)).trans (h2.mono (by omega))).grown hg7 (by simp; omega) (own_base hol)
        refine ⟨⟨k + 1, rows7, m + 1, by omega, by go_num, ?_, ?_, ?_, ?_, hB7⟩, by simp [intOf]; omega⟩
        · rw [show (X ++ [c]).length = m + 1 by simp [HXM.out]] at hr1; exact hr1
        · rw [hr2]; simp [HXM.out]
        · exact hid (by rw [HN.out]; simp [HXM.out])
        · intro i c' cs' h1 h3; exact hr3 i c' cs' (by rw [HN.out] at h1; exact h1) h3
    · have hke : k = cs.length := by omega
      rw [hke, List.take_length] at HXm hrl
      clear hke
      go_wp2_with fail
      go_ret2
      rw [HC.out]
      have hrow : ClRow wr base (.slice lo m lcap) (cs.filter (otherB a.shown)) := ⟨rows, by rw [← HXm.out]; exact own_mono hol (by omega), by rw [hrm, HXm.out], hrl⟩
      refine ⟨rfl, ⟨_, hVr.setCell 0 _, hrow.set hVr (by decide) (by decide) (by decide) 0 _, .inr (fun k hk => ?_)⟩, ?_⟩
      · have := (hol.lt k hk).1
        omega
      · exact Only.setCell (Only.of_below (hBw.trans (hB.mono hzz))) (.inl (.inl rfl)) _

theorem rretract_c (w : World) (hE : EndsIs w) (hw : 0 < w.heap.size) (base rb : Nat) (v : Value) (cs : List RC) (hbw : base ≤ w.heap.size) (hV : Blk w rb [v] 76) (hL : ClRow w base v cs) (hn : cs.length ≤ 40) (hb : ∀ c ∈ cs, c.body.length ≤ 4) (hcs : ∀ c ∈ cs, c.Small) (s : ByteArray) (hs : s.size ≤ maxLen) :
    Calls Tryz.prog 19 #[.pointer (some ⟨rb, 0, none⟩), .string s] w fun e w' => RChange w base rb v (retractC cs s) e w' := by
  by_cases hbad : (askE cs s).1 ≠ 0
  · exact rretract_bad w hE hw base rb v cs hV hL hn hb s hs hbad
  · obtain ⟨a, hq, hok⟩ := ask_ok (by simpa using hbad)
    by_cases hst : gvar a.ts ≠ none ∨ factsN cs a.shown = 0
    · exact rretract_stay w hE hw base rb v cs hV hL hn hb hcs s hs hok a hq hst
    · simp only [not_or, Decidable.not_not] at hst
      exact rretract_some w hE hw base rb v cs hbw hV hL hn hb hcs s hs hok a hq hst.1 hst.2

end Go.Proofs.YtpbfiffgcgnidaaGreatDoor

namespace Go.Proofs.YtpbfiffgcgnidaaGreatDoor

theorem seen_step (xs : List (List UInt8)) (ns : List Nat) (done : List RA) (a : RA) (hS : Seen xs ns done) : Seen (cntStep (xs, ns) (a.name, a.ts.length)).1 (cntStep (xs, ns) (a.name, a.ts.length)).2 (done ++ [a]) := by
  obtain ⟨hl, hS⟩ := hS
  have hk := hS a.name
  unfold cntStep
  cases hh : hasW xs a.name
  · simp only [Bool.false_eq_true, if_false]
    have hn := hk.2 hh
    have hx : a.name ∉ xs := by simpa [hasW] using hh
    refine ⟨by simp [hl], ?_⟩
    intro k
    by_cases hka : k = a.name
    · subst hka
      constructor
      · intro _
        rw [posIn_new xs _ hx, hl, arityC_new done [] a hn]
        simp
      · intro h; simp [hasW] at h
    · have hkk := hS k
      constructor
      · intro h
        have hkx : k ∈ xs := by
          have : k ∈ xs ++ [a.name] := by simpa [hasW] using h
          simpa [hka] using this
        rw [posIn_app xs _ _ hkx]
        have hlt : posIn xs k < ns.length := by
          rw [posIn, if_pos hkx, ← hl]
          exact List.idxOf_lt_length_iff.2 hkx
        have h1 := hkk.1 (by simpa [hasW] using hkx)
        have e : (ns ++ [a.ts.length]).getD (posIn xs k) 0 = ns.getD (posIn xs k) 0 := by
          simp [List.getD_eq_getElem?_getD, List.getElem?_append_left hlt]
        rw [e]
        exact arityC_old _ _ _ _ h1
      · intro h x hx'
        rw [List.mem_append, List.mem_singleton] at hx'
        rcases hx' with h' | rfl
        · refine hkk.2 ?_ x h'
          have : k ∉ xs ++ [a.name] := by simpa [hasW] using h
          have hkx : k ∉ xs := fun e => this (by simp [e])
          simpa [hasW] using hkx
        · exact fun e => hka e.symm
  · simp only [if_true]
    refine ⟨hl, ?_⟩
    intro k
    have hkk := hS k
    constructor
    · intro h; exact arityC_old _ _ _ _ (hkk.1 h)
    · intro h x hx'
      rw [List.mem_append, List.mem_singleton] at hx'
      rcases hx' with h' | rfl
      · exact hkk.2 h x h'
      · intro e; rw [e] at hh; rw [hh] at h; simp at h
theorem seen_go (l done : List RA) (c : List (List UInt8) × List Nat) (hS : Seen c.1 c.2 done) : Seen (cntGo c (l.map fun a => (a.name, a.ts.length))).1 (cntGo c (l.map fun a => (a.name, a.ts.length))).2 (done ++ l) := by
  induction l generalizing done c with
  | nil => simpa [cntGo] using hS
  | cons a l ih =>
    have h1 := seen_step c.1 c.2 done a hS
    have h2 := ih (done ++ [a]) (cntStep c (a.name, a.ts.length)) h1
    rw [List.append_assoc] at h2
    exact h2
theorem pairs_d (c : RC) : c.d.pairs = (c.head :: c.body).map fun a => (a.name, a.ts.length) := by
  unfold ClD.pairs ClD.atoms RC.d
  simp [List.map_map, RA.lit, Function.comp_def]
theorem pairs_all (cs : List RC) : (cs.map RC.d).flatMap ClD.pairs = (atomsC cs).map fun a => (a.name, a.ts.length) := by
  unfold atomsC
  rw [List.flatMap_map, List.map_flatMap]
  congr 1
  funext c
  exact pairs_d c
/-- The base's counts are those of the document's atoms. -/
theorem seen_base (cs : List RC) : Seen (countsR (cs.map RC.d)).1 (countsR (cs.map RC.d)).2 (atomsC cs) := by
  have h := seen_go (atomsC cs) [] ([], []) ⟨rfl, fun k => ⟨fun h => by simp [hasW] at h, fun _ a ha => by simp at ha⟩⟩
  rw [List.nil_append, ← pairs_all] at h
  exact h
/-- Does a question fit the base? -/
def fitsB (cs : List RC) (nm : List UInt8) (n : Nat) : Bool := !hasW (countsR (cs.map RC.d)).1 nm || nAt (countsR (cs.map RC.d)).2 (posIn (countsR (cs.map RC.d)).1 nm) == (n : Int)
theorem fits_ref (cs : List RC) (nm : List UInt8) (n : Nat) : fitsB cs nm n = false ↔ (0 ≤ arityC (atomsC cs) nm ∧ arityC (atomsC cs) nm ≠ (n : Int)) := by
  have hS := (seen_base cs).2 nm
  unfold fitsB
  cases hh : hasW (countsR (cs.map RC.d)).1 nm
  · have hn := hS.2 hh
    have : arityC (atomsC cs) nm = -1 := by
      unfold arityC
      have : (atomsC cs).find? (fun a => decide (a.name = nm)) = none := by
        rw [List.find?_eq_none]
        intro x hx
        simpa using hn x hx
      rw [this]
    rw [this]
    simp
  · have h1 := hS.1 hh
    rw [h1]
    show (false || _) = false ↔ _
    rw [Bool.false_or, beq_eq_false_iff_ne]
    constructor
    · intro h; exact ⟨by omega, h⟩
    · intro h; exact h.2

/-- The printed forms are one. -/
theorem tsGo_join (ts : List RT) (i : Nat) (h : i ≠ 0) : tsGo i ts = Lib.joinTail [44] (ts.map RT.s) := by
  induction ts generalizing i with
  | nil => rfl
  | cons t r ih => rw [tsGo, tApp, if_neg h, ih (i + 1) (by omega)]; rfl
theorem shown_showA (a : RA) (hn : a.neg = false) : a.shown = showA a.name (a.ts.map RT.s) := by
  unfold RA.shown RA.front showA
  rw [hn]
  simp only [Bool.false_eq_true, if_false, List.length_map]
  cases hts : a.ts with
  | nil => simp [tsGo]
  | cons t r =>
    simp only [List.length_cons, Nat.succ_ne_zero, if_false, tsGo, tApp, if_true, List.map_cons]
    rw [tsGo_join r 1 (by omega), Lib.join_cons]
    simp
theorem shown_lit (i : Nat) (a : RA) : bApp i a = showL i a.lit := by
  unfold bApp showL RA.lit
  cases hn : a.neg
  · rw [shown_showA a hn]
    by_cases hi : i = 0 <;> simp [hi]
  · have e : a.shown = 33 :: showA a.name (a.ts.map RT.s) := by
      have h2 := shown_showA { a with neg := false } rfl
      unfold RA.shown RA.front at h2 ⊢
      rw [hn]
      simp only [if_true, Bool.false_eq_true, if_false] at h2 ⊢
      rw [← h2]
      simp
    rw [e]
    by_cases hi : i = 0 <;> simp [hi]
theorem shown_body (i : Nat) (b : List RA) : bsGo i b = showB i (b.map RA.lit) := by
  induction b generalizing i with
  | nil => rfl
  | cons a b ih => rw [bsGo, shown_lit, ih]; rfl
theorem shown_clause (c : RC) (hn : c.head.neg = false) : c.shown = c.d.shown := by
  unfold RC.shown ClD.shown
  rw [shown_showA _ hn, shown_body]
  rfl
theorem shown_all (cs : List RC) (hn : ∀ c ∈ cs, c.head.neg = false) : rshown cs = shownAll (cs.map RC.d) := by
  unfold rshown shownAll
  induction cs with
  | nil => rfl
  | cons c cs ih =>
    rw [List.flatMap_cons, List.map_cons, List.flatMap_cons, ih (fun d hd => hn d (by simp [hd])), shown_clause c (hn c (by simp))]

end Go.Proofs.YtpbfiffgcgnidaaGreatDoor
