/-
  OUR OWN. Retract, whatever the text.
-/
import Derived.Test.YtpbfiffgcgnidaaGreatDoorXPf6
namespace Go.Proofs.YtpbfiffgcgnidaaGreatDoor
open Go.RowKit Go.WideMaps Go.Maps
attribute [local go_sem] drewN_alloc drewN_setCell

set_option maxHeartbeats 1000000 in
set_option maxRecDepth 100000 in
theorem retract_some2 (w : World) (base bb : Nat) (v : Value) (D ds : List ClD) (hV : Blk w bb [v] 59) (hL : ClausesIs w base v D) (_ : base ≤ w.heap.size) (s : ByteArray) (x y0 y1 y2 : ByteArray) (n : Int) (hA : Asked base bb D s true x y0 y1 y2 n)
    (hD : ∀ (W : World) (ao : Option Addr) (cap B : Nat), ClausesIs W base (.slice ao D.length cap) D → Blk W B [.string x, .int .i64 n, .string y0, .string y1, .string y2] 80 → Calls Tryz.prog 44 #[.slice ao D.length cap, .func (.func 71) #[] #[.pointer (some ⟨B, 0, none⟩)]] W fun e w' => ∃ m : Nat, e = .returned (.slice ao m cap) ∧ ClausesIs w' base (.slice ao m cap) ds ∧ Only (fun k => (Value.slice ao D.length cap).ownBlock = some k) W w') :
    Calls Tryz.prog 18 #[.pointer (some ⟨bb, 0, none⟩), .string s] w fun e w' => e = .returned (.tuple #[.int .i64 0, .int .i64 0]) ∧ (∃ v', Blk w' bb [v'] 59 ∧ ClausesIs w' base v' ds ∧ (v'.ownBlock = v.ownBlock ∨ ∀ k, v'.ownBlock = some k → w.heap.size ≤ k)) ∧ Only (fun k => k = bb ∨ v.ownBlock = some k) w w' := by
  have hw0 : bb < w.heap.size := hV.lt
  obtain ⟨ao, cap, rfl⟩ := hL.form
  have hI : BaseIs w base bb D := ⟨_, hV, hL⟩
  have HR := hid (hA.reads w hI)
  have HF := hid hA.factOf
  have HD := hid hD
  clear hD
  have HH := hid hA.has
  have HI := hid hI
  clear hA hI
  go_enter Tryz.func18, Tryz.ntmps18
  go_wp2_with fail
  refine (HR.out).mono ?_
  rintro e w1 ⟨rfl, hB1⟩
  have HIx := hid ((HI.out.below hB1).below (below_alloc w1 (.cells #[.string x, .int .i64 n, .string y0, .string y1, .string y2] 80)))
  have HBx := hid (hB1.trans ((below_alloc w1 (.cells #[.string x, .int .i64 n, .string y0, .string y1, .string y2] 80)).mono hB1.size))
  have hzz := HBx.out.size
  have h1 := (hV.below hB1).below (below_alloc w1 (.cells #[.string x, .int .i64 n, .string y0, .string y1, .string y2] 80))
  have h2 := (hL.below hB1).below (below_alloc w1 (.cells #[.string x, .int .i64 n, .string y0, .string y1, .string y2] 80))
  have hlt := (HI.out.below hB1)
  obtain ⟨v', k1, k2⟩ := hlt
  have hlt := k1.lt
  have hne : bb ≠ w1.heap.size := by omega
  have c0 := h1.cell 0
  have H1 := hid h1
  have H2 := hid (h2.below (Below.refl _ _).drew)
  clear h1 h2 HI HR HIx k1 k2
  have hsize : (w1.alloc (.cells #[.string x, .int .i64 n, .string y0, .string y1, .string y2] 80)).heap.size = w1.heap.size + 1 := by simp
  obtain ⟨q0, q1, q2, q3, q4⟩ := (Blk.new w1 [.string x, .int .i64 n, .string y0, .string y1, .string y2] 80).c5
  have HQ := hid (Blk.new w1 [.string x, .int .i64 n, .string y0, .string y1, .string y2] 80)
  go_wp2_with fail
  generalize hw : (w1.alloc (.cells #[.string x, .int .i64 n, .string y0, .string y1, .string y2] 80)) = u at *
  generalize w1.heap.size = B1 at *
  clear hw hB1
  go_region_with (first
    | (go_at_call 39; refine (HF.out _).mono ?_; rintro e w2 ⟨rfl, hA2, hB2⟩; have c02 := (H1.out.drew.below hB2).cell 0)
    | (go_at_call 38; refine (HH.out w2 ao cap (B1 + 1) (H2.out.below hB2) (by rw [← hsize]; exact hA2)).mono ?_; rintro e w3 ⟨rfl, hB3⟩))
  all_goals
    have hB23 := hB2.trans (hB3.mono hB2.size)
    have hB := HBx.out.drew.trans (hB23.mono (by simp; omega))
    have hC := H1.out.drew.below hB23
    have c03 := hC.cell 0
    have fC := hC.frozen
    have HP := hid ((H2.out.below hB23).below (Below.refl _ _).drew)
    have hnb : (Value.slice ao D.length cap).ownBlock ≠ some bb ∧ ∀ k, (Value.slice ao D.length cap).ownBlock = some k → base ≤ k := by
      obtain ⟨rows, ho, _, _⟩ := H2.out.below hB23
      exact ⟨own_ne ho hC (by decide), own_base ho⟩
    have HN := hid hnb
    have hq := (HQ.out.drew.below hB23)
    obtain ⟨p0, p1, p2, p3, p4⟩ := hq.c5
    have hbw : bb < w3.heap.size := hC.lt
    have hbq : B1 < w3.heap.size := hq.lt
    have HC := hid hC
    clear H1 H2 HQ HH HBx q0 q1 q2 q3 q4 c0 c02 hA2 hB2 hB3 hB23 hq hC hnb
    go_wp2_with fail
    go_region_with (first
      | (go_at_call 39; refine (HF.out _).mono ?_; rintro e w4 ⟨rfl, hA4, hB4⟩; have c04 := (HC.out.drew.below hB4).cell 0)
      | (go_at_call 44; refine (HD.out w4 ao cap w3.heap.size (HP.out.below hB4) (by exact hA4)).mono ?_; rintro e w5 ⟨m5, rfl, hP5, hO5⟩; have hC5 := (HC.out.drew.below hB4).only hO5 HN.out.1; have c05 := hC5.cell 0; have fC5 := hC5.frozen))
    all_goals
      have hB4b : Below w.heap.size w w4 := hB.drew.trans (hB4.mono (by have := hB.size; simpa using this))
      go_wp2_with fail
      go_ret2
      refine ⟨rfl, ⟨_, hC5.setCell 0 _, hP5.set hC5 (by decide) (by decide) 0 _, .inl (by cases ao <;> rfl)⟩, ?_⟩
      refine Only.setCell ?_ (.inl (.inl rfl)) _
      exact (Only.of_below (S := fun k => k = bb ∨ (Value.slice ao D.length cap).ownBlock = some k) hB4b).trans hO5 (fun k _ h => .inr h)

set_option maxHeartbeats 1000000 in
set_option maxRecDepth 100000 in
theorem retract_bad (w : World) (base bb : Nat) (cs : List RC) (hI : BaseIs w base bb (cs.map RC.d)) (hW : ∀ d ∈ cs.map RC.d, d.WF) (hn : cs.length ≤ 40) (s : ByteArray) (hs : s.size ≤ maxLen) (x y : Nat) (hE : factE cs s = (x, y)) (hx : x ≠ 0) :
    Calls Tryz.prog 18 #[.pointer (some ⟨bb, 0, none⟩), .string s] w fun e w' => e = .returned (.tuple #[.int .i64 (x : Nat), .int .i64 (y : Nat)]) ∧ Below w.heap.size w w' := by
  have HR := hid (readF_c w base bb cs hI hW hn s hs)
  have HE := hid hE
  have hxb : (((x : Nat) : Int) != 0) = true := by rw [bne_iff_ne]; omega
  clear hE
  go_enter Tryz.func18, Tryz.ntmps18
  go_wp2_with fail
  refine (HR.out).mono ?_
  rintro e w1 ⟨he, hB1⟩
  rw [HE.out, if_neg hx] at he
  subst he
  unfold zA
  go_wp2_with fail
  go_ret2
  exact ⟨rfl, hB1.alloc hB1.size _⟩

theorem filter_d (cs : List RC) (hG : ∀ c ∈ cs, c.Good) (a : RA) (ha : a.neg = false) (hw : okW a.name ∧ ∀ t ∈ a.ts, okW t.s) (hf : ∀ t ∈ a.ts, t.var = isVar t.s) (hg : gvar a.ts = none) : ((cs.map RC.d).filter fun d => !matchB a.name (a.ts.map RT.s) d) = (cs.filter (otherB a.shown)).map RC.d := by
  induction cs with
  | nil => rfl
  | cons c cs ih =>
    have h1 := fact_same c (hG c (by simp)) a ha hw hf hg
    have h2 := ih (fun c hc => hG c (by simp [hc]))
    rw [List.map_cons, List.filter_cons, List.filter_cons, ← h1, h2]
    show _ = List.map RC.d (if (!(c.body.isEmpty && decide (c.shown = a.shown ++ [46]))) = true then _ else _)
    cases (c.body.isEmpty && decide (c.shown = a.shown ++ [46])) <;> simp

/-- Retract is the document's. -/
theorem pretract_c (w : World) (base bb : Nat) (v : Value) (cs : List RC) (hbase : base ≤ w.heap.size) (hV : Blk w bb [v] 59) (hL : ClausesIs w base v (cs.map RC.d)) (hG : ∀ c ∈ cs, c.Good) (hW : ∀ d ∈ cs.map RC.d, d.WF) (hn : cs.length ≤ 40) (s : ByteArray) (hs : s.size ≤ maxLen) :
    Calls Tryz.prog 18 #[.pointer (some ⟨bb, 0, none⟩), .string s] w fun e w' => PChange w base bb v (retractC cs s) e w' := by
  have hI : BaseIs w base bb (cs.map RC.d) := ⟨v, hV, hL⟩
  have hn' : (cs.map RC.d).length ≤ 40 := by simpa using hn
  by_cases hbad : (askE cs s).1 ≠ 0
  · have hE : factE cs s = ((askE cs s).1, (askE cs s).2) := by unfold factE; rw [if_pos hbad]
    refine (retract_bad w base bb cs hI hW hn s hs _ _ hE hbad).mono ?_
    rintro e w' ⟨rfl, hB⟩
    exact pchange_none hV hL (retractC_bad hbad) hB
  · obtain ⟨a, hq, hok⟩ := ask_ok (by simpa using hbad)
    have hA0 := retractC_of hok hq
    obtain ⟨hneg, hwd, hfit⟩ := quest_words hq
    cases hg : gvar a.ts with
    | some p =>
      have hE : factE cs s = (6, p) := by unfold factE; rw [hok, if_neg (by simp), hq]; simp only []; rw [hg]
      refine (retract_bad w base bb cs hI hW hn s hs _ _ hE (by decide)).mono ?_
      rintro e w' ⟨rfl, hB⟩
      exact pchange_none hV hL (by rw [hA0, hg]) hB
    | none =>
      have hE : factE cs s = (0, 0) := by unfold factE; rw [hok, if_neg (by simp), hq]; simp only []; rw [hg]
      have hR : Reads base bb (cs.map RC.d) s a.name (a.ts.map RT.s) := by
        intro W h
        refine (readF_c W base bb cs h hW hn s hs).mono ?_
        rintro e w' ⟨he, hB⟩
        rw [hE, if_pos rfl] at he
        obtain ⟨a', h1, h2⟩ := he
        rw [hq] at h1
        obtain rfl := Option.some.inj h1
        exact ⟨h2, hB⟩
      have hA := asked base bb (cs.map RC.d) hW hn' s a.name (a.ts.map RT.s) hR
      have hix := idx_facts cs hG a hneg hwd hfit hg
      by_cases hf : factsN cs a.shown = 0
      · rw [decide_eq_false (fun h => by have := hix.1 h; omega)] at hA
        refine (retract_none w base bb (cs.map RC.d) hI s _ _ _ _ _ hA).mono ?_
        rintro e w' ⟨rfl, hB⟩
        exact pchange_none hV hL (by rw [hA0, hg]; simp only []; rw [if_pos hf]) hB
      · have hpos : 0 ≤ idx a.name (a.ts.map RT.s) (cs.map RC.d) := hix.2 (by omega)
        rw [decide_eq_true hpos] at hA
        refine (retract_some2 w base bb v (cs.map RC.d) ((cs.filter (otherB a.shown)).map RC.d) hV hL hbase s _ _ _ _ _ hA ?_).mono ?_
        · intro W ao cap B hC hB
          have hlen : 0 < (cs.map RC.d).length := by
            cases hcs : cs.map RC.d with
            | nil => rw [hcs] at hpos; simp [idx, idxGo] at hpos
            | cons d r => simp
          obtain ⟨g, bo, bcap, hao, _⟩ := clause_at hC 0 hlen
          subst hao
          refine (delete_c W base g cap (cs.map RC.d) hC hW hn' B a.name (a.ts.map RT.s) hB hpos).mono ?_
          rintro e w' ⟨m, rfl, h1, h2⟩
          rw [filter_d cs hG a hneg hwd hfit hg] at h1
          exact ⟨m, rfl, h1, h2.mono (fun k hk => by rw [hk]; rfl)⟩
        · rintro e w' ⟨rfl, ⟨v', h1, h2, h3⟩, hO⟩
          unfold PChange
          rw [hA0, hg]
          simp only []
          rw [if_neg hf]
          exact ⟨rfl, ⟨v', h1, h2, h3⟩, hO⟩

end Go.Proofs.YtpbfiffgcgnidaaGreatDoor
