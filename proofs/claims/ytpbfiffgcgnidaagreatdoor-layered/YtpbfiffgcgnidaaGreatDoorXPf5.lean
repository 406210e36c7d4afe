/-
  OUR OWN. Assert, whatever the text.
-/
import Derived.Test.YtpbfiffgcgnidaaGreatDoorXF11
import Derived.Test.YtpbfiffgcgnidaaGreatDoorXZ3
namespace Go.Proofs.YtpbfiffgcgnidaaGreatDoor
open Go.RowKit Go.WideMaps Go.Maps
attribute [local go_sem] drewN_alloc drewN_setCell

set_option maxHeartbeats 1000000 in
set_option maxRecDepth 100000 in
theorem assert_more2 (w : World) (base bb : Nat) (v : Value) (ds : List ClD) (hV : Blk w bb [v] 59) (hL : ClausesIs w base v ds) (hbase : base ≤ w.heap.size) (s : ByteArray) (x y0 y1 y2 : ByteArray) (n : Int) (hl : ds.length < 40) (d : ClD) (hd : d.lits = []) (hdc : atomCells d.name d.ts = [.string x, .int .i64 n, .string y0, .string y1, .string y2]) (hA : Asked base bb ds s false x y0 y1 y2 n) :
    Calls Tryz.prog 16 #[.pointer (some ⟨bb, 0, none⟩), .string s] w fun e w' => e = .returned (.tuple #[.int .i64 0, .int .i64 0]) ∧ (∃ v', Blk w' bb [v'] 59 ∧ ClausesIs w' base v' (ds ++ [d]) ∧ (v'.ownBlock = v.ownBlock ∨ ∀ k, v'.ownBlock = some k → w.heap.size ≤ k)) ∧ Only (fun k => k = bb ∨ v.ownBlock = some k) w w' := by
  have hw0 : bb < w.heap.size := hV.lt
  obtain ⟨ao, cap, rfl⟩ := hL.form
  have hI : BaseIs w base bb ds := ⟨_, hV, hL⟩
  have HR := hid (hA.reads w hI)
  have HF := hid hA.factOf
  have HH := hid hA.has
  have HI := hid hI
  clear hA hI
  go_enter Tryz.func16, Tryz.ntmps16
  go_wp2_with fail
  refine (HR.out).mono ?_
  rintro e w1 ⟨rfl, hB1⟩
  have HIx := hid ((HI.out.below hB1).below (below_alloc w1 (.cells #[.string x, .int .i64 n, .string y0, .string y1, .string y2] 80)))
  have HBx := hid (hB1.trans ((below_alloc w1 (.cells #[.string x, .int .i64 n, .string y0, .string y1, .string y2] 80)).mono hB1.size))
  have hzz := HBx.out.size
  have h1 := (hV.below hB1).below (below_alloc w1 (.cells #[.string x, .int .i64 n, .string y0, .string y1, .string y2] 80))
  have h2 := (hL.below hB1).below (below_alloc w1 (.cells #[.string x, .int .i64 n, .string y0, .string y1, .string y2] 80))
  have hlt := (HI.out.below hB1)
  obtain ⟨v', k1, k2⟩ := hlt
  have hlt := k1.lt
  have hne : bb ≠ w1.heap.size := by omega
  have c0 := h1.cell 0
  have H1 := hid h1
  have H2 := hid (h2.below (Below.refl _ _).drew)
  clear h1 h2 HI HR HIx k1 k2
  have hsize : (w1.alloc (.cells #[.string x, .int .i64 n, .string y0, .string y1, .string y2] 80)).heap.size = w1.heap.size + 1 := by simp
  obtain ⟨q0, q1, q2, q3, q4⟩ := (Blk.new w1 [.string x, .int .i64 n, .string y0, .string y1, .string y2] 80).c5
  have HQ := hid (Blk.new w1 [.string x, .int .i64 n, .string y0, .string y1, .string y2] 80)
  obtain ⟨i1, hi1, hy0, hy1, hy2⟩ := info_parts infoClause
  go_wp2_with fail
  generalize hw : (w1.alloc (.cells #[.string x, .int .i64 n, .string y0, .string y1, .string y2] 80)) = u at *
  generalize w1.heap.size = B1 at *
  clear hw hB1
  go_region_with (first
    | (go_at_call 39; refine (HF.out _).mono ?_; rintro e w2 ⟨rfl, hA2, hB2⟩; have c02 := (H1.out.drew.below hB2).cell 0)
    | (go_at_call 38; refine (HH.out w2 ao cap (B1 + 1) (H2.out.below hB2) (by rw [← hsize]; exact hA2)).mono ?_; rintro e w3 ⟨rfl, hB3⟩))
  all_goals
    have hB23 := hB2.trans (hB3.mono hB2.size)
    have hB := HBx.out.drew.trans (hB23.mono (by simp; omega))
    have hC := H1.out.drew.below hB23
    have c03 := hC.cell 0
    have fC := hC.frozen
    have hP := H2.out.below hB23
    have hq := (HQ.out.drew.below hB23)
    obtain ⟨p0, p1, p2, p3, p4⟩ := hq.c5
    have hbw : bb < w3.heap.size := hC.lt
    have hbq : B1 < w3.heap.size := hq.lt
    obtain ⟨rows, ho, hrl, hr⟩ := hP
    clear H1 H2 HQ HF HH HBx q0 q1 q2 q3 q4 c0 c02 hA2 hB2 hB3 hB23 hq
    go_wp2_with fail
    have hown : ∀ o2, ((w3.alloc o2).drew).ownsRow base 86 6 (.slice ao ds.length cap) ds.length rows.flatten := fun o2 => ho.alloc o2
    have hnews : ∀ j u, [Value.string x, .int .i64 n, .string y0, .string y1, .string y2, .slice none 0 0][j]? = some u → ((w3.alloc (.cells #[Value.string x, .int .i64 n, .string y0, .string y1, .string y2, .slice none 0 0] 86)).drew).cell? ((⟨w3.heap.size, 0, none⟩ : Addr).add j) = some u := fun j u h => new_cells w3 [Value.string x, .int .i64 n, .string y0, .string y1, .string y2, .slice none 0 0] 86 j u h
    have hone : ∀ u ∈ [Value.string x, .int .i64 n, .string y0, .string y1, .string y2, .slice none 0 0], u.oneCell' = true := by
      intro u hu; simp at hu; rcases hu with rfl | rfl | rfl | rfl | rfl | rfl <;> rfl
    have hlm : ds.length + 1 ≤ maxLen := by unfold maxLen; omega
    have hlb : (ds.length + 1) * 96 ≤ 140737488355328 := by omega
    have hBB : ∀ o2, base ≤ ((w3.alloc o2).drew).heap.size := by intro o2; simp; omega
    have hne1 := own_ne ho hC (by decide)
    have hbs := own_base ho
    go_region_law (refine step_append_at _ rfl (.tmp 37) (.tmp 40) 56 rfl base 86 i1 _ 6 96 Tryz.underlying56 hi1 hy0 hy1 hy2 rfl (by decide) (.slice ao ds.length cap) ds.length rows.flatten (by simp [Act.eval]) (hown _) ⟨w3.heap.size, 0, none⟩ 1 1 [Value.string x, .int .i64 n, .string y0, .string y1, .string y2, .slice none 0 0] (by simp [Act.eval]) (by decide) rfl hnews hone hlm hlb (hBB _) ?_; intro g2 cap2 w4 ho4 hg4 hw4; have hC4 := (hC.alloc _).drew.grown hg4 hne1; have d0 := hC4.cell 0; have fC4 := hC4.frozen; simp at d0)
    all_goals
      go_wp2_with fail
      go_ret2
      have hKd : KeptIs w3 base d [Value.string x, .int .i64 n, .string y0, .string y1, .string y2, .slice none 0 0] := ⟨.slice none 0 0, by rw [hdc]; rfl, by rw [hd]; exact World.ownsRow_nil _ _ _ _⟩
      have h2 := fun o2 => (below_alloc w3 o2).drew
      have hmore := ClausesIs.more (w := (w3.alloc _).drew) (w' := w4) (base := base) (ds := ds) (fun i d cs h1 h3 => (hr i d cs h1 h3).below (h2 _)) hrl (hown _) (hKd.below (h2 _)) ho4 hg4
      refine ⟨rfl, ⟨_, hC4.setCell 0 _, hmore.set hC4 (by decide) (by decide) 0 _, ?_⟩, ?_⟩
      · rcases hw4 with h | h
        · exact .inl h
        · refine .inr (fun k hk => ?_)
          simp [Value.ownBlock] at hk
          simp at h
          have := hB.size
          omega
      · refine Only.setCell ?_ (.inl (.inl rfl)) _
        have h4 := fun o2 => Only.drew (Only.alloc (Only.of_below (S := fun k => k = bb ∨ (Value.slice ao ds.length cap).ownBlock = some k) hB) o2)
        exact (h4 _).trans (Only.of_grown (S := fun k => k = bb ∨ (Value.slice ao ds.length cap).ownBlock = some k) hg4 (fun k hk => .inr hk)) (fun k _ hk => hk)

set_option maxHeartbeats 1000000 in
set_option maxRecDepth 100000 in
theorem assert_full (w : World) (base bb : Nat) (ds : List ClD) (hI : BaseIs w base bb ds) (s : ByteArray) (x y0 y1 y2 : ByteArray) (n : Int) (hl : 40 ≤ ds.length) (hA : Asked base bb ds s false x y0 y1 y2 n) :
    Calls Tryz.prog 16 #[.pointer (some ⟨bb, 0, none⟩), .string s] w fun e w' => e = .returned (.tuple #[.int .i64 1, .int .i64 0]) ∧ Below w.heap.size w w' := by
  have hli : (40 : Int) ≤ (ds.length : Int) := by omega
  have HR := hid (hA.reads w hI)
  have HF := hid hA.factOf
  have HH := hid hA.has
  have HI := hid hI
  clear hA hI
  go_enter Tryz.func16, Tryz.ntmps16
  go_wp2_with fail
  refine (HR.out).mono ?_
  rintro e w1 ⟨rfl, hB1⟩
  have HIx := hid ((HI.out.below hB1).below (below_alloc w1 (.cells #[.string x, .int .i64 n, .string y0, .string y1, .string y2] 80)))
  have HBx := hid (hB1.trans ((below_alloc w1 (.cells #[.string x, .int .i64 n, .string y0, .string y1, .string y2] 80)).mono hB1.size))
  have hzz := HBx.out.size
  obtain ⟨v, h1, h2⟩ := HIx.out
  obtain ⟨ao, cap, rfl⟩ := h2.form
  have hlt := (HI.out.below hB1)
  obtain ⟨v', k1, k2⟩ := hlt
  have hlt := k1.lt
  have hne : bb ≠ w1.heap.size := by omega
  have c0 := h1.cell 0
  have H1 := hid h1
  have H2 := hid (h2.below (Below.refl _ _).drew)
  clear h1 h2 HI HR HIx k1 k2
  have hsize : (w1.alloc (.cells #[.string x, .int .i64 n, .string y0, .string y1, .string y2] 80)).heap.size = w1.heap.size + 1 := by simp
  obtain ⟨q0, q1, q2, q3, q4⟩ := (Blk.new w1 [.string x, .int .i64 n, .string y0, .string y1, .string y2] 80).c5
  have HQ := hid (Blk.new w1 [.string x, .int .i64 n, .string y0, .string y1, .string y2] 80)
  go_wp2_with fail
  generalize hw : (w1.alloc (.cells #[.string x, .int .i64 n, .string y0, .string y1, .string y2] 80)) = u at *
  generalize w1.heap.size = B1 at *
  clear hw hB1
  go_region_with (first
    | (go_at_call 39; refine (HF.out _).mono ?_; rintro e w2 ⟨rfl, hA2, hB2⟩; have c02 := (H1.out.drew.below hB2).cell 0)
    | (go_at_call 38; refine (HH.out w2 ao cap (B1 + 1) (H2.out.below hB2) (by rw [← hsize]; exact hA2)).mono ?_; rintro e w3 ⟨rfl, hB3⟩))
  all_goals
    have hB23 := hB2.trans (hB3.mono hB2.size)
    have hB := HBx.out.drew.trans (hB23.mono (by simp; omega))
    have hC := H1.out.drew.below hB23
    have c03 := hC.cell 0
    have hbw : bb < w3.heap.size := hC.lt
    clear H1 H2 HQ HF HH HBx q0 q1 q2 q3 q4 c0 c02 hA2 hB2 hB3 hB23
    go_wp2_with fail
    go_ret2
    exact ⟨rfl, hB⟩

set_option maxHeartbeats 1000000 in
set_option maxRecDepth 100000 in
theorem assert_bad (w : World) (base bb : Nat) (cs : List RC) (hI : BaseIs w base bb (cs.map RC.d)) (hW : ∀ d ∈ cs.map RC.d, d.WF) (hn : cs.length ≤ 40) (s : ByteArray) (hs : s.size ≤ maxLen) (x y : Nat) (hE : factE cs s = (x, y)) (hx : x ≠ 0) :
    Calls Tryz.prog 16 #[.pointer (some ⟨bb, 0, none⟩), .string s] w fun e w' => e = .returned (.tuple #[.int .i64 (x : Nat), .int .i64 (y : Nat)]) ∧ Below w.heap.size w w' := by
  have HR := hid (readF_c w base bb cs hI hW hn s hs)
  have HE := hid hE
  have hxb : (((x : Nat) : Int) != 0) = true := by rw [bne_iff_ne]; omega
  clear hE
  go_enter Tryz.func16, Tryz.ntmps16
  go_wp2_with fail
  refine (HR.out).mono ?_
  rintro e w1 ⟨he, hB1⟩
  rw [HE.out, if_neg hx] at he
  subst he
  unfold zA
  go_wp2_with fail
  go_ret2
  exact ⟨rfl, hB1.alloc hB1.size _⟩

theorem idx_go (an : List UInt8) (ats : List (List UInt8)) (ds : List ClD) (k : Nat) : 0 ≤ idxGo an ats k ds ↔ ∃ d ∈ ds, matchB an ats d = true := by
  induction ds generalizing k with
  | nil => simp [idxGo]
  | cons d ds ih =>
    rw [idxGo]
    by_cases h : matchB an ats d = true
    · rw [if_pos h]
      simp [h]
    · rw [if_neg h, ih (k + 1)]
      simp [h]
theorem idx_facts (cs : List RC) (hG : ∀ c ∈ cs, c.Good) (a : RA) (ha : a.neg = false) (hw : okW a.name ∧ ∀ t ∈ a.ts, okW t.s) (hf : ∀ t ∈ a.ts, t.var = isVar t.s) (hg : gvar a.ts = none) : 0 ≤ idx a.name (a.ts.map RT.s) (cs.map RC.d) ↔ 0 < factsN cs a.shown := by
  unfold idx factsN
  rw [idx_go, List.countP_pos_iff]
  constructor
  · rintro ⟨d, hd, hm⟩
    obtain ⟨c, hc, rfl⟩ := List.mem_map.1 hd
    exact ⟨c, hc, by rw [fact_same c (hG c hc) a ha hw hf hg]; exact hm⟩
  · rintro ⟨c, hc, hm⟩
    exact ⟨c.d, List.mem_map_of_mem hc, by rw [← fact_same c (hG c hc) a ha hw hf hg]; exact hm⟩
theorem quest_words {s : ByteArray} {a : RA} (h : questT s = some a) : a.neg = false ∧ (okW a.name ∧ ∀ t ∈ a.ts, okW t.s) ∧ ∀ t ∈ a.ts, t.var = isVar t.s := by
  have hq := question_same s
  rw [h] at hq
  obtain ⟨_, ⟨r, hr⟩, _, hn, hf⟩ := hq
  have hw := atomR_ok2 s s.data.toList
  rw [hr] at hw
  exact ⟨hn, ⟨hw.1, fun t ht => hw.2 t.s (List.mem_map_of_mem ht)⟩, hf⟩

/-- Assert is the document's. -/
theorem passert_c (w : World) (base bb : Nat) (v : Value) (cs : List RC) (hbase : base ≤ w.heap.size) (hV : Blk w bb [v] 59) (hL : ClausesIs w base v (cs.map RC.d)) (hG : ∀ c ∈ cs, c.Good) (hW : ∀ d ∈ cs.map RC.d, d.WF) (hn : cs.length ≤ 40) (s : ByteArray) (hs : s.size ≤ maxLen) :
    Calls Tryz.prog 16 #[.pointer (some ⟨bb, 0, none⟩), .string s] w fun e w' => PChange w base bb v (assertC cs s) e w' := by
  have hI : BaseIs w base bb (cs.map RC.d) := ⟨v, hV, hL⟩
  have hn' : (cs.map RC.d).length ≤ 40 := by simpa using hn
  by_cases hbad : (askE cs s).1 ≠ 0
  · have hE : factE cs s = ((askE cs s).1, (askE cs s).2) := by unfold factE; rw [if_pos hbad]
    refine (assert_bad w base bb cs hI hW hn s hs _ _ hE hbad).mono ?_
    rintro e w' ⟨rfl, hB⟩
    exact pchange_none hV hL (assertC_bad hbad) hB
  · obtain ⟨a, hq, hok⟩ := ask_ok (by simpa using hbad)
    have hA0 := assertC_of hok hq
    obtain ⟨hneg, hwd, hfit⟩ := quest_words hq
    cases hg : gvar a.ts with
    | some p =>
      have hE : factE cs s = (6, p) := by unfold factE; rw [hok, if_neg (by simp), hq]; simp only []; rw [hg]
      refine (assert_bad w base bb cs hI hW hn s hs _ _ hE (by decide)).mono ?_
      rintro e w' ⟨rfl, hB⟩
      exact pchange_none hV hL (by rw [hA0, hg]) hB
    | none =>
      have hE : factE cs s = (0, 0) := by unfold factE; rw [hok, if_neg (by simp), hq]; simp only []; rw [hg]
      have hR : Reads base bb (cs.map RC.d) s a.name (a.ts.map RT.s) := by
        intro W h
        refine (readF_c W base bb cs h hW hn s hs).mono ?_
        rintro e w' ⟨he, hB⟩
        rw [hE, if_pos rfl] at he
        obtain ⟨a', h1, h2⟩ := he
        rw [hq] at h1
        obtain rfl := Option.some.inj h1
        exact ⟨h2, hB⟩
      have hA := asked base bb (cs.map RC.d) hW hn' s a.name (a.ts.map RT.s) hR
      have hix := idx_facts cs hG a hneg hwd hfit hg
      by_cases hf : 0 < factsN cs a.shown
      · rw [decide_eq_true (hix.2 hf)] at hA
        refine (assert_twice w base bb (cs.map RC.d) hI s _ _ _ _ _ hA).mono ?_
        rintro e w' ⟨rfl, hB⟩
        exact pchange_none hV hL (by rw [hA0, hg]; simp only []; rw [if_pos hf]) hB
      · rw [decide_eq_false (fun h => hf (hix.1 h))] at hA
        by_cases h40 : 40 ≤ cs.length
        · refine (assert_full w base bb (cs.map RC.d) hI s _ _ _ _ _ (by simpa using h40) hA).mono ?_
          rintro e w' ⟨rfl, hB⟩
          exact pchange_none hV hL (by rw [hA0, hg]; simp only []; rw [if_neg hf, if_pos h40]) hB
        · refine (assert_more2 w base bb v (cs.map RC.d) hV hL hbase s _ _ _ _ _ (by simp; omega) (RC.d ⟨a, []⟩) rfl rfl hA).mono ?_
          rintro e w' ⟨rfl, ⟨v', h1, h2, h3⟩, hO⟩
          unfold PChange
          rw [hA0, hg]
          simp only []
          rw [if_neg hf, if_neg h40]
          exact ⟨rfl, ⟨v', h1, by simpa using h2, h3⟩, hO⟩

end Go.Proofs.YtpbfiffgcgnidaaGreatDoor
