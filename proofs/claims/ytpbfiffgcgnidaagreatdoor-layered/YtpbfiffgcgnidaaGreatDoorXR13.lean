/-
  OUR OWN. The document's answer: Load.
-/
import Derived.Test.YtpbfiffgcgnidaaGreatDoorXR11
import Derived.Test.YtpbfiffgcgnidaaGreatDoorXR8
import Derived.Test.YtpbfiffgcgnidaaGreatDoorXA1
namespace Go.Proofs.YtpbfiffgcgnidaaGreatDoor
open Go.RowKit Go.WideMaps Go.Maps
attribute [local go_sem] drewN_alloc drewN_setCell

/-- The document's base. -/
def RBaseIs (w : World) (base bb : Nat) (cs : List RC) : Prop := ∃ v, Blk w bb [v] 76 ∧ ClRow w base v cs
def RLoadPost (w : World) (s : ByteArray) (e : Ending) (w' : World) : Prop :=
  (if (refE s).1 = 0 then ∃ bb cs, (T s.size s.data.toList).bind (PP []) = some cs ∧ e = .returned (.tuple #[.pointer (some ⟨bb, 0, none⟩), .int .i64 0, .int .i64 0]) ∧ w.heap.size ≤ bb ∧ RBaseIs w' w.heap.size bb cs
    else e = .returned (.tuple #[.pointer none, .int .i64 (refE s).1, .int .i64 (refE s).2])) ∧ Below w.heap.size w w'
theorem below_draws {b : Nat} {w w' : World} (h : Below b w w') (n : Nat) : Below b w (w'.drewN n) := ⟨h.os, h.tape, h.output, h.size, h.block⟩
theorem rload_bad {w w' : World} {s : ByteArray} {a b : Nat} (h : refE s = (a, b)) (ha : a ≠ 0) (hB : Below w.heap.size w w') : RLoadPost w s (.returned (.tuple #[.pointer none, .int .i64 (a : Nat), .int .i64 (b : Nat)])) w' := by
  unfold RLoadPost
  rw [h, if_neg ha]
  exact ⟨rfl, hB⟩
theorem prog_bounds (s : ByteArray) (cs : List RC) (h : (T s.size s.data.toList).bind (PP []) = some cs) : cs.length ≤ 40 ∧ (∀ c ∈ cs, c.body.length ≤ 4) ∧ ∀ c ∈ cs, ∀ a ∈ c.head :: c.body, a.ts.length ≤ 3 := by
  have hp := program_same s
  rw [h] at hp
  obtain ⟨hw1, hw2⟩ := programR_wf s
  rw [hp.2] at hw1 hw2
  refine ⟨by simpa using hw1, fun c hc => ?_, fun c hc a ha => ?_⟩
  · have := (hw2 c.d (List.mem_map_of_mem hc)).lits
    simpa [RC.d] using this
  · have hwd := (hw2 c.d (List.mem_map_of_mem hc)).words
    rcases List.mem_cons.1 ha with rfl | hb
    · have := (hwd (c.head.name, c.head.ts.map RT.s) (by simp [ClD.atoms, RC.d])).2.1
      simpa using this
    · have := (hwd (a.name, a.ts.map RT.s) (by
        simp only [ClD.atoms, RC.d, List.map_map, List.mem_cons, List.mem_map]
        exact .inr ⟨a, hb, rfl⟩)).2.1
      simpa using this
theorem refArity_step (all l : List RA) (i : Nat) (h : i < l.length) : refArity all (l.drop i) = if arityC all l[i].name = ((l[i].ts.length : Nat) : Int) then refArity all (l.drop (i + 1)) else some l[i].pl := by rw [List.drop_eq_getElem_cons h, refArity]
theorem refOpen_step (l : List RC) (i : Nat) (h : i < l.length) : refOpen (l.drop i) = (looseC l[i]).or (refOpen (l.drop (i + 1))) := by rw [List.drop_eq_getElem_cons h, refOpen]
theorem refLay_step (cs l : List RC) (i : Nat) (h : i < l.length) : refLay cs (l.drop i) = (refLits cs l[i] l[i].body).or (refLay cs (l.drop (i + 1))) := by rw [List.drop_eq_getElem_cons h, refLay]
theorem refLits_step (cs : List RC) (c : RC) (l : List RA) (k : Nat) (h : k < l.length) : refLits cs c (l.drop k) = if (l[k].neg && hasW (needsR (cs.map RC.d) l[k].name) c.head.name) = true then some l[k].bang else refLits cs c (l.drop (k + 1)) := by rw [List.drop_eq_getElem_cons h, refLits]

set_option maxHeartbeats 400000 in
theorem rload_long (w : World) (s : ByteArray) (hs : s.size ≤ maxLen) (h : 2000 < s.size) : Calls Tryz.prog 13 #[.string s] w fun e w' => RLoadPost w s e w' := by
  have HE := hid (show refE s = (1, 0) by simp [refE, h])
  have hs' := hs
  unfold maxLen at hs'
  have hq : (2000 : Int) < (s.size : Int) := by omega
  go_enter Tryz.func13, Tryz.ntmps13
  go_wp2
  go_ret3
  exact rload_bad HE.out (by decide) (Below.refl _ _)

set_option maxHeartbeats 400000 in
theorem rload_form (w : World) (hE : EndsIs w) (hw : 0 < w.heap.size) (s : ByteArray) (h : s.size ≤ 2000) (hn : (T s.size s.data.toList).bind (PP []) = none) : Calls Tryz.prog 13 #[.string s] w fun e w' => RLoadPost w s e w' := by
  have HE := hid (show refE s = (2, wrongR s.data.toList) by unfold refE; rw [if_neg (by omega), hn])
  have HN := hid hn
  clear hn
  have hq : ¬ ((2000 : Int) < (s.size : Int)) := by omega
  go_enter Tryz.func13, Tryz.ntmps13
  go_wp2_with (first
    | (go_at_call 28; refine (program_c _ s (by omega)).mono ?_; rintro e w1 ⟨hx, hB1⟩; rw [HN.out] at hx; simp only [] at hx; subst hx)
    | (go_at_call 29; refine (wrong_c _ (hE.below hB1 hw) (by have := hB1.size; omega) s h).mono ?_; rintro e w2 ⟨rfl, hB2⟩))
  go_ret3
  exact rload_bad HE.out (by decide) (hB1.trans (hB2.mono hB1.size))

set_option maxHeartbeats 8000000 in
set_option maxRecDepth 100000 in
theorem rload_prog (w : World) (s : ByteArray) (h : s.size ≤ 2000) (cs : List RC) (hcs : (T s.size s.data.toList).bind (PP []) = some cs) : Calls Tryz.prog 13 #[.string s] w fun e w' => RLoadPost w s e w' := by
  obtain ⟨hn, hb, ht⟩ := prog_bounds s cs hcs
  have HCS := hid hcs
  have HE := hid (show refE s = match refArity (atomsC cs) (atomsC cs) with
      | some p => (3, p)
      | none => match refOpen cs with
        | some p => (4, p)
        | none => match refLay cs cs with
          | some p => (5, p)
          | none => (0, 0) by
    unfold refE
    rw [if_neg (by omega), hcs]
    rfl)
  have hlen := atomsC_len cs hb
  have HAR := fun wx base ao cap hL nm => arity_r wx base ao cap cs hL hn hb nm
  obtain ⟨all, HAL⟩ : ∃ all, Hid (all = atomsC cs) := ⟨_, rfl⟩
  rw [← HAL.out] at HE hlen HAR
  clear hcs
  have hq : ¬ ((2000 : Int) < (s.size : Int)) := by omega
  go_enter Tryz.func13, Tryz.ntmps13
  go_wp2_with (first
    | (go_at_call 28; refine (program_c _ s (by omega)).mono ?_; rintro e w1 ⟨hx, hB1⟩; rw [HCS.out] at hx; obtain ⟨v, rfl, hL1⟩ := hx; obtain ⟨ao, cap, rfl⟩ := hL1.form)
    | (go_at_call 30; refine (atoms_r _ w.heap.size ao cap cs (by exact hL1) hn hb).mono ?_; rintro e w2 ⟨v2, rfl, hG2, hB2⟩; rw [← HAL.out] at hG2; obtain ⟨go, gcap, rfl⟩ := hG2.form))
  have hws := hB1.size
  have hws2 := hB2.size
  have hBw : Below w.heap.size w w2 := hB1.trans (hB2.mono hws)
  have hL2 := hL1.below hB2
  clear hL1 hB1 hB2
  go_loopw [9] (fun iv wr => ∃ (i : Nat), iv = .int .i64 i ∧ i ≤ all.length ∧ Hid (refArity all (all.drop i) = refArity all all) ∧ Below w2.heap.size w2 wr) (fun iv _ => all.length - (intOf iv).toNat)
  case atStart => exact ⟨0, by go_num, by omega, rfl, Below.refl _ _⟩
  case round =>
    obtain ⟨i, rfl, hi, HX, hB⟩ := hrel
    by_cases hlt : i < all.length
    · obtain ⟨g, tv, rfl, hg, b0, b1, b2, b3, b4, hT⟩ := gather_at (hG2.below hB) rfl i hlt
      have HST := hid (refArity_step all all i hlt)
      generalize all[i] = a at *
      obtain ⟨tq, tcap, rfl⟩ := own_form hT
      unfold RA.w at b0
      have HB2 := hid b2
      clear b2 b3 b4
      by_cases hqa : arityC all a.name = ((a.ts.length : Nat) : Int)
      · have HN := hid (show refArity all (all.drop (i + 1)) = refArity all all by rw [← HX.out, HST.out, if_pos hqa])
        have HQA := hid hqa
        clear hqa HST HX
        go_wp2_with (go_at_call 31; refine (HAR _ w.heap.size ao cap (hL2.below hB) a.name).mono ?_; rintro e w3 ⟨he, hB3⟩; rw [HQA.out] at he; subst he; rw [← hB3.cell (p := ⟨g, i * 5 + 1, none⟩) hg] at b1)
        exact ⟨⟨i + 1, by go_num, hlt, HN, hB.trans (hB3.mono hB.size)⟩, by simp [intOf]; omega⟩
      · have HN := hid (show refE s = (3, a.pl) by rw [HE.out, ← HX.out, HST.out, if_neg hqa])
        obtain ⟨n, HNN⟩ : ∃ n, Hid (arityC all a.name = n) := ⟨_, rfl⟩
        rw [HNN.out] at hqa
        have hqb : (n != ((a.ts.length : Nat) : Int)) = true := by simpa using hqa
        clear HST HX
        go_wp2_with (go_at_call 31; refine (HAR _ w.heap.size ao cap (hL2.below hB) a.name).mono ?_; rintro e w3 ⟨he, hB3⟩; rw [HNN.out] at he; subst he; have b2 := HB2.out; rw [← hB3.cell (p := ⟨g, i * 5 + 1, none⟩) hg] at b1; rw [← hB3.cell (p := ⟨g, i * 5 + 2, none⟩) hg] at b2)
        go_quiet (fail)
        go_wp2_with fail
        go_ret3
        exact rload_bad HN.out (by decide) (below_draws (hBw.trans ((hB.trans (hB3.mono hB.size)).mono hBw.size)) _)
    · have hie : i = all.length := by omega
      have HN1 := hid (show refArity all all = none by rw [← HX.out, hie, List.drop_length]; rfl)
      clear hie HX
      go_wp2_with fail
      go_loopw [11] (fun iv wq => ∃ (j : Nat), iv = .int .i64 j ∧ j ≤ cs.length ∧ Hid (refOpen (cs.drop j) = refOpen cs) ∧ Below w2.heap.size w2 wq) (fun iv _ => cs.length - (intOf iv).toNat)
      case atStart => exact ⟨0, by go_num, by omega, rfl, hB⟩
      case round =>
        clear hB
        obtain ⟨j, rfl, hj, HX, hB⟩ := hrel
        have hLr := hL2.below hB
        by_cases hjl : j < cs.length
        · obtain ⟨g, tv, bo, bcap, rfl, hg, b0, b1, b2, b3, b4, b5, hT, hR⟩ := rclause_at hLr rfl j hjl
          have HST := hid (refOpen_step cs j hjl)
          have hbj := hb cs[j] (List.getElem_mem hjl)
          have htj := ht cs[j] (List.getElem_mem hjl)
          generalize cs[j] = c at *
          obtain ⟨tq, tcap, rfl⟩ := own_form hT
          cases hlo : looseC c with
          | none =>
            have HN := hid (show refOpen (cs.drop (j + 1)) = refOpen cs by rw [← HX.out, HST.out, hlo]; rfl)
            have HLO := hid (show optI (looseC c) = -1 by rw [hlo]; rfl)
            clear hlo HX HST
            go_wp2_with (go_at_call 32; refine (loose_r _ w.heap.size c _ bo bcap (by exact hT) (by exact hR) (by have := hB.size; omega) hbj htj).mono ?_; rintro e w3 ⟨he, hB3⟩; rw [HLO.out] at he; subst he)
            exact ⟨⟨j + 1, by go_num, hjl, HN, hB.trans (hB3.mono hB.size)⟩, by simp [intOf]; omega⟩
          | some p =>
            have HN := hid (show refE s = (4, p) by rw [HE.out, HN1.out]; simp only []; rw [← HX.out, HST.out, hlo]; rfl)
            have HLO := hid (show optI (looseC c) = (p : Nat) by rw [hlo]; rfl)
            clear hlo HX HST
            go_wp2_with (go_at_call 32; refine (loose_r _ w.heap.size c _ bo bcap (by exact hT) (by exact hR) (by have := hB.size; omega) hbj htj).mono ?_; rintro e w3 ⟨he, hB3⟩; rw [HLO.out] at he; subst he)
            go_ret3
            exact rload_bad HN.out (by decide) (hBw.trans ((hB.trans (hB3.mono hB.size)).mono hBw.size))
        · have hje : j = cs.length := by omega
          have HN2 := hid (show refOpen cs = none by rw [← HX.out, hje, List.drop_length]; rfl)
          clear hje HX hLr
          go_wp2_with fail
          go_loopw [13] (fun iv wq => ∃ (m : Nat), iv = .int .i64 m ∧ m ≤ cs.length ∧ Hid (refLay cs (cs.drop m) = refLay cs cs) ∧ Below w2.heap.size w2 wq) (fun iv _ => cs.length - (intOf iv).toNat)
          case atStart => exact ⟨0, by go_num, by omega, rfl, hB⟩
          case round =>
            clear hB
            obtain ⟨m, rfl, hm, HX, hB⟩ := hrel
            by_cases hml : m < cs.length
            · obtain ⟨g, tv, bo, bcap, rfl, hg, b0, b1, b2, b3, b4, b5, hT, hR⟩ := rclause_at hL2 rfl m hml
              have HST := hid (refLay_step cs cs m hml)
              have hbj := hb cs[m] (List.getElem_mem hml)
              generalize cs[m] = c at *
              have HB0 := hid b0
              have HB5 := hid b5
              rw [← hB.cell (p := ⟨g, m * 6 + 5, none⟩) hg] at b5
              clear b0 b1 b2 b3 b4 hT
              go_wp2_with fail
              go_loopw [14] (fun kv wq => ∃ (k : Nat), kv = .int .i64 k ∧ k ≤ c.body.length ∧ Hid ((refLits cs c (c.body.drop k)).or (refLay cs (cs.drop (m + 1))) = refLay cs cs) ∧ Below w2.heap.size w2 wq) (fun kv _ => c.body.length - (intOf kv).toNat)
              case atStart => exact ⟨0, by go_num, by omega, by rw [← HX.out, HST.out]; rfl, hB⟩
              case round =>
                clear hB b5
                obtain ⟨k, rfl, hk, HY, hB⟩ := hrel
                have hsz := hB.size
                have b5 := HB5.out
                rw [← hB.cell (p := ⟨g, m * 6 + 5, none⟩) hg] at b5
                have hgr : g < wr.heap.size := by omega
                by_cases hkl : k < c.body.length
                · obtain ⟨g2, tv2, rfl, hg2, d0, d1, d2, d3, d4, hT2⟩ := ratom_at (hR.below hB) rfl k hkl
                  have HLT := hid (refLits_step cs c c.body k hkl)
                  generalize c.body[k] = b at *
                  obtain ⟨tq2, tcap2, rfl⟩ := own_form hT2
                  have hgr2 : g2 < wr.heap.size := hg2
                  unfold RA.w at d0
                  cases hng : b.neg
                  · rw [hng] at d4
                    have HN := hid (show (refLits cs c (c.body.drop (k + 1))).or (refLay cs (cs.drop (m + 1))) = refLay cs cs by rw [← HY.out, HLT.out, hng]; simp)
                    clear hng HLT HY
                    go_wp2_with fail
                    exact ⟨⟨k + 1, by go_num, hkl, HN, hB.alloc (by omega) _⟩, by simp [intOf]; omega⟩
                  · rw [hng] at d4
                    have HNG := hid hng
                    have hlb := (hL2.below hB).below (below_alloc wr (.cells #[.string (bs b.name), .slice tq2 b.ts.length tcap2, .int .i64 (b.pl : Nat), .int .i64 (b.bang : Nat), .bool true] 69))
                    have hbk := Blk.new wr [.string (bs b.name), .slice tq2 b.ts.length tcap2, .int .i64 (b.pl : Nat), .int .i64 (b.bang : Nat), .bool true] 69
                    have hBa := below_alloc wr (.cells #[.string (bs b.name), .slice tq2 b.ts.length tcap2, .int .i64 (b.pl : Nat), .int .i64 (b.bang : Nat), .bool true] 69)
                    clear hng
                    go_wp2_with (go_at_call 33; refine (below_r _ w.heap.size _ cap cs (by exact hlb) hn hb b.name).mono ?_; rintro e w3 ⟨xs, v3, rfl, ho3, hx3, hD3, hB3⟩; obtain ⟨xo, xcap, rfl⟩ := own_form ho3; have hBw3 : Below w2.heap.size w2 w3 := (hB.trans (hBa.mono hsz)).trans (hB3.mono (by simp; omega)); have b0 := HB0.out; rw [← hBw3.cell (p := ⟨g, m * 6, none⟩) hg] at b0; have HND := hid (needs_deps cs b.name xs hD3 c.head.name); unfold RA.w at b0)
                    go_wp2_with (go_at_call 34; refine (in_c _ _ xo xcap xs (by exact ho3) (by omega) c.head.name).mono ?_; rintro e wx ⟨he, hwx⟩; subst wx; obtain ⟨ring, HRG⟩ : ∃ ring, Hid (hasW xs c.head.name = ring) := ⟨_, rfl⟩; rw [HRG.out] at he; subst he)
                    have hq := str_beq b.name c.head.name
                    obtain ⟨e0, e1, e2, e3, e4⟩ := (hbk.below hB3).c5
                    have hBwx : Below w.heap.size w w3 := hBw.trans (hBw3.mono hBw.size)
                    cases ring
                    · cases heq : decide (b.name = c.head.name)
                      · rw [heq] at hq
                        have HN := hid (show (refLits cs c (c.body.drop (k + 1))).or (refLay cs (cs.drop (m + 1))) = refLay cs cs by rw [← HY.out, HLT.out, ← HND.out, HRG.out, heq]; simp)
                        clear heq HY HLT
                        go_quiet (fail)
                        go_wp2_with fail
                        exact ⟨⟨k + 1, by go_num, hkl, HN, below_draws hBw3 _⟩, by simp [intOf]; omega⟩
                      · rw [heq] at hq
                        have HN := hid (show refE s = (5, b.bang) by rw [HE.out, HN1.out]; simp only []; rw [HN2.out]; simp only []; rw [← HY.out, HLT.out, ← HND.out, HNG.out, HRG.out, heq]; rfl)
                        clear heq HY HLT
                        go_quiet (fail)
                        go_wp2_with fail
                        go_quiet (fail)
                        go_wp2_with fail
                        go_ret3
                        exact rload_bad HN.out (by decide) (below_draws (below_draws hBwx _) _)
                    · have HN := hid (show refE s = (5, b.bang) by rw [HE.out, HN1.out]; simp only []; rw [HN2.out]; simp only []; rw [← HY.out, HLT.out, ← HND.out, HNG.out, HRG.out]; rfl)
                      clear HY HLT
                      go_quiet (fail)
                      go_wp2_with fail
                      go_quiet (fail)
                      go_wp2_with fail
                      go_ret3
                      exact rload_bad HN.out (by decide) (below_draws (below_draws hBwx _) _)
                · have hke : k = c.body.length := by omega
                  have HN := hid (show refLay cs (cs.drop (m + 1)) = refLay cs cs by rw [← HY.out, hke, List.drop_length]; rfl)
                  clear hke HY
                  go_wp2_with fail
                  exact ⟨⟨m + 1, by go_num, hml, HN, hB⟩, by simp [intOf]; omega⟩
            · have hme : m = cs.length := by omega
              have HN := hid (show refE s = (0, 0) by rw [HE.out, HN1.out]; simp only []; rw [HN2.out]; simp only []; rw [← HX.out, hme, List.drop_length]; rfl)
              clear hme HX
              go_wp2_with fail
              go_ret3
              have hz := hB.size
              have hBw3 : Below w.heap.size w wr := hBw.trans (hB.mono hBw.size)
              unfold RLoadPost
              rw [HN.out]
              exact ⟨⟨wr.heap.size, cs, HCS.out, rfl, hBw3.size, _, Blk.new wr [.slice ao cs.length cap] 76, (hL2.below hB).below (below_alloc wr _)⟩, hBw3.alloc hBw3.size _⟩

end Go.Proofs.YtpbfiffgcgnidaaGreatDoor

namespace Go.Proofs.YtpbfiffgcgnidaaGreatDoor
open Go.RowKit Go.WideMaps Go.Maps
attribute [local go_sem] drewN_alloc drewN_setCell

theorem rload_c (w : World) (hE : EndsIs w) (hw : 0 < w.heap.size) (s : ByteArray) (hs : s.size ≤ maxLen) : Calls Tryz.prog 13 #[.string s] w fun e w' => RLoadPost w s e w' := by
  by_cases h : 2000 < s.size
  · exact rload_long w s hs h
  · cases hq : (T s.size s.data.toList).bind (PP []) with
    | none => exact rload_form w hE hw s (by omega) hq
    | some cs => exact rload_prog w s (by omega) cs hq

theorem infoPair : (Tryz.prog.info? 44).map (fun i => (i.zero, i.size, i.bytes)) = some (some (.agg #[.pointer none, .pointer none]), 2, 16) := by kernel_rfl

end Go.Proofs.YtpbfiffgcgnidaaGreatDoor

namespace Go.Proofs.YtpbfiffgcgnidaaGreatDoor
open Go.RowKit Go.WideMaps Go.Maps
attribute [local go_sem] drewN_alloc drewN_setCell

/-- The first variable's place, from k on; -1: none. -/
def fvGo : Nat → List (List UInt8) → Int
  | _, [] => -1
  | k, t :: r => if isVar t = true then (k : Int) else fvGo (k + 1) r
def fv (ts : List (List UInt8)) : Int := fvGo 0 ts
theorem fvGo_drop (ts : List (List UInt8)) (k : Nat) (h : k < ts.length) : fvGo k (ts.drop k) = if isVar ts[k] = true then (k : Int) else fvGo (k + 1) (ts.drop (k + 1)) := by
  rw [List.drop_eq_getElem_cons h, fvGo]

set_option maxHeartbeats 1000000 in
set_option maxRecDepth 100000 in
theorem indexStr_c (w : World) (b o cap : Nat) (ts : List (List UInt8)) (hn : ts.length ≤ 3) (hc : ∀ (j : Nat) (h : j < ts.length), w.cell? ⟨b, o + j, none⟩ = some (.string (bs ts[j]))) :
    Calls Tryz.prog 106 #[.slice (some ⟨b, o, none⟩) ts.length cap, .func (.func 94) #[] #[]] w fun e w' => e = .returned (.int .i64 (fv ts)) ∧ w' = w := by
  go_enter Tryz.func106, Tryz.ntmps106
  go_wp2
  go_loopw [8] (fun iv wr => ∃ (i : Nat), i ≤ ts.length ∧ iv = .int .i64 i ∧ Hid (fvGo i (ts.drop i) = fv ts) ∧ wr = w) (fun iv _ => ts.length - (intOf iv).toNat)
  case atStart => exact ⟨0, by omega, rfl, rfl, rfl⟩
  case round =>
    obtain ⟨i, hi, rfl, HX, rfl⟩ := hrel
    by_cases hlt : i < ts.length
    · have hci := hc i hlt
      have HD := hid (fvGo_drop ts i hlt)
      generalize ts[i] = t at *
      clear hc
      cases hv : isVar t
      · go_wp2_with (go_at_call 94; refine (isVariable_c _ _).mono ?_; rintro e w' ⟨rfl, rfl⟩)
        exact ⟨⟨i + 1, hlt, by go_num, by show _ = _; rw [← HX.out, HD.out, hv]; rfl, trivial⟩, by simp [intOf]; omega⟩
      · have HE := hid (show fv ts = (i : Int) by rw [← HX.out, HD.out, hv]; rfl)
        go_wp2_with (go_at_call 94; refine (isVariable_c _ _).mono ?_; rintro e w' ⟨rfl, rfl⟩)
        go_ret
        rw [HE.out]
        exact ⟨rfl, rfl⟩
    · have hie : i = ts.length := by omega
      have HE := hid (show fv ts = -1 by rw [← HX.out, hie, List.drop_length]; rfl)
      clear hc hie
      go_wp2
      go_ret
      rw [HE.out]
      exact ⟨rfl, rfl⟩

set_option maxHeartbeats 1000000 in
set_option maxRecDepth 100000 in
theorem firstVariable_c (w : World) (nm : ByteArray) (ts : List (List UInt8)) (h3 : ts.length ≤ 3) :
    Calls Tryz.prog 69 #[.agg #[.string nm, .int .i64 (ts.length : Nat), .string (bs (ts.getD 0 [])), .string (bs (ts.getD 1 [])), .string (bs (ts.getD 2 []))]] w fun e w' => e = .returned (.int .i64 (fv ts)) ∧ Below w.heap.size w w' := by
  obtain ⟨y0, Y0⟩ : ∃ y0, Hid (y0 = bs (ts.getD 0 [])) := ⟨_, rfl⟩
  obtain ⟨y1, Y1⟩ : ∃ y1, Hid (y1 = bs (ts.getD 1 [])) := ⟨_, rfl⟩
  obtain ⟨y2, Y2⟩ : ∃ y2, Hid (y2 = bs (ts.getD 2 [])) := ⟨_, rfl⟩
  rw [← Y0.out, ← Y1.out, ← Y2.out]
  have hbx := Blk.new w [Value.string nm, .int .i64 (ts.length : Nat), .string y0, .string y1, .string y2] 80
  have hcells : ∀ (j : Nat) (h : j < ts.length), (w.alloc (.cells #[Value.string nm, .int .i64 (ts.length : Nat), .string y0, .string y1, .string y2] 80)).cell? ⟨w.heap.size, 2 + j, none⟩ = some (.string (bs ts[j])) := by
    intro j hj
    rw [hbx.cell]
    have h : j = 0 ∨ j = 1 ∨ j = 2 := by omega
    rcases h with rfl | rfl | rfl
    · simp [Y0.out, hj]
    · simp [Y1.out, hj]
    · simp [Y2.out, hj]
  have HC := hid hcells
  clear hcells
  have hsl := fun W : World => sliceN ts.length h3 w.heap.size 2 W
  go_enter Tryz.func69, Tryz.ntmps69
  go_wp2_with (go_at_call 106; refine (indexStr_c _ w.heap.size 2 3 ts h3 HC.out).mono ?_; rintro e w' ⟨rfl, rfl⟩)
  go_ret
  exact ⟨rfl, below_alloc _ _⟩

end Go.Proofs.YtpbfiffgcgnidaaGreatDoor
