/-
  OUR OWN. A text against a base: a question, a fact, and what is wrong with it.
-/
import Derived.Test.YtpbfiffgcgnidaaGreatDoorXPf2
import Derived.Test.YtpbfiffgcgnidaaGreatDoorXM8
import Derived.Test.YtpbfiffgcgnidaaGreatDoorXM6
namespace Go.Proofs.YtpbfiffgcgnidaaGreatDoor
open Go.RowKit Go.WideMaps Go.Maps
attribute [local go_sem] drewN_alloc drewN_setCell

def qA (a : RA) : List Value := atomCells a.name (a.ts.map RT.s)
def qS (a : RA) : List Value := spotCells 0 a.pl (a.ts.map RT.pl)
def ReadQPost (w : World) (cs : List RC) (s : ByteArray) (e : Ending) (w' : World) : Prop :=
  (if (askE cs s).1 = 0 then ∃ a, questT s = some a ∧ e = .returned (.tuple #[.agg (qA a).toArray, .agg (qS a).toArray, .int .i64 0, .int .i64 0]) else e = .returned (.tuple #[.agg zA.toArray, .agg zS.toArray, .int .i64 ((askE cs s).1 : Nat), .int .i64 ((askE cs s).2 : Nat)])) ∧ Below w.heap.size w w'
theorem readQ_c (w : World) (base bb : Nat) (cs : List RC) (hI : BaseIs w base bb (cs.map RC.d)) (hW : ∀ d ∈ cs.map RC.d, d.WF) (hn : cs.length ≤ 40) (s : ByteArray) (hs : s.size ≤ maxLen) :
    Calls Tryz.prog 68 #[.pointer (some ⟨bb, 0, none⟩), .string s] w fun e w' => ReadQPost w cs s e w' := by
  by_cases hl : 2000 < s.size
  · have hE : askE cs s = (1, 0) := by unfold askE; rw [if_pos hl]
    refine (question_long w bb s hs hl).mono ?_
    rintro e w' ⟨rfl, hB⟩
    unfold ReadQPost
    rw [hE, if_neg (by decide)]
    exact ⟨rfl, hB⟩
  · have hq := question_same s
    cases ht : questT s with
    | none =>
      rw [ht] at hq
      simp only [] at hq
      have hE : askE cs s = (2, wrongQ s.data.toList) := by unfold askE; rw [if_neg hl, ht]
      refine (question_form w bb s (by omega) hq).mono ?_
      rintro e w' ⟨rfl, hB⟩
      unfold ReadQPost
      rw [hE, if_neg (by simp), wrongQ_place s hq]
      exact ⟨rfl, hB⟩
    | some a =>
      rw [ht] at hq
      obtain ⟨hok, ⟨r, hr⟩, _⟩ := hq
      have hqa : qAtom s = ⟨true, a.name, a.ts.map RT.s, a.pl, a.ts.map RT.pl, r⟩ := hr
      have hok' : (qAtom s).ok = true := by rw [hqa]
      have hend : (skipL (qAtom s).rest).isEmpty = true := by
        unfold qOk at hok
        rw [hr, Bool.true_and] at hok
        rw [hqa]; exact hok
      have hnl : (qAtom s).name.length ≤ 12 := (atomR_wf s s.data.toList).name
      have hn' : (cs.map RC.d).length ≤ 40 := by simpa using hn
      have hE0 : askE cs s = if 0 ≤ arityC (atomsC cs) a.name ∧ arityC (atomsC cs) a.name ≠ ((a.ts.length : Nat) : Int) then (3, a.pl) else (0, 0) := by unfold askE; rw [if_neg hl, ht]
      have hfr := fits_ref cs a.name a.ts.length
      have key : fitsB cs a.name a.ts.length = true → ReadQPost w cs s = fun e w' => e = .returned (.tuple #[.agg (atomCells (qAtom s).name (qAtom s).ts).toArray, .agg (spotCells 0 (qAtom s).np (qAtom s).ps).toArray, .int .i64 0, .int .i64 0]) ∧ Below w.heap.size w w' := by
        intro hf
        have hE : askE cs s = (0, 0) := by rw [hE0, if_neg (fun h => by rw [hfr.2 h] at hf; simp at hf)]
        funext e w'
        unfold ReadQPost
        rw [hE, if_pos rfl, hqa]
        apply propext
        constructor
        · rintro ⟨⟨a', h1, h2⟩, hB⟩
          rw [ht] at h1
          obtain rfl := Option.some.inj h1
          exact ⟨h2, hB⟩
        · rintro ⟨h2, hB⟩
          exact ⟨⟨a, ht, h2⟩, hB⟩
      cases hf : fitsB cs a.name a.ts.length
      · have hE : askE cs s = (3, a.pl) := by rw [hE0, if_pos (hfr.1 hf)]
        unfold fitsB at hf
        rw [Bool.or_eq_false_iff, Bool.not_eq_false', beq_eq_false_iff_ne] at hf
        refine (question_arity w base bb (cs.map RC.d) hI hW hn' s (by omega) hok' hend (by rw [hqa]; exact hf.1) (by rw [hqa]; simpa using hf.2) hnl).mono ?_
        rintro e w' ⟨rfl, hB⟩
        unfold ReadQPost
        rw [hE, if_neg (by simp), hqa]
        exact ⟨rfl, hB⟩
      · rw [key hf]
        cases hk : hasW (countsR (cs.map RC.d)).1 a.name
        · exact question_new w base bb (cs.map RC.d) hI hW hn' s (by omega) hok' hend (by rw [hqa]; exact hk) hnl
        · unfold fitsB at hf
          rw [hk, Bool.not_true, Bool.false_or, beq_iff_eq] at hf
          exact question_ok w base bb (cs.map RC.d) hI hW hn' s (by omega) hok' hend (by rw [hqa]; exact hk) (by rw [hqa]; simpa using hf) hnl

theorem fv_go (ts : List RT) (hf : ∀ t ∈ ts, t.var = isVar t.s) (k : Nat) : match gvar ts with
    | none => fvGo k (ts.map RT.s) = -1
    | some p => ∃ i, i < ts.length ∧ fvGo k (ts.map RT.s) = ((k + i : Nat) : Int) ∧ (ts.map RT.pl).getD i 0 = p := by
  induction ts generalizing k with
  | nil => rfl
  | cons t r ih =>
    have h1 := hf t (by simp)
    have h2 := ih (fun x hx => hf x (by simp [hx])) (k + 1)
    rw [gvar, List.map_cons, fvGo, ← h1]
    cases hv : t.var
    · simp only [Bool.false_eq_true, if_false]
      cases hg : gvar r with
      | none => rw [hg] at h2; exact h2
      | some p =>
        rw [hg] at h2
        obtain ⟨i, hi, h3, h4⟩ := h2
        exact ⟨i + 1, by simp; omega, by rw [h3]; congr 1; omega, by simpa using h4⟩
    · simp only [if_true]
      exact ⟨0, by simp, by simp, by simp⟩
def factE (cs : List RC) (s : ByteArray) : Nat × Nat :=
  if (askE cs s).1 ≠ 0 then askE cs s
  else match questT s with
    | none => (0, 0)
    | some a => match gvar a.ts with
      | some p => (6, p)
      | none => (0, 0)
def ReadFPost (w : World) (cs : List RC) (s : ByteArray) (e : Ending) (w' : World) : Prop :=
  (if (factE cs s).1 = 0 then ∃ a, questT s = some a ∧ e = .returned (.tuple #[.agg (qA a).toArray, .int .i64 0, .int .i64 0]) else e = .returned (.tuple #[.agg zA.toArray, .int .i64 ((factE cs s).1 : Nat), .int .i64 ((factE cs s).2 : Nat)])) ∧ Below w.heap.size w w'
theorem readF_bad {w w' : World} {cs : List RC} {s : ByteArray} {x y : Nat} (h : factE cs s = (x, y)) (hx : x ≠ 0) (hB : Below w.heap.size w w') : ReadFPost w cs s (.returned (.tuple #[.agg zA.toArray, .int .i64 (x : Nat), .int .i64 (y : Nat)])) w' := by
  unfold ReadFPost
  rw [h, if_neg hx]
  exact ⟨rfl, hB⟩

set_option maxHeartbeats 1000000 in
set_option maxRecDepth 100000 in
theorem readFact_bad (w : World) (base bb : Nat) (cs : List RC) (hI : BaseIs w base bb (cs.map RC.d)) (hW : ∀ d ∈ cs.map RC.d, d.WF) (hn : cs.length ≤ 40) (s : ByteArray) (hs : s.size ≤ maxLen) (hbad : (askE cs s).1 ≠ 0) :
    Calls Tryz.prog 37 #[.pointer (some ⟨bb, 0, none⟩), .string s] w fun e w' => ReadFPost w cs s e w' := by
  obtain ⟨x, HXX⟩ : ∃ x, Hid ((askE cs s).1 = x) := ⟨_, rfl⟩
  obtain ⟨y, HYY⟩ : ∃ y, Hid ((askE cs s).2 = y) := ⟨_, rfl⟩
  have HF := hid (show factE cs s = (x, y) by unfold factE; rw [if_pos hbad, ← HXX.out, ← HYY.out])
  have HQ := hid (fun (W : World) (h : BaseIs W base bb (cs.map RC.d)) => readQ_c W base bb cs h hW hn s hs)
  rw [HXX.out] at hbad
  have hxb : (((x : Nat) : Int) != 0) = true := by rw [bne_iff_ne]; omega
  have hP0 := Blk.new w zA 80
  have hB0 : Below w.heap.size w (w.alloc (.cells zA.toArray 80)) := below_alloc _ _
  go_enter Tryz.func37, Tryz.ntmps37
  go_wp2_with fail
  refine (HQ.out _ (by exact hI.below hB0)).mono ?_
  rintro e w1 ⟨he, hB1⟩
  rw [HXX.out, HYY.out, if_neg hbad] at he
  subst he
  have hP1 := hP0.below hB1
  have hz1 := hP1.lt
  have hz2 : w.heap.size < w1.heap.size + 1 := by omega
  have fP := hP1.frozen
  obtain ⟨a0, a1, a2, a3, a4⟩ := hP1.c5
  have hBw1 : Below w.heap.size w w1 := hB0.trans (hB1.mono (by simp))
  clear hP0 hB0 hP1 HQ
  unfold zA zS
  go_wp2_with fail
  refine bodyPost_ret (v := .tuple #[.agg zA.toArray, .int .i64 (x : Nat), .int .i64 (y : Nat)]) (by simp [results, Tryz.results37, go_sem, zA, *]) rfl ?_
  refine readF_bad HF.out hbad ?_
  refine Below.alloc ?_ (by simp; omega) _
  refine Below.alloc ?_ (by simp; omega) _
  repeat (refine Below.setCell ?_ (by simp only []; omega) _)
  exact hBw1


/-- The walk of readFact behind a question, by its cells. -/
def FvIs (nm y0 y1 y2 : ByteArray) (n i : Int) : Prop := ∀ W : World, Calls Tryz.prog 69 #[.agg #[.string nm, .int .i64 n, .string y0, .string y1, .string y2]] W fun e w' => e = .returned (.int .i64 i) ∧ Below W.heap.size W w'
set_option maxHeartbeats 2000000 in
set_option maxRecDepth 100000 in
theorem readFact_walk (w : World) (base bb : Nat) (ds : List ClD) (hI : BaseIs w base bb ds) (s : ByteArray) (nm y0 y1 y2 : ByteArray) (n np p0 p1 p2 : Int) (HV : Hid (∀ W : World, BaseIs W base bb ds → Calls Tryz.prog 68 #[.pointer (some ⟨bb, 0, none⟩), .string s] W fun e w' => e = .returned (.tuple #[.agg #[.string nm, .int .i64 n, .string y0, .string y1, .string y2], .agg #[.int .i64 0, .int .i64 np, .int .i64 p0, .int .i64 p1, .int .i64 p2], .int .i64 0, .int .i64 0]) ∧ Below W.heap.size W w')) :
    (Hid (FvIs nm y0 y1 y2 n (-1)) → Calls Tryz.prog 37 #[.pointer (some ⟨bb, 0, none⟩), .string s] w fun e w' => e = .returned (.tuple #[.agg #[.string nm, .int .i64 n, .string y0, .string y1, .string y2], .int .i64 0, .int .i64 0]) ∧ Below w.heap.size w w') ∧
    (∀ (i : Nat) (p : Int), i < 3 → Hid (p = if i = 0 then p0 else if i = 1 then p1 else p2) → Hid (FvIs nm y0 y1 y2 n (i : Nat)) → Calls Tryz.prog 37 #[.pointer (some ⟨bb, 0, none⟩), .string s] w fun e w' => e = .returned (.tuple #[.agg zA.toArray, .int .i64 6, .int .i64 p]) ∧ Below w.heap.size w w') := by
  have HI := hid hI
  have HP0 := hid (Blk.new w zA 80)
  have HB0 := hid (below_alloc w (.cells zA.toArray 80))
  clear hI
  constructor
  · intro HG
    go_enter Tryz.func37, Tryz.ntmps37
    go_wp2_with fail
    refine (HV.out _ (by exact HI.out.below HB0.out)).mono ?_
    rintro e w1 ⟨rfl, hB1⟩
    have hP1 := HP0.out.below hB1
    have hBw1 : Below w.heap.size w w1 := HB0.out.trans (hB1.mono (by simp))
    have hC1 := new_one w1 [.string nm, .int .i64 n, .string y0, .string y1, .string y2] 80 [.int .i64 0, .int .i64 np, .int .i64 p0, .int .i64 p1, .int .i64 p2] 141
    go_wp2_with fail
    refine (HG.out _).mono ?_
    rintro e w2 ⟨rfl, hB2⟩
    have hBx : Below w1.heap.size w1 ((w1.alloc (.cells #[.string nm, .int .i64 n, .string y0, .string y1, .string y2] 80)).alloc (.cells #[.int .i64 0, .int .i64 np, .int .i64 p0, .int .i64 p1, .int .i64 p2] 141)) := ((Below.refl _ w1).alloc (Nat.le_refl _) _).alloc (by simp) _
    have hP2 := (hP1.below hBx).below hB2
    have hC2 := hC1.below hB2
    have hz1 : w.heap.size < w1.heap.size := hP1.lt
    have hz2 : w1.heap.size < w2.heap.size := hC2.lt
    have hz3 : w.heap.size < w1.heap.size + 1 := by omega
    have HB2 := hid ((hBw1.trans (hBx.mono (by omega))).trans (hB2.mono (by simp; omega)))
    have fP := hP2.frozen
    obtain ⟨a0, a1, a2, a3, a4⟩ := hP2.c5
    obtain ⟨c0, c1, c2, c3, c4⟩ := hC2.c5
    clear hP2 hC2 hP1 hC1 hBx hB1 hBw1 hB2 HV HG HI HP0 HB0
    go_wp2_with fail
    · refine bodyPost_ret (v := .tuple #[.agg #[.string nm, .int .i64 n, .string y0, .string y1, .string y2], .int .i64 0, .int .i64 0]) (by simp [results, Tryz.results37, go_sem, a0, a1, a2, a3, a4]) rfl ⟨rfl, ?_⟩
      repeat (refine Below.setCell ?_ (by simp only []; omega) _)
      exact HB2.out
  · intro i p hi HPI HG
    have hc : i = 0 ∨ i = 1 ∨ i = 2 := by omega
    clear hi
    rcases hc with rfl | rfl | rfl
    all_goals
      go_enter Tryz.func37, Tryz.ntmps37
      go_wp2_with fail
      refine (HV.out _ (by exact HI.out.below HB0.out)).mono ?_
      rintro e w1 ⟨rfl, hB1⟩
      have hP1 := HP0.out.below hB1
      have hBw1 : Below w.heap.size w w1 := HB0.out.trans (hB1.mono (by simp))
      have hS1 := new_two w1 (.cells #[.string nm, .int .i64 n, .string y0, .string y1, .string y2] 80) [.int .i64 0, .int .i64 np, .int .i64 p0, .int .i64 p1, .int .i64 p2] 141
      go_wp2_with fail
      refine (HG.out _).mono ?_
      rintro e w2 ⟨rfl, hB2⟩
      have hBx : Below w1.heap.size w1 ((w1.alloc (.cells #[.string nm, .int .i64 n, .string y0, .string y1, .string y2] 80)).alloc (.cells #[.int .i64 0, .int .i64 np, .int .i64 p0, .int .i64 p1, .int .i64 p2] 141)) := ((Below.refl _ w1).alloc (Nat.le_refl _) _).alloc (by simp) _
      have hP2 := (hP1.below hBx).below hB2
      have hS2 := hS1.below hB2
      have hz1 : w.heap.size < w1.heap.size := hP1.lt
      have hz2 : w1.heap.size + 1 < w2.heap.size := hS2.lt
      have HB2 := hid ((hBw1.trans (hBx.mono (by omega))).trans (hB2.mono (by simp; omega)))
      have fP := hP2.frozen
      obtain ⟨a0, a1, a2, a3, a4⟩ := hP2.c5
      obtain ⟨d0, d1, d2, d3, d4⟩ := hS2.c5
      have hne1 : w.heap.size ≠ w1.heap.size + 1 := by omega
      clear hP2 hS2 hP1 hS1 hBx hB1 hBw1 hB2 HV HG HI HP0 HB0
      go_wp2_with fail
      go_region
      all_goals go_wp2_with fail
      all_goals
        refine bodyPost_ret (v := .tuple #[.agg #[.string ⟨#[]⟩, .int .i64 0, .string ⟨#[]⟩, .string ⟨#[]⟩, .string ⟨#[]⟩], .int .i64 6, .int .i64 _]) (by simp [results, Tryz.results37, go_sem, a0, a1, a2, a3, a4]; rfl) rfl ⟨?_, ?_⟩
        · rw [HPI.out]; rfl
        · refine Below.drew ?_
          repeat (refine Below.setCell ?_ (by simp only []; omega) _)
          exact HB2.out

end Go.Proofs.YtpbfiffgcgnidaaGreatDoor

namespace Go.Proofs.YtpbfiffgcgnidaaGreatDoor
open Go.RowKit Go.WideMaps Go.Maps

theorem readF_c (w : World) (base bb : Nat) (cs : List RC) (hI : BaseIs w base bb (cs.map RC.d)) (hW : ∀ d ∈ cs.map RC.d, d.WF) (hn : cs.length ≤ 40) (s : ByteArray) (hs : s.size ≤ maxLen) :
    Calls Tryz.prog 37 #[.pointer (some ⟨bb, 0, none⟩), .string s] w fun e w' => ReadFPost w cs s e w' := by
  by_cases hbad : (askE cs s).1 ≠ 0
  · exact readFact_bad w base bb cs hI hW hn s hs hbad
  · obtain ⟨a, hq, hok⟩ := ask_ok (by simpa using hbad)
    have hsm := quest_small hq
    have hfit : ∀ t ∈ a.ts, t.var = isVar t.s := by
      have h := question_same s
      rw [hq] at h
      exact h.2.2.2.2
    have h3 : (a.ts.map RT.s).length ≤ 3 := by simpa using hsm.few
    have HV : Hid (∀ W : World, BaseIs W base bb (cs.map RC.d) → Calls Tryz.prog 68 #[.pointer (some ⟨bb, 0, none⟩), .string s] W fun e w' => e = .returned (.tuple #[.agg #[.string (bs a.name), .int .i64 ((a.ts.map RT.s).length : Nat), .string (bs ((a.ts.map RT.s).getD 0 [])), .string (bs ((a.ts.map RT.s).getD 1 [])), .string (bs ((a.ts.map RT.s).getD 2 []))], .agg #[.int .i64 0, .int .i64 (a.pl : Nat), .int .i64 ((a.ts.map RT.pl).getD 0 0 : Nat), .int .i64 ((a.ts.map RT.pl).getD 1 0 : Nat), .int .i64 ((a.ts.map RT.pl).getD 2 0 : Nat)], .int .i64 0, .int .i64 0]) ∧ Below W.heap.size W w') := by
      intro W h
      refine (readQ_c W base bb cs h hW hn s hs).mono ?_
      rintro e w' ⟨he, hB⟩
      rw [hok, if_pos rfl] at he
      obtain ⟨a', h1, h2⟩ := he
      rw [hq] at h1
      obtain rfl := Option.some.inj h1
      exact ⟨h2, hB⟩
    have hwalk := readFact_walk w base bb (cs.map RC.d) hI s _ _ _ _ _ _ _ _ _ HV
    have hfv := fv_go a.ts hfit 0
    have hFC : ∀ i : Int, fv (a.ts.map RT.s) = i → Hid (FvIs (bs a.name) (bs ((a.ts.map RT.s).getD 0 [])) (bs ((a.ts.map RT.s).getD 1 [])) (bs ((a.ts.map RT.s).getD 2 [])) ((a.ts.map RT.s).length : Nat) i) := by
      intro i hi W
      have h := firstVariable_c W (bs a.name) (a.ts.map RT.s) h3
      rw [hi] at h
      exact h
    cases hg : gvar a.ts with
    | none =>
      rw [hg] at hfv
      have hE : factE cs s = (0, 0) := by unfold factE; rw [hok, if_neg (by simp), hq]; simp only []; rw [hg]
      refine (hwalk.1 (hFC (-1) hfv)).mono ?_
      rintro e w' ⟨rfl, hB⟩
      unfold ReadFPost
      rw [hE, if_pos rfl]
      exact ⟨⟨a, hq, rfl⟩, hB⟩
    | some p =>
      rw [hg] at hfv
      obtain ⟨i, hi, hf, hp⟩ := hfv
      rw [Nat.zero_add] at hf
      have hE : factE cs s = (6, p) := by unfold factE; rw [hok, if_neg (by simp), hq]; simp only []; rw [hg]
      have hi3 : i < 3 := by have := hsm.few; omega
      refine (hwalk.2 i ((p : Nat) : Int) hi3 (hid (by
        rw [← hp]
        have hc : i = 0 ∨ i = 1 ∨ i = 2 := by omega
        rcases hc with rfl | rfl | rfl <;> rfl)) (hFC _ hf)).mono ?_
      rintro e w' ⟨rfl, hB⟩
      exact readF_bad hE (by decide) hB

theorem KeptIs.only {S : Nat → Prop} {w w' : World} {base : Nat} {d : ClD} {cs : List Value} (h : KeptIs w base d cs) (ho : Only S w w') (ht : Typed w S 186) : KeptIs w' base d cs := by
  obtain ⟨bv, hc, hl⟩ := h
  exact ⟨bv, hc, own_only hl ho (own_typed hl ht)⟩
theorem ClausesIs.only {S : Nat → Prop} {w w' : World} {base : Nat} {v : Value} {ds : List ClD} (h : ClausesIs w base v ds) (ho : Only S w w') (ht : Typed w S 186) (hn : ∀ k, v.ownBlock = some k → ¬ S k) : ClausesIs w' base v ds := by
  obtain ⟨rows, hr, hl, hi⟩ := h
  exact ⟨rows, own_only hr ho hn, hl, fun i d cs h1 h2 => (hi i d cs h1 h2).only ho ht⟩
/-- What a change of a base leaves. -/
def PChange (w : World) (base bb : Nat) (v : Value) (r : (Nat × Nat) × List RC) (e : Ending) (w' : World) : Prop :=
  e = .returned (.tuple #[.int .i64 (r.1.1 : Nat), .int .i64 (r.1.2 : Nat)]) ∧ (∃ v', Blk w' bb [v'] 59 ∧ ClausesIs w' base v' (r.2.map RC.d) ∧ (v'.ownBlock = v.ownBlock ∨ ∀ k, v'.ownBlock = some k → w.heap.size ≤ k)) ∧ Only (fun k => k = bb ∨ v.ownBlock = some k) w w'
theorem pchange_none {w w' : World} {base bb : Nat} {v : Value} {cs : List RC} {r : (Nat × Nat) × List RC} {x y : Nat} (hV : Blk w bb [v] 59) (hL : ClausesIs w base v (cs.map RC.d)) (h : r = ((x, y), cs)) (hB : Below w.heap.size w w') : PChange w base bb v r (.returned (.tuple #[.int .i64 (x : Nat), .int .i64 (y : Nat)])) w' := by
  subst h
  exact ⟨rfl, ⟨v, hV.below hB, hL.below hB, .inl rfl⟩, Only.of_below hB⟩

/-- A fact among the program's clauses is one among the document's. -/
theorem isVar_fv (ts : List RT) (hf : ∀ t ∈ ts, t.var = isVar t.s) : gvar ts = none ↔ fv (ts.map RT.s) = -1 := by
  have h := fv_go ts hf 0
  constructor
  · intro hg; rw [hg] at h; exact h
  · intro he
    cases hg : gvar ts with
    | none => rfl
    | some p =>
      rw [hg] at h
      obtain ⟨i, _, h2, _⟩ := h
      unfold fv at he
      rw [he] at h2
      omega

end Go.Proofs.YtpbfiffgcgnidaaGreatDoor

namespace Go.Proofs.YtpbfiffgcgnidaaGreatDoor

/-- A word's letters. -/
def okW (l : List UInt8) : Prop := ∀ c ∈ l, letterDig (c.toNat : Int) = true
theorem take_fits (fits : Int → Bool) (n : Nat) (m : List UInt8) : ∀ c ∈ m.take (wlen fits n m), fits (c.toNat : Int) = true := by
  induction n generalizing m with
  | zero => intro c hc; simp [wlen] at hc
  | succ n ih =>
    cases m with
    | nil => intro c hc; simp at hc
    | cons x m =>
      intro c hc
      unfold wlen at hc
      split at hc
      · rename_i hx
        rw [List.take_succ_cons, List.mem_cons] at hc
        rcases hc with rfl | hc
        · exact hx
        · exact ih m c hc
      · simp at hc
theorem small_letter (c : Int) (h : smallDig c = true) : letterDig c = true := by
  unfold letterDig
  rw [h]; simp
theorem okW_small (n : Nat) (m : List UInt8) : okW (m.take (wlen smallDig n m)) := fun c hc => small_letter _ (take_fits smallDig n m c hc)
theorem okW_letter (n : Nat) (m : List UInt8) : okW (m.take (wlen letterDig n m)) := fun c hc => take_fits letterDig n m c hc
theorem okW_term (l : List UInt8) : okW (termW l) := by
  unfold termW termN
  split
  · exact okW_small _ _
  · split
    · exact okW_letter _ _
    · intro c hc; simp at hc
theorem argsR_ok (s : ByteArray) (name : List UInt8) (np : Nat) (hn : okW name) : ∀ (f : Nat) (ts : List (List UInt8)) (ps : List Nat) (l : List UInt8), (∀ t ∈ ts, okW t) → okW (argsR s name np f ts ps l).name ∧ ∀ t ∈ (argsR s name np f ts ps l).ts, okW t := by
  intro f
  induction f with
  | zero => intro ts ps l h; exact ⟨hn, h⟩
  | succ f ih =>
    intro ts ps l h
    have h4 : ∀ t ∈ ts ++ [termW l], okW t := by
      intro t ht; simp at ht; rcases ht with ht | rfl
      · exact h t ht
      · exact okW_term l
    unfold argsR
    split
    · exact ⟨by intro c hc; simp at hc, by simp⟩
    · split
      · exact ⟨hn, h4⟩
      · split
        · exact ⟨hn, h4⟩
        · exact ih _ _ _ h4
theorem atomR_ok2 (s : ByteArray) (l : List UInt8) : okW (atomR s l).name ∧ ∀ t ∈ (atomR s l).ts, okW t := by
  unfold atomR
  dsimp only
  split
  · exact ⟨by intro c hc; simp at hc, by simp⟩
  · split
    · exact ⟨okW_small _ _, by simp⟩
    · exact argsR_ok s _ _ (okW_small _ _) 3 [] [] _ (by simp)
def headOk (d : ClD) : Prop := okW d.name ∧ ∀ t ∈ d.ts, okW t
theorem clauseR_head (s : ByteArray) (l : List UInt8) (hok : (clauseR s l).ok = true) : headOk (clauseR s l).d := by
  have hA := atomR_ok2 s l
  unfold clauseR at hok ⊢
  split at hok
  · simp at hok
  · next h1 =>
    split at hok
    · next h2 => rw [if_neg h1, if_pos h2]; exact hA
    · next h2 =>
      split at hok
      · simp at hok
      · next h3 => rw [if_neg h1, if_neg h2, if_neg h3]; exact hA
theorem progR_head (s : ByteArray) : ∀ (f : Nat) (ds : List ClD) (l : List UInt8), (∀ d ∈ ds, headOk d) → ∀ d ∈ (progR s f ds l).cls, headOk d := by
  intro f
  induction f with
  | zero => intro ds l h; unfold progR; split <;> exact h
  | succ f ih =>
    intro ds l h
    unfold progR
    split
    · exact h
    · split
      · exact h
      · next hok =>
        refine ih _ _ ?_
        intro d hd
        simp at hd
        rcases hd with hd | rfl
        · exact h d hd
        · exact clauseR_head s _ (by simpa using hok)
theorem programR_head (s : ByteArray) : ∀ d ∈ (programR s).cls, headOk d := progR_head s 40 [] _ (by simp)

theorem okW_no (l : List UInt8) (h : okW l) (c : UInt8) (hc : letterDig (c.toNat : Int) = false) : c ∉ l := fun hm => by rw [h c hm] at hc; simp at hc
theorem split_first (c : UInt8) (n n' X X' : List UInt8) (h : n ++ c :: X = n' ++ c :: X') (h1 : c ∉ n) (h2 : c ∉ n') : n = n' ∧ X = X' := by
  induction n generalizing n' with
  | nil =>
    cases n' with
    | nil => simpa using h
    | cons y n' => simp at h; exact absurd h.1 (fun e => h2 (by simp [e]))
  | cons y n ih =>
    cases n' with
    | nil => simp at h; exact absurd h.1.symm (fun e => h1 (by simp [e]))
    | cons z n' =>
      simp only [List.cons_append, List.cons.injEq] at h
      obtain ⟨rfl, h⟩ := h
      obtain ⟨h3, h4⟩ := ih n' h (fun e => h1 (by simp [e])) (fun e => h2 (by simp [e]))
      exact ⟨by rw [h3], h4⟩
theorem tail_cons (t : List UInt8) (r : List (List UInt8)) : Lib.joinTail [44] (t :: r) = 44 :: (t ++ Lib.joinTail [44] r) := by simp [Lib.joinTail]
theorem join_inj (r : List (List UInt8)) : ∀ (t t' : List UInt8) (r' : List (List UInt8)), okW t → okW t' → (∀ x ∈ r, okW x) → (∀ x ∈ r', okW x) → t ++ Lib.joinTail [44] r = t' ++ Lib.joinTail [44] r' → t = t' ∧ r = r' := by
  have hz : Lib.joinTail [44] ([] : List (List UInt8)) = [] := rfl
  induction r with
  | nil =>
    intro t t' r' h1 h2 _ h4 h
    cases r' with
    | nil => rw [hz, List.append_nil, List.append_nil] at h; exact ⟨h, rfl⟩
    | cons x r' =>
      rw [hz, List.append_nil, tail_cons] at h
      exact absurd (show (44 : UInt8) ∈ t by rw [h]; simp) (okW_no t h1 44 (by decide))
  | cons x r ih =>
    intro t t' r' h1 h2 h3 h4 h
    cases r' with
    | nil =>
      rw [hz, List.append_nil, tail_cons] at h
      exact absurd (show (44 : UInt8) ∈ t' by rw [← h]; simp) (okW_no t' h2 44 (by decide))
    | cons x' r' =>
      rw [tail_cons, tail_cons] at h
      obtain ⟨e1, e2⟩ := split_first 44 t t' _ _ h (okW_no t h1 44 (by decide)) (okW_no t' h2 44 (by decide))
      obtain ⟨e3, e4⟩ := ih x x' r' (h3 x (by simp)) (h4 x' (by simp)) (fun y hy => h3 y (by simp [hy])) (fun y hy => h4 y (by simp [hy])) e2
      exact ⟨e1, by rw [e3, e4]⟩
theorem showA_inj (n n' : List UInt8) (ts ts' : List (List UInt8)) (h1 : okW n) (h2 : okW n') (h3 : ∀ t ∈ ts, okW t) (h4 : ∀ t ∈ ts', okW t) (h : showA n ts = showA n' ts') : n = n' ∧ ts = ts' := by
  unfold showA at h
  cases ts with
  | nil =>
    cases ts' with
    | nil => simp at h; exact ⟨h, rfl⟩
    | cons t' r' =>
      simp at h
      exact absurd (show (40 : UInt8) ∈ n by rw [h]; simp) (okW_no n h1 40 (by decide))
  | cons t r =>
    cases ts' with
    | nil =>
      simp at h
      exact absurd (show (40 : UInt8) ∈ n' by rw [← h]; simp) (okW_no n' h2 40 (by decide))
    | cons t' r' =>
      simp only [List.length_cons, Nat.succ_ne_zero, if_false, Lib.join_cons, List.append_assoc, List.singleton_append] at h
      obtain ⟨e1, e2⟩ := split_first 40 n n' _ _ h (okW_no n h1 40 (by decide)) (okW_no n' h2 40 (by decide))
      have e3 : t ++ Lib.joinTail [44] r = t' ++ Lib.joinTail [44] r' := by
        have := List.append_cancel_right (show (t ++ Lib.joinTail [44] r) ++ [41] = (t' ++ Lib.joinTail [44] r') ++ [41] by simpa using e2)
        exact this
      obtain ⟨e4, e5⟩ := join_inj r t t' r' (h3 t (by simp)) (h4 t' (by simp)) (fun y hy => h3 y (by simp [hy])) (fun y hy => h4 y (by simp [hy])) e3
      exact ⟨e1, by rw [e4, e5]⟩

/-- What is kept of every clause. -/
structure RC.Good (c : RC) : Prop where
  small : c.Small
  fit : c.fit
  neg : c.head.neg = false
  words : headOk c.d
theorem fact_same (c : RC) (hc : c.Good) (a : RA) (ha : a.neg = false) (hw : okW a.name ∧ ∀ t ∈ a.ts, okW t.s) (hf : ∀ t ∈ a.ts, t.var = isVar t.s) (hg : gvar a.ts = none) :
    (c.body.isEmpty && decide (c.shown = a.shown ++ [46])) = matchB a.name (a.ts.map RT.s) c.d := by
  have hfv := (isVar_fv a.ts hf).1 hg
  unfold matchB isFactB sameB RC.d
  simp only [List.length_map]
  cases hb : c.body with
  | nil =>
    have hs : c.shown = showA c.head.name (c.head.ts.map RT.s) ++ [46] := by
      unfold RC.shown
      rw [hb, bsGo, List.append_nil, shown_showA _ hc.neg]
    rw [hs, shown_showA a ha]
    simp only [List.isEmpty_nil, Bool.true_and, List.length_nil, decide_true]
    by_cases he : c.head.name = a.name ∧ c.head.ts.map RT.s = a.ts.map RT.s
    · obtain ⟨e1, e2⟩ := he
      rw [e1, e2, hfv]
      simp
    · have h1 : ¬ (showA c.head.name (c.head.ts.map RT.s) ++ [46] = showA a.name (a.ts.map RT.s) ++ [46]) := by
        intro h
        exact he (showA_inj _ _ _ _ hc.words.1 hw.1 hc.words.2 (by intro t ht; simp at ht; obtain ⟨x, hx, rfl⟩ := ht; exact hw.2 x hx) (List.append_cancel_right h))
      rw [decide_eq_false h1]
      symm
      rw [Bool.and_eq_false_iff]
      right
      rw [Bool.and_eq_false_iff]
      by_cases hn : c.head.name = a.name
      · right; simpa using fun h => he ⟨hn, h⟩
      · left; simpa using hn
  | cons x y => simp

end Go.Proofs.YtpbfiffgcgnidaaGreatDoor
