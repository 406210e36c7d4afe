/-
  OUR OWN. The document's answer: a question; where its text is wrong.
-/
import Derived.Test.YtpbfiffgcgnidaaGreatDoorXR11
import Derived.Test.YtpbfiffgcgnidaaGreatDoorXQ1
import Derived.Test.YtpbfiffgcgnidaaGreatDoorXM1
import Derived.Deep.CutRange
namespace Go.Proofs.YtpbfiffgcgnidaaGreatDoor
open Go.RowKit Go.WideMaps Go.Maps
attribute [local go_sem] drewN_alloc drewN_setCell

def QPost (w : World) (s : ByteArray) (e : Ending) (w' : World) : Prop :=
  ∃ (cs : List Value) (ok : Bool), e = .returned (.tuple #[.agg cs.toArray, .bool ok]) ∧ Five cs ∧ Below w.heap.size w w' ∧
    match questT s with
    | none => ok = false
    | some a => ok = true ∧ AtomIs w' w.heap.size a cs
theorem quest_fail {w w' : World} {s : ByteArray} {cs : List Value} (hB : Below w.heap.size w w') (h : questT s = none) (hF : Five cs := by exact ⟨_, _, _, _, _, _, _, rfl⟩) : QPost w s (.returned (.tuple #[.agg cs.toArray, .bool false])) w' := ⟨cs, false, rfl, hF, hB, by rw [h]⟩
theorem quest_good {w w' : World} {s : ByteArray} {cs : List Value} {a : RA} (hB : Below w.heap.size w w') (h : questT s = some a) (hA : AtomIs w' w.heap.size a cs) : QPost w s (.returned (.tuple #[.agg cs.toArray, .bool true])) w' := ⟨cs, true, rfl, hA.five, hB, by rw [h]; exact ⟨rfl, hA⟩⟩

theorem atom0_c (w : World) (base : Nat) (ao : Option Addr) (cap : Nat) (ps : List Pc) (hP : Pieces w base ao cap ps) (hn : ps.length ≤ 3000) :
    Calls Tryz.prog 100 #[.slice ao ps.length cap, .int .i64 0] w fun e w' => AtomPost w ps 0 e w' := atom_c w base ao cap ps hP hn 0 (Nat.zero_le _)
theorem len_all {ps : List Pc} {k : Nat} (h : [] = ps.drop k) (hk : k ≤ ps.length) : k = ps.length := by
  have h9 := congrArg List.length h
  simp at h9
  omega
theorem len_more {ps r : List Pc} {p : Pc} {k : Nat} (h : p :: r = ps.drop k) : k < ps.length := by
  have h9 := congrArg List.length h
  simp at h9
  omega
theorem beq_all {k n : Nat} (h : k = n) : ((k : Int) == (n : Int)) = true := by rw [h]; simp
theorem beq_more {k n : Nat} (h : k < n) : ((k : Int) == (n : Int)) = false := by
  rw [beq_eq_false_iff_ne]
  omega
set_option maxHeartbeats 4000000 in
set_option maxRecDepth 100000 in
theorem question_c (w : World) (s : ByteArray) (hs : s.size ≤ 3000) : Calls Tryz.prog 73 #[.string s] w fun e w' => QPost w s e w' := by
  have hR0 := Blk.new w zRA 69
  have hB0 := below_alloc w (.cells zRA.toArray 69)
  have hz0 := hB0.size
  cases hT : T s.size s.data.toList with
  | none =>
    have HT := hid hT
    have HQ := hid (show questT s = none by unfold questT; rw [hT]; rfl)
    have HA := hid (show atomP (([] : List Pc).drop 0) = none from rfl)
    clear hT
    go_enter Tryz.func73, Tryz.ntmps73
    go_wp2_with (go_at_call 61; refine (pieces_c _ s hs).mono ?_; rintro e w1 ⟨hx, hB1⟩; rcases hx with ⟨ps', v, h1, -⟩ | ⟨-, rfl⟩; (rw [HT.out] at h1; exact absurd h1 (by simp)))
    refine (atom0_c _ 0 none _ [] (by exact World.ownsRow_nil _ _ _ _) (by simp)).mono ?_
    rintro e w2 ⟨cs, nx, ok, rfl, hF, hB2, hm⟩
    obtain ⟨nm, tq, tl, tcap, pl, bg, ng, rfl⟩ := hF
    rw [HA.out] at hm
    simp only [] at hm
    subst hm
    obtain ⟨r0, r1, r2, r3, r4⟩ := ((hR0.below hB1).below hB2).c5
    have fR := ((hR0.below hB1).below hB2).frozen
    have hcw0 := ((hR0.below hB1).below hB2).lt
    go_wp2_with fail
    have hBw : Below w.heap.size w w2 := (hB0.trans (hB1.mono hz0)).trans (hB2.mono (Nat.le_trans hz0 hB1.size))
    refine bodyPost_ret (v := .tuple #[.agg #[.string nm, .slice tq tl tcap, .int .i64 pl, .int .i64 bg, .bool ng], .bool false]) (by simp [results, Tryz.results73, go_sem, r0, r1, r2, r3, r4, hcw0]) rfl ?_
    refine quest_fail (cs := [.string nm, .slice tq tl tcap, .int .i64 pl, .int .i64 bg, .bool ng]) ?_ HQ.out
    refine Below.alloc ?_ (by have := hBw.size; simp; omega) _
    repeat (refine Below.setCell ?_ (by simp only []; omega) _)
    exact hBw
  | some ps =>
    have HT := hid hT
    cases hat : atomP ps with
    | none =>
      have HA := hid (show atomP (ps.drop 0) = none from hat)
      have HQ := hid (show questT s = none by unfold questT; rw [hT]; exact questP_no hat)
      clear hT hat
      go_enter Tryz.func73, Tryz.ntmps73
      go_wp2_with (go_at_call 61; refine (pieces_c _ s hs).mono ?_; rintro e w1 ⟨hx, hB1⟩; rcases hx with ⟨ps', v, h1, rfl, hP1, hl1⟩ | ⟨h1, -⟩; rotate_left; (rw [HT.out] at h1; exact absurd h1 (by simp)); rw [HT.out] at h1; obtain rfl := Option.some.inj h1; clear h1; obtain ⟨ao, cap, rfl⟩ := own_form hP1)
      refine (atom0_c _ _ ao _ ps (by exact hP1) (by omega)).mono ?_
      rintro e w2 ⟨cs, nx, ok, rfl, hF, hB2, hm⟩
      obtain ⟨nm, tq, tl, tcap, pl, bg, ng, rfl⟩ := hF
      rw [HA.out] at hm
      simp only [] at hm
      subst hm
      obtain ⟨r0, r1, r2, r3, r4⟩ := ((hR0.below hB1).below hB2).c5
      have fR := ((hR0.below hB1).below hB2).frozen
      have hcw0 := ((hR0.below hB1).below hB2).lt
      go_wp2_with fail
      have hBw : Below w.heap.size w w2 := (hB0.trans (hB1.mono hz0)).trans (hB2.mono (Nat.le_trans hz0 hB1.size))
      refine bodyPost_ret (v := .tuple #[.agg #[.string nm, .slice tq tl tcap, .int .i64 pl, .int .i64 bg, .bool ng], .bool false]) (by simp [results, Tryz.results73, go_sem, r0, r1, r2, r3, r4, hcw0]) rfl ?_
      refine quest_fail (cs := [.string nm, .slice tq tl tcap, .int .i64 pl, .int .i64 bg, .bool ng]) ?_ HQ.out
      refine Below.alloc ?_ (by have := hBw.size; simp; omega) _
      repeat (refine Below.setCell ?_ (by simp only []; omega) _)
      exact hBw
    | some x =>
      obtain ⟨a, r⟩ := x
      have HA := hid (show atomP (ps.drop 0) = some (a, r) from hat)
      cases hng : a.neg
      · have HNG := hid hng
        cases r with
        | nil =>
          have HQ := hid (show questT s = some a by unfold questT; rw [hT]; exact questP_yes hat hng)
          clear hT hat hng
          go_enter Tryz.func73, Tryz.ntmps73
          go_wp2_with (go_at_call 61; refine (pieces_c _ s hs).mono ?_; rintro e w1 ⟨hx, hB1⟩; rcases hx with ⟨ps', v, h1, rfl, hP1, hl1⟩ | ⟨h1, -⟩; rotate_left; (rw [HT.out] at h1; exact absurd h1 (by simp)); rw [HT.out] at h1; obtain rfl := Option.some.inj h1; clear h1; obtain ⟨ao, cap, rfl⟩ := own_form hP1)
          refine (atom0_c _ _ ao _ ps (by exact hP1) (by omega)).mono ?_
          rintro e w2 ⟨cs, nx, ok, rfl, hF, hB2, hm⟩
          clear hF
          rw [HA.out] at hm
          obtain ⟨rfl, ⟨tv, hcs, hTm⟩, k, rfl, hdk, hk⟩ := hm
          rw [HNG.out] at hcs
          subst hcs
          obtain ⟨tq, tcap, rfl⟩ := own_form hTm
          have HDK := hid hdk
          clear hdk
          have hke : k = ps.length := (len_all HDK.out hk)
          have hkb : ((k : Int) == (ps.length : Int)) = true := (beq_all hke)
          clear hke
          obtain ⟨r0, r1, r2, r3, r4⟩ := ((hR0.below hB1).below hB2).c5
          have fR := ((hR0.below hB1).below hB2).frozen
          have hcw0 := ((hR0.below hB1).below hB2).lt
          go_wp2_with fail
          have hBw : Below w.heap.size w w2 := (hB0.trans (hB1.mono hz0)).trans (hB2.mono (Nat.le_trans hz0 hB1.size))
          refine bodyPost_ret (v := .tuple #[.agg #[.string a.w, .slice tq a.ts.length tcap, .int .i64 (a.pl : Nat), .int .i64 (a.bang : Nat), .bool false], .bool true]) (by simp [results, Tryz.results73, go_sem, r0, r1, r2, r3, r4, hcw0]) rfl ?_
          refine quest_good (cs := [.string a.w, .slice tq a.ts.length tcap, .int .i64 (a.pl : Nat), .int .i64 (a.bang : Nat), .bool false]) ?_ HQ.out ⟨_, by rw [HNG.out], ?_⟩
          · refine Below.alloc ?_ (by have := hBw.size; simp; omega) _
            repeat (refine Below.setCell ?_ (by simp only []; omega) _)
            exact hBw
          · have hTw := own_mono hTm (base' := w.heap.size) (Nat.le_trans hz0 hB1.size)
            have hne := own_ne hTw ((hR0.below hB1).below hB2) (by decide)
            exact (own_set (own_set (own_set (own_set (own_set hTw ⟨w.heap.size, 0, none⟩ _ hne) ⟨w.heap.size, 1, none⟩ _ hne) ⟨w.heap.size, 2, none⟩ _ hne) ⟨w.heap.size, 3, none⟩ _ hne) ⟨w.heap.size, 4, none⟩ _ hne).alloc _
        | cons p r =>
          have HQ := hid (show questT s = none by unfold questT; rw [hT]; exact questP_more hat)
          clear hT hat hng
          go_enter Tryz.func73, Tryz.ntmps73
          go_wp2_with (go_at_call 61; refine (pieces_c _ s hs).mono ?_; rintro e w1 ⟨hx, hB1⟩; rcases hx with ⟨ps', v, h1, rfl, hP1, hl1⟩ | ⟨h1, -⟩; rotate_left; (rw [HT.out] at h1; exact absurd h1 (by simp)); rw [HT.out] at h1; obtain rfl := Option.some.inj h1; clear h1; obtain ⟨ao, cap, rfl⟩ := own_form hP1)
          refine (atom0_c _ _ ao _ ps (by exact hP1) (by omega)).mono ?_
          rintro e w2 ⟨cs, nx, ok, rfl, hF, hB2, hm⟩
          clear hF
          rw [HA.out] at hm
          obtain ⟨rfl, ⟨tv, hcs, hTm⟩, k, rfl, hdk, hk⟩ := hm
          rw [HNG.out] at hcs
          subst hcs
          obtain ⟨tq, tcap, rfl⟩ := own_form hTm
          have HDK := hid hdk
          clear hdk
          have hke : k < ps.length := (len_more HDK.out)
          have hkb : ((k : Int) == (ps.length : Int)) = false := (beq_more hke)
          clear hke
          obtain ⟨r0, r1, r2, r3, r4⟩ := ((hR0.below hB1).below hB2).c5
          have fR := ((hR0.below hB1).below hB2).frozen
          have hcw0 := ((hR0.below hB1).below hB2).lt
          go_wp2_with fail
          have hBw : Below w.heap.size w w2 := (hB0.trans (hB1.mono hz0)).trans (hB2.mono (Nat.le_trans hz0 hB1.size))
          refine bodyPost_ret (v := .tuple #[.agg #[.string a.w, .slice tq a.ts.length tcap, .int .i64 (a.pl : Nat), .int .i64 (a.bang : Nat), .bool false], .bool false]) (by simp [results, Tryz.results73, go_sem, r0, r1, r2, r3, r4, hcw0]) rfl ?_
          refine quest_fail (cs := [.string a.w, .slice tq a.ts.length tcap, .int .i64 (a.pl : Nat), .int .i64 (a.bang : Nat), .bool false]) ?_ HQ.out
          refine Below.alloc ?_ (by have := hBw.size; simp; omega) _
          repeat (refine Below.setCell ?_ (by simp only []; omega) _)
          exact hBw
      · have HNG := hid hng
        have HQ := hid (show questT s = none by unfold questT; rw [hT]; exact questP_neg hat hng)
        clear hT hat hng
        go_enter Tryz.func73, Tryz.ntmps73
        go_wp2_with (go_at_call 61; refine (pieces_c _ s hs).mono ?_; rintro e w1 ⟨hx, hB1⟩; rcases hx with ⟨ps', v, h1, rfl, hP1, hl1⟩ | ⟨h1, -⟩; rotate_left; (rw [HT.out] at h1; exact absurd h1 (by simp)); rw [HT.out] at h1; obtain rfl := Option.some.inj h1; clear h1; obtain ⟨ao, cap, rfl⟩ := own_form hP1)
        refine (atom0_c _ _ ao _ ps (by exact hP1) (by omega)).mono ?_
        rintro e w2 ⟨cs, nx, ok, rfl, hF, hB2, hm⟩
        clear hF
        rw [HA.out] at hm
        obtain ⟨rfl, ⟨tv, hcs, hTm⟩, k, rfl, hdk, hk⟩ := hm
        rw [HNG.out] at hcs
        subst hcs
        obtain ⟨tq, tcap, rfl⟩ := own_form hTm
        have HDK := hid hdk
        clear hdk
        obtain ⟨r0, r1, r2, r3, r4⟩ := ((hR0.below hB1).below hB2).c5
        have fR := ((hR0.below hB1).below hB2).frozen
        have hcw0 := ((hR0.below hB1).below hB2).lt
        go_wp2_with fail
        have hBw : Below w.heap.size w w2 := (hB0.trans (hB1.mono hz0)).trans (hB2.mono (Nat.le_trans hz0 hB1.size))
        refine bodyPost_ret (v := .tuple #[.agg #[.string a.w, .slice tq a.ts.length tcap, .int .i64 (a.pl : Nat), .int .i64 (a.bang : Nat), .bool true], .bool false]) (by simp [results, Tryz.results73, go_sem, r0, r1, r2, r3, r4, hcw0]) rfl ?_
        refine quest_fail (cs := [.string a.w, .slice tq a.ts.length tcap, .int .i64 (a.pl : Nat), .int .i64 (a.bang : Nat), .bool true]) ?_ HQ.out
        refine Below.alloc ?_ (by have := hBw.size; simp; omega) _
        repeat (refine Below.setCell ?_ (by simp only []; omega) _)
        exact hBw

set_option maxHeartbeats 1000000 in
theorem form_q (w : World) (s : ByteArray) (hs : s.size ≤ 3000) : Calls Tryz.prog 63 #[.string s, .bool true] w fun e w' => e = .returned (.bool (qOk s s.data.toList)) ∧ Below w.heap.size w w' := by
  have hq := question_same s
  cases ht : questT s with
  | none =>
    rw [ht] at hq
    simp only [] at hq
    have HQ := hid ht
    have HP := hid hq
    clear ht hq
    go_enter Tryz.func63, Tryz.ntmps63
    go_wp2_with (go_at_call 73; refine (question_c _ s hs).mono ?_; rintro e w1 ⟨cs, ok, rfl, hF, hB1, hm⟩; obtain ⟨nm, tq, tl, tcap, pl, bg, ng, rfl⟩ := hF; rw [HQ.out] at hm; simp only [] at hm; subst hm)
    go_ret
    rw [HP.out]
    exact ⟨rfl, hB1.alloc hB1.size _⟩
  | some a =>
    rw [ht] at hq
    have HQ := hid ht
    have HP := hid hq.1
    clear ht hq
    go_enter Tryz.func63, Tryz.ntmps63
    go_wp2_with (go_at_call 73; refine (question_c _ s hs).mono ?_; rintro e w1 ⟨cs, ok, rfl, hF, hB1, hm⟩; obtain ⟨nm, tq, tl, tcap, pl, bg, ng, rfl⟩ := hF; rw [HQ.out] at hm; obtain ⟨rfl, -⟩ := hm)
    go_ret
    rw [HP.out]
    exact ⟨rfl, hB1.alloc hB1.size _⟩

set_option maxHeartbeats 4000000 in
set_option maxRecDepth 100000 in
theorem wrong_q (w : World) (hE : EndsIs w) (hw : 0 < w.heap.size) (s : ByteArray) (hs : s.size ≤ 2000) : Calls Tryz.prog 29 #[.string s, .bool true] w fun e w' => e = .returned (.int .i64 (wrongQ s.data.toList : Nat)) ∧ Below w.heap.size w w' := by
  have hsl : s.data.toList.length = s.size := by simp
  go_enter Tryz.func29, Tryz.ntmps29
  go_wp2
  go_loopw [5] (fun iv wr => ∃ (i : Nat), iv = .int .i64 i ∧ i ≤ s.size ∧ Hid (wrongGoQ s.data.toList (s.size - i) i = wrongQ s.data.toList) ∧ Below w.heap.size w wr) (fun iv _ => s.size - (intOf iv).toNat)
  case atStart => exact ⟨0, by go_num, by omega, by unfold wrongQ; rw [hsl]; rfl, Below.refl _ _⟩
  case round =>
    obtain ⟨i, rfl, hi, HX, hB⟩ := hrel
    by_cases hlt : i < s.size
    · have HW := hid (show wrongGoQ s.data.toList (s.size - i) i = if mayQ (s.data.toList.take (i + 1)) = true then wrongGoQ s.data.toList (s.size - (i + 1)) (i + 1) else i by
        rw [show s.size - i = (s.size - (i + 1)) + 1 by omega, wrongGoQ])
      go_wp2_with fail
      go_loopw [6, 7] (fun ov kv wq => ∃ (k : Nat), kv = .int .i64 k ∧ k ≤ 9 ∧ ov = .bool ((endsP.take k).any fun e => formQ (s.data.toList.take (i + 1) ++ e)) ∧ Below w.heap.size w wq) (fun _ kv _ => 9 - (intOf kv).toNat)
      case atStart => exact ⟨0, by go_num, by omega, rfl, hB⟩
      case round =>
        clear hB
        obtain ⟨k, rfl, hk, rfl, hB⟩ := hrel
        cases hok : (endsP.take k).any fun e => formQ (s.data.toList.take (i + 1) ++ e)
        · by_cases hk9 : k < 9
          · have hE9 : k < endsP.length := hk9
            have hc := hE.below hB hw k hE9
            have hsz := hB.size
            have hex : s.extract 0 (i + 1) ++ bs endsP[k] = bs (s.data.toList.take (i + 1) ++ endsP[k]) := by
              have h1 := extract_bs s 0 (i + 1)
              rw [Nat.zero_add, List.drop_zero] at h1
              rw [h1, bs_app]
            have hle := ends_len endsP[k] (List.getElem_mem hE9)
            have hbl : (bs (s.data.toList.take (i + 1) ++ endsP[k])).size ≤ 3000 := by
              have hz : (bs (s.data.toList.take (i + 1) ++ endsP[k])).size = (s.data.toList.take (i + 1) ++ endsP[k]).length := rfl
              rw [hz, List.length_append, List.length_take, hsl]
              omega
            have HEX := hid hex
            have hFC := fun wx => form_q wx _ hbl
            have HN := hid (any_take (fun e => formQ (s.data.toList.take (i + 1) ++ e)) endsP k hE9)
            have hi1 : (i : Int) + 1 ≤ (s.size : Int) := by omega
            have hi0 : (0 : Int) ≤ (i : Int) + 1 := by omega
            have hi2 : i + 1 ≤ s.size := hlt
            have hwi := wrap_nat1 i (by omega)
            have hcl : ¬ 9223372036854775807 < i + 1 + (bs endsP[k]).size := by
              have hz2 : (bs endsP[k]).size = endsP[k].length := rfl
              omega
            have hk9i : (k : Int) < 9 := by omega
            have h0 : 0 < wr.heap.size := by omega
            generalize endsP[k] = ek at *
            clear hex
            go_upto_region 8 with fail
            go_region_with (go_at_call 63; rw [HEX.out]; refine (hFC _).mono ?_; rintro e w2 ⟨rfl, hB2⟩)
            all_goals go_wp2_with fail
            all_goals exact ⟨⟨k + 1, by go_num, by omega, by rw [HN.out, hok, Bool.false_or]; rfl, hB.drew.trans (hB2.mono hsz)⟩, by simp [intOf]; omega⟩
          · have HM := hid (show mayQ (s.data.toList.take (i + 1)) = false by
              have e9 : endsP.take k = endsP := List.take_of_length_le (by simp [endsP]; omega)
              rw [e9] at hok
              exact hok)
            have HF := hid (show wrongQ s.data.toList = i by rw [← HX.out, HW.out, HM.out]; simp)
            go_wp2_with fail
            go_ret
            rw [HF.out]
            exact ⟨rfl, hB⟩
        · have HM := hid (show mayQ (s.data.toList.take (i + 1)) = true from any_part _ _ _ hok)
          have HF := hid (show wrongGoQ s.data.toList (s.size - (i + 1)) (i + 1) = wrongQ s.data.toList by rw [← HX.out, HW.out, HM.out]; simp)
          by_cases hk9 : (k : Int) < 9
          · go_wp2_with fail
            exact ⟨⟨i + 1, by go_num, hlt, HF, hB⟩, by simp [intOf]; omega⟩
          · go_wp2_with fail
            exact ⟨⟨i + 1, by go_num, hlt, HF, hB⟩, by simp [intOf]; omega⟩
    · have HF := hid (show wrongQ s.data.toList = s.size by
        rw [← HX.out, show s.size - i = 0 by omega, wrongGoQ]; omega)
      go_wp2
      go_ret
      rw [HF.out]
      exact ⟨rfl, hB⟩


end Go.Proofs.YtpbfiffgcgnidaaGreatDoor

namespace Go.Proofs.YtpbfiffgcgnidaaGreatDoor
open Go.RowKit Go.WideMaps Go.Maps
attribute [local go_sem] drewN_alloc drewN_setCell

/-- Where an atom's first variable stands. -/
def gvar : List RT → Option Nat
  | [] => none
  | t :: r => if t.var = true then some t.pl else gvar r
theorem gvar_at (ts : List RT) (k : Nat) (h : k < ts.length) : gvar (ts.drop k) = if ts[k].var = true then some ts[k].pl else gvar (ts.drop (k + 1)) := by rw [List.drop_eq_getElem_cons h, gvar]
def GroundPost (w : World) (o : Option Nat) (e : Ending) (w' : World) : Prop := (match o with
  | none => e = .returned (.tuple #[.bool true, .int .i64 0])
  | some p => e = .returned (.tuple #[.bool false, .int .i64 (p : Nat)])) ∧ Below w.heap.size w w'

set_option maxHeartbeats 1000000 in
set_option maxRecDepth 100000 in
theorem ground_c (w : World) (base : Nat) (a : RA) (tq : Option Addr) (tcap : Nat) (b : Bool) (hT : w.ownsRow base 130 3 (.slice tq a.ts.length tcap) a.ts.length (a.ts.flatMap RT.cells)) (hn : a.ts.length ≤ 100) :
    Calls Tryz.prog 41 #[.agg #[.string a.w, .slice tq a.ts.length tcap, .int .i64 (a.pl : Nat), .int .i64 (a.bang : Nat), .bool b]] w fun e w' => GroundPost w (gvar a.ts) e w' := by
  have hBk := Blk.new w [.string a.w, .slice tq a.ts.length tcap, .int .i64 (a.pl : Nat), .int .i64 (a.bang : Nat), .bool b] 69
  have hB0 := below_alloc w (.cells #[.string a.w, .slice tq a.ts.length tcap, .int .i64 (a.pl : Nat), .int .i64 (a.bang : Nat), .bool b] 69)
  go_enter Tryz.func41, Tryz.ntmps41
  go_wp2_with fail
  go_loopw [4] (fun kv wr => ∃ (k : Nat), k ≤ a.ts.length ∧ kv = .int .i64 k ∧ Hid (gvar (a.ts.drop k) = gvar a.ts) ∧ Blk wr w.heap.size [.string a.w, .slice tq a.ts.length tcap, .int .i64 (a.pl : Nat), .int .i64 (a.bang : Nat), .bool b] 69 ∧ Below w.heap.size w wr) (fun kv _ => a.ts.length - (intOf kv).toNat)
  case atStart => exact ⟨0, by omega, rfl, rfl, hBk, hB0⟩
  case round =>
    clear hBk hB0
    obtain ⟨k, hk, rfl, HX, hC, hB⟩ := hrel
    have c1 : wr.cell? ⟨w.heap.size, 1, none⟩ = some (.slice tq a.ts.length tcap) := hC.cell 1
    have hcl := hC.lt
    by_cases hlt : k < a.ts.length
    · obtain ⟨g, rfl, hg, d0, d1, d2⟩ := rterm_at (own_below hT hB) k hlt
      have HST := hid (gvar_at a.ts k hlt)
      generalize a.ts[k] = t at *
      cases hv : t.var
      · rw [hv] at d1
        have HN := hid (show gvar (a.ts.drop (k + 1)) = gvar a.ts by rw [← HX.out, HST.out, hv]; rfl)
        clear hv HST HX
        go_wp2_with fail
        exact ⟨⟨k + 1, hlt, by go_num, HN, hC, hB⟩, by simp [intOf]; omega⟩
      · rw [hv] at d1
        have HN := hid (show gvar a.ts = some t.pl by rw [← HX.out, HST.out, hv]; rfl)
        clear hv HST HX
        go_wp2_with fail
        go_quiet (fail)
        go_wp2_with fail
        go_ret2
        unfold GroundPost
        rw [HN.out]
        exact ⟨rfl, below_draws hB _⟩
    · have hke : k = a.ts.length := by omega
      have HN := hid (show gvar a.ts = none by rw [← HX.out, hke, List.drop_length]; rfl)
      clear hke HX
      go_wp2_with fail
      go_ret2
      unfold GroundPost
      rw [HN.out]
      exact ⟨rfl, hB⟩

/-- What is wrong with a question's text. -/
def askE (cs : List RC) (s : ByteArray) : Nat × Nat :=
  if 2000 < s.size then (1, 0)
  else match questT s with
    | none => (2, wrongQ s.data.toList)
    | some a => if 0 ≤ arityC (atomsC cs) a.name ∧ arityC (atomsC cs) a.name ≠ ((a.ts.length : Nat) : Int) then (3, a.pl) else (0, 0)
def AskedPost (w : World) (cs : List RC) (s : ByteArray) (e : Ending) (w' : World) : Prop :=
  ∃ c5 : List Value, e = .returned (.tuple #[.agg c5.toArray, .int .i64 (askE cs s).1, .int .i64 (askE cs s).2]) ∧ Five c5 ∧ Below w.heap.size w w' ∧ ((askE cs s).1 = 0 → ∃ a, questT s = some a ∧ AtomIs w' w.heap.size a c5)
theorem asked_bad {w w' : World} {cs : List RC} {s : ByteArray} {a b : Nat} (h : askE cs s = (a, b)) (ha : a ≠ 0) (hB : Below w.heap.size w w') : AskedPost w cs s (.returned (.tuple #[.agg zRA.toArray, .int .i64 (a : Nat), .int .i64 (b : Nat)])) w' := by
  refine ⟨zRA, by rw [h], ⟨_, _, _, _, _, _, _, rfl⟩, hB, fun h0 => ?_⟩
  rw [h] at h0
  exact absurd h0 ha
theorem asked_ok {w w' : World} {cs : List RC} {s : ByteArray} {c5 : List Value} {a : RA} (h : askE cs s = (0, 0)) (hq : questT s = some a) (hA : AtomIs w' w.heap.size a c5) (hB : Below w.heap.size w w') : AskedPost w cs s (.returned (.tuple #[.agg c5.toArray, .int .i64 0, .int .i64 0])) w' :=
  ⟨c5, by rw [h]; rfl, hA.five, hB, fun _ => ⟨a, hq, hA⟩⟩

set_option maxHeartbeats 400000 in
set_option maxRecDepth 100000 in
theorem asked_long (w : World) (bb : Nat) (cs : List RC) (s : ByteArray) (hs : s.size ≤ maxLen) (h : 2000 < s.size) :
    Calls Tryz.prog 40 #[.pointer (some ⟨bb, 0, none⟩), .string s] w fun e w' => AskedPost w cs s e w' := by
  have HE := hid (show askE cs s = (1, 0) by simp [askE, h])
  have hs' := hs
  unfold maxLen at hs'
  have hq : (2000 : Int) < (s.size : Int) := by omega
  have hR0 := Blk.new w zRA 69
  go_enter Tryz.func40, Tryz.ntmps40
  go_wp2
  refine bodyPost_ret (v := .tuple #[.agg zRA.toArray, .int .i64 1, .int .i64 0]) (by simp [results, Tryz.results40, go_sem, zRA]) rfl ?_
  exact asked_bad HE.out (by decide) ((Below.refl _ w).alloc (Nat.le_refl _) _)

set_option maxHeartbeats 1000000 in
set_option maxRecDepth 100000 in
theorem asked_form (w : World) (hE : EndsIs w) (hw : 0 < w.heap.size) (bb : Nat) (cs : List RC) (s : ByteArray) (hs : s.size ≤ 2000) (hn : questT s = none) :
    Calls Tryz.prog 40 #[.pointer (some ⟨bb, 0, none⟩), .string s] w fun e w' => AskedPost w cs s e w' := by
  have HE := hid (show askE cs s = (2, wrongQ s.data.toList) by unfold askE; rw [if_neg (by omega), hn])
  have HN := hid hn
  have hq : ¬ ((2000 : Int) < (s.size : Int)) := by omega
  have hR0 := Blk.new w zRA 69
  have hB0 := below_alloc w (.cells zRA.toArray 69)
  have hz0 := hB0.size
  have hE0 := hE.below hB0 hw
  clear hn
  go_enter Tryz.func40, Tryz.ntmps40
  go_wp2_with (go_at_call 73; refine (question_c _ s (by omega)).mono ?_; rintro e w1 ⟨c5, ok, rfl, hF, hB1, hm⟩; obtain ⟨nm, tq, tl, tcap, pl, bg, ng, rfl⟩ := hF; rw [HN.out] at hm; simp only [] at hm; subst hm)
  have hw1 : 0 < w1.heap.size := Nat.lt_of_lt_of_le hw (Nat.le_trans hz0 hB1.size)
  have hE1 := hE0.below hB1 (by simp)
  refine (wrong_q _ (hE1.below (below_alloc w1 _) hw1) (by simp) s hs).mono ?_
  rintro e w2 ⟨rfl, hB2⟩
  have hBa := below_alloc w1 (.cells #[.string nm, .slice tq tl tcap, .int .i64 pl, .int .i64 bg, .bool ng] 69)
  have hR2 := ((hR0.below hB1).below hBa).below hB2
  obtain ⟨r0, r1, r2, r3, r4⟩ := hR2.c5
  have fR := hR2.frozen
  go_wp2_with fail
  refine bodyPost_ret (v := .tuple #[.agg zRA.toArray, .int .i64 2, .int .i64 (wrongQ s.data.toList : Nat)]) (by simp [results, Tryz.results40, go_sem, zRA, r0, r1, r2, r3, r4]) rfl ?_
  refine asked_bad HE.out (by decide) ?_
  repeat (refine Below.setCell ?_ (by simp only []; omega) _)
  exact (hB0.trans (hB1.mono hz0)).trans ((hBa.mono (Nat.le_trans hz0 hB1.size)).trans (hB2.mono (Nat.le_trans (Nat.le_trans hz0 hB1.size) hBa.size)))

end Go.Proofs.YtpbfiffgcgnidaaGreatDoor

namespace Go.Proofs.YtpbfiffgcgnidaaGreatDoor
open Go.RowKit Go.WideMaps Go.Maps
attribute [local go_sem] drewN_alloc drewN_setCell

theorem ClRow.drew {w : World} {base : Nat} {v : Value} {l : List RC} (h : ClRow w base v l) : ClRow w.drew base v l := h
set_option maxHeartbeats 4000000 in
set_option maxRecDepth 100000 in
theorem asked_atom (w : World) (base bb : Nat) (cs : List RC) (hI : RBaseIs w base bb cs) (hn : cs.length ≤ 40) (hb : ∀ c ∈ cs, c.body.length ≤ 4) (s : ByteArray) (hs : s.size ≤ 2000) (a : RA) (hq : questT s = some a) :
    Calls Tryz.prog 40 #[.pointer (some ⟨bb, 0, none⟩), .string s] w fun e w' => AskedPost w cs s e w' := by
  have HE0 := hid (show askE cs s = if 0 ≤ arityC (atomsC cs) a.name ∧ arityC (atomsC cs) a.name ≠ ((a.ts.length : Nat) : Int) then (3, a.pl) else (0, 0) by
    unfold askE
    rw [if_neg (by omega), hq])
  have HQ := hid hq
  have hql : ¬ ((2000 : Int) < (s.size : Int)) := by omega
  have hR0 := Blk.new w zRA 69
  have hB0 := below_alloc w (.cells zRA.toArray 69)
  have hz0 := hB0.size
  obtain ⟨v, hV, hL⟩ := hI
  obtain ⟨ao, cap, rfl⟩ := hL.form
  have hAR := fun wx hx => arity_r wx base ao cap cs hx hn hb a.name
  clear hq
  go_enter Tryz.func40, Tryz.ntmps40
  go_wp2_with (go_at_call 73; refine (question_c _ s (by omega)).mono ?_; rintro e w1 ⟨c5, ok, rfl, hF, hB1, hm⟩; clear hF; rw [HQ.out] at hm; obtain ⟨rfl, tv, rfl, hTm⟩ := hm; obtain ⟨tq, tcap, rfl⟩ := own_form hTm)
  have hz1 : w.heap.size ≤ w1.heap.size := Nat.le_trans hz0 hB1.size
  have hBw1 : Below w.heap.size w w1 := hB0.trans (hB1.mono hz0)
  have hBa := below_alloc w1 (.cells #[.string a.w, .slice tq a.ts.length tcap, .int .i64 (a.pl : Nat), .int .i64 (a.bang : Nat), .bool a.neg] 69)
  have hA1 := Blk.new w1 [.string a.w, .slice tq a.ts.length tcap, .int .i64 (a.pl : Nat), .int .i64 (a.bang : Nat), .bool a.neg] 69
  have hL2 := ((hL.below hB0).below hB1).below hBa
  have hV2 := ((hV.below hB0).below hB1).below hBa
  have v0 := hV2.cell 0
  simp at v0
  have hvl := hV2.lt
  have e0 := hA1.cell 0
  simp at e0
  have hR1 := (hR0.below hB1).below hBa
  have hT1 := own_below (own_mono hTm (base' := w.heap.size) hz0) hBa
  go_upto_region 7 with fail
  go_cut [10] from 26 to 45 (fun nv wx => nv = .int .i64 (arityC (atomsC cs) a.name) ∧ Below (w1.alloc (.cells #[.string a.w, .slice tq a.ts.length tcap, .int .i64 (a.pl : Nat), .int .i64 (a.bang : Nat), .bool a.neg] 69)).heap.size (w1.alloc (.cells #[.string a.w, .slice tq a.ts.length tcap, .int .i64 (a.pl : Nat), .int .i64 (a.bang : Nat), .bool a.neg] 69)) wx)
  case first =>
    go_region_with (go_at_call 31; refine (hAR _ (ClRow.drew hL2)).mono ?_; rintro e w3 ⟨rfl, hB3⟩)
    all_goals go_wp2_with fail
    all_goals go_meet
    all_goals exact ⟨rfl, (Below.refl _ _).drew.trans hB3⟩
  case rest =>
    obtain ⟨hnv, hBc⟩ := hcut
    obtain ⟨n, HNN⟩ : ∃ n, Hid (arityC (atomsC cs) a.name = n) := ⟨_, rfl⟩
    rw [HNN.out] at hnv HE0
    subst hnv
    obtain ⟨a0, a1, a2, a3, a4⟩ := (hA1.below hBc).c5
    have hR2 := hR1.below hBc
    obtain ⟨r0, r1, r2, r3, r4⟩ := hR2.c5
    have fR := hR2.frozen
    have hcw := (hA1.below hBc).lt
    have hcw0 := hR2.lt
    have hBw : Below w.heap.size w wc := hBw1.trans ((hBa.mono hz1).trans (hBc.mono (Nat.le_trans hz1 hBa.size)))
    have hTc := own_below hT1 hBc
    have hne := own_ne hTc hR2 (by decide)
    have hww : w.heap.size ≠ w1.heap.size := by have := hR0.below hB1 |>.lt; omega
    have hww2 : w1.heap.size ≠ w.heap.size := fun h => hww h.symm
    clear v0 e0 hV2 hL2 hL hV hAR
    by_cases h0 : 0 ≤ n
    · by_cases hnl : n = ((a.ts.length : Nat) : Int)
      · have HE := hid (show askE cs s = (0, 0) by rw [HE0.out, if_neg (by omega)])
        have hnb : (n != ((a.ts.length : Nat) : Int)) = false := by rw [hnl]; simp
        subst hnl
        clear HE0 HNN
        go_wp2_with fail
        refine bodyPost_ret (v := .tuple #[.agg #[.string a.w, .slice tq a.ts.length tcap, .int .i64 (a.pl : Nat), .int .i64 (a.bang : Nat), .bool a.neg], .int .i64 0, .int .i64 0]) (by simp [results, Tryz.results40, go_sem, r0, r1, r2, r3, r4]) rfl ?_
        refine asked_ok (c5 := [.string a.w, .slice tq a.ts.length tcap, .int .i64 (a.pl : Nat), .int .i64 (a.bang : Nat), .bool a.neg]) HE.out HQ.out ⟨_, rfl, ?_⟩ ?_
        · exact own_set (own_set (own_set (own_set (own_set hTc ⟨w.heap.size, 0, none⟩ _ hne) ⟨w.heap.size, 1, none⟩ _ hne) ⟨w.heap.size, 2, none⟩ _ hne) ⟨w.heap.size, 3, none⟩ _ hne) ⟨w.heap.size, 4, none⟩ _ hne
        · repeat (refine Below.setCell ?_ (by simp only []; omega) _)
          exact hBw
      · have HE := hid (show askE cs s = (3, a.pl) by rw [HE0.out, if_pos ⟨h0, hnl⟩])
        have hnb : (n != ((a.ts.length : Nat) : Int)) = true := by simpa using hnl
        clear HE0
        go_wp2_with fail
        go_region
        all_goals go_wp2_with fail
        all_goals
          refine bodyPost_ret (v := .tuple #[.agg zRA.toArray, .int .i64 3, .int .i64 (a.pl : Nat)]) (by simp [results, Tryz.results40, go_sem, zRA, r0, r1, r2, r3, r4]) rfl ?_
          refine asked_bad HE.out (by decide) ?_
          refine Below.drew ?_
          repeat (refine Below.setCell ?_ (by simp only []; omega) _)
          exact hBw
    · have HE := hid (show askE cs s = (0, 0) by rw [HE0.out, if_neg (by omega)])
      have h0d : decide (0 ≤ n) = false := decide_eq_false h0
      clear HE0
      go_wp2_with fail
      refine bodyPost_ret (v := .tuple #[.agg #[.string a.w, .slice tq a.ts.length tcap, .int .i64 (a.pl : Nat), .int .i64 (a.bang : Nat), .bool a.neg], .int .i64 0, .int .i64 0]) (by simp [results, Tryz.results40, go_sem, r0, r1, r2, r3, r4]) rfl ?_
      refine asked_ok (c5 := [.string a.w, .slice tq a.ts.length tcap, .int .i64 (a.pl : Nat), .int .i64 (a.bang : Nat), .bool a.neg]) HE.out HQ.out ⟨_, rfl, ?_⟩ ?_
      · exact own_set (own_set (own_set (own_set (own_set hTc ⟨w.heap.size, 0, none⟩ _ hne) ⟨w.heap.size, 1, none⟩ _ hne) ⟨w.heap.size, 2, none⟩ _ hne) ⟨w.heap.size, 3, none⟩ _ hne) ⟨w.heap.size, 4, none⟩ _ hne
      · repeat (refine Below.setCell ?_ (by simp only []; omega) _)
        exact hBw

theorem asked_c (w : World) (hE : EndsIs w) (hw : 0 < w.heap.size) (base bb : Nat) (cs : List RC) (hI : RBaseIs w base bb cs) (hn : cs.length ≤ 40) (hb : ∀ c ∈ cs, c.body.length ≤ 4) (s : ByteArray) (hs : s.size ≤ maxLen) :
    Calls Tryz.prog 40 #[.pointer (some ⟨bb, 0, none⟩), .string s] w fun e w' => AskedPost w cs s e w' := by
  by_cases h : 2000 < s.size
  · exact asked_long w bb cs s hs h
  · cases hq : questT s with
    | none => exact asked_form w hE hw bb cs s (by omega) hq
    | some a => exact asked_atom w base bb cs hI hn hb s (by omega) a hq

end Go.Proofs.YtpbfiffgcgnidaaGreatDoor
