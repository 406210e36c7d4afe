/-
  OUR OWN. The document's answer: the clauses of a text.
-/
import Derived.Test.YtpbfiffgcgnidaaGreatDoorXRef10
namespace Go.Proofs.YtpbfiffgcgnidaaGreatDoor
open Go.RowKit Go.WideMaps Go.Maps
attribute [local go_sem] drewN_alloc drewN_setCell

theorem infoRClause : (Tryz.prog.info? 71).map (fun i => (i.zero, i.size, i.bytes)) = some (some (.agg #[.string ⟨#[]⟩, .slice none 0 0, .int .i64 0, .int .i64 0, .bool false, .slice none 0 0]), 6, 88) := by kernel_rfl
theorem AtomIs.keptC {w w' : World} {base own : Nat} {a : RA} {cs : List Value} {v : Value} {n : Nat} {xs : List Value} (h : AtomIs w base a cs) (hg : w.grownBy w' v.ownBlock) (ho : w.ownsRow own 71 6 v n xs) : AtomIs w' base a cs := by
  obtain ⟨tv, hc, hl⟩ := h
  exact ⟨tv, hc, hl.kept hg (own_ne2 hl ho (by decide))⟩
theorem ClauseCs.kept {w w' : World} {base own : Nat} {c : RC} {cs : List Value} {v : Value} {n : Nat} {xs : List Value} (h : ClauseCs w base c cs) (hg : w.grownBy w' v.ownBlock) (ho : w.ownsRow own 71 6 v n xs) : ClauseCs w' base c cs := by
  obtain ⟨hc, bv, e, hA, rows, hbo, hl, hr⟩ := h
  exact ⟨hc, bv, e, hA.keptC hg ho, rows, hbo.kept hg (own_ne2 hbo ho (by decide)), hl, fun i a cs h1 h2 => (hr i a cs h1 h2).keptC hg ho⟩
theorem ClauseCs.mono {w : World} {base base' : Nat} {c : RC} {cs : List Value} (h : ClauseCs w base c cs) (hb : base' ≤ base) : ClauseCs w base' c cs := by
  obtain ⟨hc, bv, e, hA, rows, hbo, hl, hr⟩ := h
  exact ⟨hc, bv, e, hA.mono hb, rows, own_mono hbo hb, hl, fun i a cs h1 h2 => (hr i a cs h1 h2).mono hb⟩
theorem ClRow.mono {w : World} {base base' : Nat} {v : Value} {l : List RC} (h : ClRow w base v l) (hb : base' ≤ base) : ClRow w base' v l := by
  obtain ⟨rows, ho, hl, hr⟩ := h
  exact ⟨rows, own_mono ho hb, hl, fun i c cs h1 h2 => (hr i c cs h1 h2).mono hb⟩
theorem ClRow.nil (w : World) (base : Nat) : ClRow w base (.slice none 0 0) [] := ⟨[], World.ownsRow_nil _ _ _ _, rfl, by simp⟩
theorem ClRow.form {w : World} {base : Nat} {v : Value} {l : List RC} (h : ClRow w base v l) : ∃ ao cap, v = .slice ao l.length cap := by
  obtain ⟨rows, ho, hl, hr⟩ := h
  exact own_form ho
/-- One clause more. -/
theorem ClRow.more {w w' : World} {base : Nat} {v v' : Value} {l : List RC} {c : RC} {cs : List Value} {rows : List (List Value)} (hr : ∀ (i : Nat) (c : RC) (cs : List Value), l[i]? = some c → rows[i]? = some cs → ClauseCs w base c cs) (hl : rows.length = l.length)
    (ho : w.ownsRow base 71 6 v l.length rows.flatten) (hc : ClauseCs w base c cs)
    (ho' : w'.ownsRow base 71 6 v' (l.length + 1) (rows.flatten ++ cs)) (hg : w.grownBy w' v.ownBlock) : ClRow w' base v' (l ++ [c]) := by
  refine ⟨rows ++ [cs], by simpa using ho', by simp [hl], ?_⟩
  intro i d' cs' h1 h2
  by_cases hi : i < l.length
  · rw [List.getElem?_append_left hi] at h1
    rw [List.getElem?_append_left (by omega)] at h2
    exact (hr i d' cs' h1 h2).kept hg ho
  · rw [List.getElem?_append_right (by omega)] at h1
    rw [List.getElem?_append_right (by omega), hl] at h2
    cases hk : i - l.length with
    | zero => rw [hk] at h1 h2; simp at h1 h2; subst h1; subst h2; exact hc.kept hg ho
    | succ k => rw [hk] at h1; simp at h1

theorem PP_at (ps : List Pc) (acc : List RC) (q : Nat) (hq : q < ps.length) : PP acc (ps.drop q) = (clauseP (ps.drop q)).bind fun x => if acc.length = 40 then none else PP (acc ++ [x.1]) x.2 := by
  rw [List.drop_eq_getElem_cons hq, PP_cons]
theorem PP_end (ps : List Pc) (acc : List RC) (q : Nat) (hq : ¬ q < ps.length) : PP acc (ps.drop q) = some acc := by
  rw [List.drop_eq_nil_of_le (by omega)]; rfl
def ProgPost (w : World) (s : ByteArray) (e : Ending) (w' : World) : Prop :=
  (match (T s.size s.data.toList).bind (PP []) with
    | none => e = .returned (.tuple #[.slice none 0 0, .bool false])
    | some cs => ∃ v, e = .returned (.tuple #[v, .bool true]) ∧ ClRow w' w.heap.size v cs) ∧ Below w.heap.size w w'
theorem prog_no {w w' : World} {s : ByteArray} (h : (T s.size s.data.toList).bind (PP []) = none) (hB : Below w.heap.size w w') : ProgPost w s (.returned (.tuple #[.slice none 0 0, .bool false])) w' := ⟨by rw [h], hB⟩
theorem prog_yes {w w' : World} {s : ByteArray} {cs : List RC} {v : Value} (h : (T s.size s.data.toList).bind (PP []) = some cs) (hR : ClRow w' w.heap.size v cs) (hB : Below w.heap.size w w') : ProgPost w s (.returned (.tuple #[v, .bool true])) w' := ⟨by rw [h]; exact ⟨v, rfl, hR⟩, hB⟩

set_option maxHeartbeats 4000000 in
set_option maxRecDepth 100000 in
theorem program_c (w : World) (s : ByteArray) (hs : s.size ≤ 3000) : Calls Tryz.prog 28 #[.string s] w fun e w' => ProgPost w s e w' := by
  obtain ⟨i1, hi1, hy0, hy1, hy2⟩ := info_parts infoRClause
  cases hT : T s.size s.data.toList with
  | none =>
    have HT := hid hT
    have HN := hid (show (T s.size s.data.toList).bind (PP []) = none by rw [hT]; rfl)
    clear hT
    go_enter Tryz.func28, Tryz.ntmps28
    go_wp2_with (go_at_call 61; refine (pieces_c _ s hs).mono ?_; rintro e w1 ⟨hx, hB1⟩; rcases hx with ⟨ps, v, h1, -⟩ | ⟨-, rfl⟩; (rw [HT.out] at h1; exact absurd h1 (by simp)))
    go_ret2
    exact prog_no HN.out hB1
  | some ps =>
    have HT := hid hT
    have HE := hid (show (T s.size s.data.toList).bind (PP []) = PP [] ps by rw [hT]; rfl)
    clear hT
    go_enter Tryz.func28, Tryz.ntmps28
    go_wp2_with (go_at_call 61; refine (pieces_c _ s hs).mono ?_; rintro e w1 ⟨hx, hB1⟩; rcases hx with ⟨ps', v, h1, rfl, hP1, hl1⟩ | ⟨h1, -⟩; rotate_left; (rw [HT.out] at h1; exact absurd h1 (by simp)); rw [HT.out] at h1; obtain rfl := Option.some.inj h1; clear h1; obtain ⟨ao, cap, rfl⟩ := own_form hP1)
    have hPs : Pieces w1 w.heap.size ao cap ps := hP1
    have hn : ps.length ≤ 3000 := by omega
    have hws := hB1.size
    clear hP1
    go_loopw [6, 7] (fun v iv wr => ∃ (q : Nat) (acc : List RC), iv = .int .i64 q ∧ q ≤ ps.length ∧ acc.length ≤ 40 ∧ Hid (PP acc (ps.drop q) = PP [] ps) ∧ ClRow wr w1.heap.size v acc ∧ Below w1.heap.size w1 wr) (fun _ iv _ => ps.length - (intOf iv).toNat)
    case atStart => exact ⟨0, [], by go_num, by omega, by simp, rfl, ClRow.nil _ _, Below.refl _ _⟩
    case round =>
      obtain ⟨q, acc, rfl, hq, ha, HX, hR, hB⟩ := hrel
      obtain ⟨vo, vcap, rfl⟩ := hR.form
      have hPr := hPs.below hB
      have hsz := hB.size
      by_cases hql : q < ps.length
      · have HA := hid (PP_at ps acc q hql)
        cases hcl : clauseP (ps.drop q) with
        | none =>
          have HCL := hid hcl
          have HN := hid (show (T s.size s.data.toList).bind (PP []) = none by rw [HE.out, ← HX.out, HA.out, hcl]; rfl)
          clear hcl HA HX HE
          go_wp2_with (go_at_call 62; refine (clause_c _ w.heap.size ao cap ps (by exact hPr) hn q (by omega)).mono ?_; rintro e w2 ⟨cs, nx, ok, rfl, hS, hB2, hm⟩; obtain ⟨nm, tq, tl, tcap, pl, bg, ng, bo, bl, bcap, rfl⟩ := hS; rw [HCL.out] at hm; simp only [] at hm; subst hm)
          go_ret2
          have hBw : Below w.heap.size w w2 := (hB1.trans (hB.mono hws)).trans (hB2.mono (by omega))
          exact prog_no HN.out (hBw.alloc hBw.size _)
        | some x =>
          obtain ⟨c, r⟩ := x
          have HCL := hid hcl
          have HL := hid (clauseP_len _ _ _ hcl)
          by_cases h40 : acc.length = 40
          · have HN := hid (show (T s.size s.data.toList).bind (PP []) = none by rw [HE.out, ← HX.out, HA.out, hcl, Option.bind_some, if_pos h40])
            have h40i : (acc.length : Int) = 40 := by omega
            have h40b : ((acc.length : Int) == 40) = true := by rw [h40i]; rfl
            clear hcl HA HX HE h40 h40i
            go_wp2_with (go_at_call 62; refine (clause_c _ w.heap.size ao cap ps (by exact hPr) hn q (by omega)).mono ?_; rintro e w2 ⟨cs, nx, ok, rfl, hS, hB2, hm⟩; obtain ⟨nm, tq, tl, tcap, pl, bg, ng, bo, bl, bcap, rfl⟩ := hS; rw [HCL.out] at hm; obtain ⟨rfl, -⟩ := hm)
            go_ret2
            have hBw : Below w.heap.size w w2 := (hB1.trans (hB.mono hws)).trans (hB2.mono (by omega))
            exact prog_no HN.out (hBw.alloc hBw.size _)
          · have HN := hid (show PP acc (ps.drop q) = PP (acc ++ [c]) r by rw [HA.out, hcl, Option.bind_some, if_neg h40])
            have h40i : ¬ (acc.length : Int) = 40 := by omega
            have h40b : ((acc.length : Int) == 40) = false := by simpa using h40i
            have ha40 : acc.length < 40 := by omega
            clear hcl HA h40
            obtain ⟨rows, ho, hl, hr⟩ := hR
            go_wp2_with (first
              | (go_at_call 62; refine (clause_c _ w.heap.size ao cap ps (by exact hPr) hn q (by omega)).mono ?_; rintro e w2 ⟨cs, nx, ok, rfl, hS, hB2, hm⟩; obtain ⟨nm, tq, tl, tcap, pl, bg, ng, bo, bl, bcap, rfl⟩ := hS; rw [HCL.out] at hm; obtain ⟨rfl, hCc, k, rfl, hdk, hk⟩ := hm; have HDK := hid hdk; clear hdk; have ho2 := own_below ho hB2)
              | (at_builtin; refine wpList_append_ownS _ rfl _ _ 60 rfl w1.heap.size 71 i1 _ 6 88 Tryz.underlying60 hi1 hy0 hy1 hy2 rfl (by decide) _ acc.length rows.flatten rfl ((ho2.alloc _).alloc _) ⟨w2.heap.size + 1, 0, none⟩ 1 [.string nm, .slice tq tl tcap, .int .i64 pl, .int .i64 bg, .bool ng, .slice bo bl bcap] rfl rfl (new_cells2 _ _ _ _) (by intro u hu; simp at hu; rcases hu with rfl | rfl | rfl | rfl | rfl | rfl <;> rfl) (by unfold maxLen; omega) (by omega) (by have := hB2.size; simp; omega) ?_; intro g4 cap4 w4 ho4 hg4))
            have hz2 := hB2.size
            have h2 : ∀ o2 o3, Below w2.heap.size w2 ((w2.alloc o2).alloc o3) := fun o2 o3 => ((Below.refl _ w2).alloc (Nat.le_refl _) o2).alloc (by simp) o3
            have hmore := ClRow.more (w := (w2.alloc _).alloc _) (w' := w4) (base := w1.heap.size) (l := acc) (c := c) (fun i a cs h1 h3 => ((hr i a cs h1 h3).below hB2).below (h2 _ _)) hl ((ho2.alloc _).alloc _) ((hCc.mono hsz).below (h2 _ _)) ho4 hg4
            have hB4 : Below w1.heap.size w1 w4 := ((hB.trans (hB2.mono hsz)).trans ((h2 _ _).mono (by omega))).grown hg4 (by simp; omega) (own_base ho2)
            have hlen := HL.out
            rw [HDK.out] at hlen
            simp only [List.length_drop] at hlen
            exact ⟨⟨k, acc ++ [c], by go_num, hk, by simp; omega, by rw [← HX.out, HN.out, HDK.out]; rfl, hmore, hB4⟩, by simp [intOf]; omega⟩
      · have HN := hid (show (T s.size s.data.toList).bind (PP []) = some acc by rw [HE.out, ← HX.out, PP_end ps acc q hql])
        go_wp2
        go_ret2
        exact prog_yes HN.out (hR.mono hws) (hB1.trans (hB.mono hws))

end Go.Proofs.YtpbfiffgcgnidaaGreatDoor

namespace Go.Proofs.YtpbfiffgcgnidaaGreatDoor
open Go.RowKit Go.WideMaps Go.Maps
attribute [local go_sem] drewN_alloc drewN_setCell

set_option maxHeartbeats 1000000 in
theorem form_c (w : World) (s : ByteArray) (hs : s.size ≤ 3000) : Calls Tryz.prog 63 #[.string s, .bool false] w fun e w' => e = .returned (.bool (programR s).ok) ∧ Below w.heap.size w w' := by
  have hp := program_same s
  cases hq : (T s.size s.data.toList).bind (PP []) with
  | none =>
    rw [hq] at hp
    simp only [] at hp
    have HQ := hid hq
    have HP := hid hp
    clear hq hp
    go_enter Tryz.func63, Tryz.ntmps63
    go_wp2_with (go_at_call 28; refine (program_c _ s hs).mono ?_; rintro e w1 ⟨hx, hB1⟩; rw [HQ.out] at hx; simp only [] at hx; subst hx)
    go_ret
    rw [HP.out]
    exact ⟨rfl, hB1⟩
  | some cs =>
    rw [hq] at hp
    simp only [] at hp
    have HQ := hid hq
    have HP := hid hp.1
    clear hq hp
    go_enter Tryz.func63, Tryz.ntmps63
    go_wp2_with (go_at_call 28; refine (program_c _ s hs).mono ?_; rintro e w1 ⟨hx, hB1⟩; rw [HQ.out] at hx; obtain ⟨v, rfl, -⟩ := hx)
    go_ret
    rw [HP.out]
    exact ⟨rfl, hB1⟩

/-- The document's nine ends lie in the first block. -/
def EndsIs (w : World) : Prop := ∀ (k : Nat) (hk : k < endsP.length), w.cell? ⟨0, k, none⟩ = some (.string (bs endsP[k]))
theorem EndsIs.below {w w' : World} {n : Nat} (h : EndsIs w) (hb : Below n w w') (hn : 0 < n) : EndsIs w' := fun k hk => by rw [hb.cell (p := ⟨0, k, none⟩) hn]; exact h k hk
theorem ends_len (e : List UInt8) (h : e ∈ endsP) : e.length ≤ 3 := by
  simp only [endsP, List.mem_cons, List.not_mem_nil, or_false] at h
  rcases h with rfl | rfl | rfl | rfl | rfl | rfl | rfl | rfl | rfl <;> decide
theorem any_take (p : List UInt8 → Bool) (l : List (List UInt8)) (k : Nat) (hk : k < l.length) : (l.take (k + 1)).any p = ((l.take k).any p || p l[k]) := by
  rw [List.take_succ_eq_append_getElem hk, List.any_append, List.any_cons, List.any_nil, Bool.or_false]
theorem any_part (p : List UInt8 → Bool) (l : List (List UInt8)) (k : Nat) (h : (l.take k).any p = true) : l.any p = true := by
  rw [List.any_eq_true] at h ⊢
  obtain ⟨x, hx, hp⟩ := h
  exact ⟨x, List.mem_of_mem_take hx, hp⟩
theorem bs_app (a b : List UInt8) : bs a ++ bs b = bs (a ++ b) := by
  apply ByteArray.ext
  simp [bs]

set_option maxHeartbeats 4000000 in
set_option maxRecDepth 100000 in
theorem wrong_c (w : World) (hE : EndsIs w) (hw : 0 < w.heap.size) (s : ByteArray) (hs : s.size ≤ 2000) : Calls Tryz.prog 29 #[.string s, .bool false] w fun e w' => e = .returned (.int .i64 (wrongR s.data.toList : Nat)) ∧ Below w.heap.size w w' := by
  have hsl : s.data.toList.length = s.size := by simp
  go_enter Tryz.func29, Tryz.ntmps29
  go_wp2
  go_loopw [5] (fun iv wr => ∃ (i : Nat), iv = .int .i64 i ∧ i ≤ s.size ∧ Hid (wrongGo s.data.toList (s.size - i) i = wrongR s.data.toList) ∧ Below w.heap.size w wr) (fun iv _ => s.size - (intOf iv).toNat)
  case atStart => exact ⟨0, by go_num, by omega, by unfold wrongR; rw [hsl]; rfl, Below.refl _ _⟩
  case round =>
    obtain ⟨i, rfl, hi, HX, hB⟩ := hrel
    by_cases hlt : i < s.size
    · have HW := hid (show wrongGo s.data.toList (s.size - i) i = if mayB (s.data.toList.take (i + 1)) = true then wrongGo s.data.toList (s.size - (i + 1)) (i + 1) else i by
        rw [show s.size - i = (s.size - (i + 1)) + 1 by omega, wrongGo])
      go_wp2_with fail
      go_loopw [6, 7] (fun ov kv wq => ∃ (k : Nat), kv = .int .i64 k ∧ k ≤ 9 ∧ ov = .bool ((endsP.take k).any fun e => formB (s.data.toList.take (i + 1) ++ e)) ∧ Below w.heap.size w wq) (fun _ kv _ => 9 - (intOf kv).toNat)
      case atStart => exact ⟨0, by go_num, by omega, rfl, hB⟩
      case round =>
        clear hB
        obtain ⟨k, rfl, hk, rfl, hB⟩ := hrel
        cases hok : (endsP.take k).any fun e => formB (s.data.toList.take (i + 1) ++ e)
        · by_cases hk9 : k < 9
          · have hE9 : k < endsP.length := hk9
            have hc := hE.below hB hw k hE9
            have hsz := hB.size
            have hex : s.extract 0 (i + 1) ++ bs endsP[k] = bs (s.data.toList.take (i + 1) ++ endsP[k]) := by
              have h1 := extract_bs s 0 (i + 1)
              rw [Nat.zero_add, List.drop_zero] at h1
              rw [h1, bs_app]
            have hle := ends_len endsP[k] (List.getElem_mem hE9)
            have hbl : (bs (s.data.toList.take (i + 1) ++ endsP[k])).size ≤ 3000 := by
              have hz : (bs (s.data.toList.take (i + 1) ++ endsP[k])).size = (s.data.toList.take (i + 1) ++ endsP[k]).length := rfl
              rw [hz, List.length_append, List.length_take, hsl]
              omega
            have HEX := hid hex
            have hFC := fun wx => form_c wx _ hbl
            have HN := hid (any_take (fun e => formB (s.data.toList.take (i + 1) ++ e)) endsP k hE9)
            have hi1 : (i : Int) + 1 ≤ (s.size : Int) := by omega
            have hi0 : (0 : Int) ≤ (i : Int) + 1 := by omega
            have hi2 : i + 1 ≤ s.size := hlt
            have hwi := wrap_nat1 i (by omega)
            have hcl : ¬ 9223372036854775807 < i + 1 + (bs endsP[k]).size := by
              have hz2 : (bs endsP[k]).size = endsP[k].length := rfl
              omega
            have hk9i : (k : Int) < 9 := by omega
            have h0 : 0 < wr.heap.size := by omega
            generalize endsP[k] = ek at *
            clear hex
            go_upto_region 8 with fail
            go_region_with (go_at_call 63; rw [HEX.out]; refine (hFC _).mono ?_; rintro e w2 ⟨rfl, hB2⟩)
            all_goals go_wp2_with fail
            all_goals exact ⟨⟨k + 1, by go_num, by omega, by rw [HN.out, hok, Bool.false_or]; rfl, hB.drew.trans (hB2.mono hsz)⟩, by simp [intOf]; omega⟩
          · have HM := hid (show mayB (s.data.toList.take (i + 1)) = false by
              have e9 : endsP.take k = endsP := List.take_of_length_le (by simp [endsP]; omega)
              rw [e9] at hok
              exact hok)
            have HF := hid (show wrongR s.data.toList = i by rw [← HX.out, HW.out, HM.out]; simp)
            go_wp2_with fail
            go_ret
            rw [HF.out]
            exact ⟨rfl, hB⟩
        · have HM := hid (show mayB (s.data.toList.take (i + 1)) = true from any_part _ _ _ hok)
          have HF := hid (show wrongGo s.data.toList (s.size - (i + 1)) (i + 1) = wrongR s.data.toList by rw [← HX.out, HW.out, HM.out]; simp)
          by_cases hk9 : (k : Int) < 9
          · go_wp2_with fail
            exact ⟨⟨i + 1, by go_num, hlt, HF, hB⟩, by simp [intOf]; omega⟩
          · go_wp2_with fail
            exact ⟨⟨i + 1, by go_num, hlt, HF, hB⟩, by simp [intOf]; omega⟩
    · have HF := hid (show wrongR s.data.toList = s.size by
        rw [← HX.out, show s.size - i = 0 by omega, wrongGo]; omega)
      go_wp2
      go_ret
      rw [HF.out]
      exact ⟨rfl, hB⟩

end Go.Proofs.YtpbfiffgcgnidaaGreatDoor
