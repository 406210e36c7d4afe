/-
  OUR OWN. The document's answer: its small functions.
-/
import Derived.Test.YtpbfiffgcgnidaaGreatDoorXK2
namespace Go.Proofs.YtpbfiffgcgnidaaGreatDoor
open Go.RowKit Go.WideMaps Go.Maps
attribute [local go_sem] drewN_alloc drewN_setCell

set_option maxHeartbeats 400000 in
theorem rsmall_c (c : Int) (w : World) : Calls Tryz.prog 98 #[.int .u8 c] w fun e w' => e = .returned (.bool (smallDig c)) ∧ w' = w := by
  by_cases h1 : 97 ≤ c <;> by_cases h2 : c ≤ 122 <;> by_cases h3 : 48 ≤ c <;> by_cases h4 : c ≤ 57
  all_goals try (exfalso; omega)
  all_goals
    go_enter Tryz.func98, Tryz.ntmps98
    go_wp2
    go_ret
    exact ⟨by simp [smallDig, small, h1, h2, h3, h4], rfl⟩
set_option maxHeartbeats 400000 in
theorem rgreat_c (c : Int) (w : World) : Calls Tryz.prog 99 #[.int .u8 c] w fun e w' => e = .returned (.bool (great c)) ∧ w' = w := by
  by_cases h1 : 65 ≤ c <;> by_cases h2 : c ≤ 90
  all_goals
    go_enter Tryz.func99, Tryz.ntmps99
    go_wp2
    go_ret
    exact ⟨by simp [great, h1, h2], rfl⟩
set_option maxHeartbeats 400000 in
theorem rsign_c (c : Int) (w : World) : Calls Tryz.prog 97 #[.int .u8 c] w fun e w' => e = .returned (.bool (signB c)) ∧ w' = w := by
  by_cases h1 : c = 40
  · subst h1
    go_enter Tryz.func97, Tryz.ntmps97
    go_wp2
    go_ret
    exact ⟨rfl, rfl⟩
  · by_cases h2 : c = 41
    · subst h2
      go_enter Tryz.func97, Tryz.ntmps97
      go_wp2
      go_ret
      exact ⟨rfl, rfl⟩
    · by_cases h3 : c = 44
      · subst h3
        go_enter Tryz.func97, Tryz.ntmps97
        go_wp2
        go_ret
        exact ⟨rfl, rfl⟩
      · by_cases h4 : c = 46
        · subst h4
          go_enter Tryz.func97, Tryz.ntmps97
          go_wp2
          go_ret
          exact ⟨rfl, rfl⟩
        · have e1 : (c == 40) = false := by simpa using h1
          have e2 : (c == 41) = false := by simpa using h2
          have e3 : (c == 44) = false := by simpa using h3
          have e4 : (c == 46) = false := by simpa using h4
          go_enter Tryz.func97, Tryz.ntmps97
          go_wp2
          go_ret
          exact ⟨by simp [signB, e1, e2, e3, e4], rfl⟩
theorem str_beq (a b : List UInt8) : ((bs a).toList == (bs b).toList) = decide (a = b) := by
  rw [Lib.toList_data, Lib.toList_data, bs_dat, bs_dat]
  by_cases h : a = b
  · simp [h]
  · simp [h]
set_option maxHeartbeats 400000 in
set_option maxRecDepth 100000 in
theorem in_c (w : World) (base : Nat) (ao : Option Addr) (cap : Nat) (xs : List (List UInt8)) (ho : w.ownsRow base 9 1 (.slice ao xs.length cap) xs.length (xs.map fun x => .string (bs x))) (hn : xs.length ≤ 100000) (k : List UInt8) :
    Calls Tryz.prog 34 #[.slice ao xs.length cap, .string (bs k)] w fun e w' => e = .returned (.bool (hasW xs k)) ∧ w' = w := by
  go_enter Tryz.func34, Tryz.ntmps34
  go_wp2
  go_loopw [5] (fun iv wr => ∃ (i : Nat), i ≤ xs.length ∧ iv = .int .i64 i ∧ Hid ((xs.drop i).contains k = hasW xs k) ∧ wr = w) (fun iv _ => xs.length - (intOf iv).toNat)
  case atStart => exact ⟨0, by omega, rfl, rfl, rfl⟩
  case round =>
    obtain ⟨i, hi, rfl, HX, rfl⟩ := hrel
    by_cases hlt : i < xs.length
    · obtain ⟨g, rfl, hg⟩ := own_cell ho i hlt
      have hgg : wr.cell? ⟨g, i, none⟩ = some (.string (bs xs[i])) := by rw [hg]; simp [hlt]
      have HD : Hid ((xs.drop i).contains k = (decide (xs[i] = k) || (xs.drop (i + 1)).contains k)) := by
        show _ = _
        rw [List.drop_eq_getElem_cons hlt, List.contains_cons]
        congr 1
        by_cases h : xs[i] = k
        · simp [h]
        · simp [h, show ¬ k = xs[i] from fun e => h e.symm]
      have hq := str_beq xs[i] k
      clear hg
      generalize xs[i] = x at *
      cases hd : decide (x = k)
      · rw [hd] at hq HD
        go_wp2
        exact ⟨⟨i + 1, hlt, by go_num, by show _ = _; rw [← HX.out, HD.out]; rfl, trivial⟩, by simp [intOf]; omega⟩
      · rw [hd] at hq HD
        have HE := hid (show hasW xs k = true by rw [← HX.out, HD.out]; rfl)
        go_wp2
        go_ret
        rw [HE.out]
        exact ⟨rfl, rfl⟩
    · have hie : i = xs.length := by omega
      have HE := hid (show hasW xs k = false by rw [← HX.out, hie, List.drop_length]; rfl)
      clear hie
      go_wp2
      go_ret
      rw [HE.out]
      exact ⟨rfl, rfl⟩

end Go.Proofs.YtpbfiffgcgnidaaGreatDoor

namespace Go.Proofs.YtpbfiffgcgnidaaGreatDoor
open Go.RowKit Go.WideMaps Go.Maps
attribute [local go_sem] drewN_alloc drewN_setCell

def Pc.m (p : Pc) : Int := (p.mark.toNat : Int)
def Pc.w (p : Pc) : ByteArray := bs p.s
def Pc.cells (p : Pc) : List Value := [.int .u8 p.m, .string p.w, .int .i64 (p.pl : Nat)]
theorem infoPiece : (Tryz.prog.info? 189).map (fun i => (i.zero, i.size, i.bytes)) = some (some (.agg #[.int .u8 0, .string ⟨#[]⟩, .int .i64 0]), 3, 32) := by kernel_rfl
/-- The pieces that were found, and what is left. -/
def PieceRow (w0 w : World) (v : Value) (acc : List Pc) : Prop := w.ownsRow w0.heap.size 189 3 v acc.length (acc.flatMap Pc.cells)
theorem T_step (s : ByteArray) (p : Nat) (h : p < s.size) : T s.size (s.data.toList.drop p) = match pc1 p s[p] (s.data.toList.drop (p + 1)) with | none => none | some (q, k) => (T s.size (s.data.toList.drop (p + k))).map (q ++ ·) := by
  have hl : (s.data.toList.drop p).length = s.size - p := by rw [List.length_drop]; simp
  have e := drop_cons s p h
  have hp : s.size - (s.data.toList.drop p).length = p := by omega
  rw [e, T_cons, ← e, hp]
  cases pc1 p s[p] (s.data.toList.drop (p + 1)) with
  | none => rfl
  | some x =>
    obtain ⟨q, k⟩ := x
    simp only []
    rw [List.drop_drop]
/-- What the loop keeps. -/
def LeftIs (s : ByteArray) (acc : List Pc) (p : Nat) : Prop := (T s.size (s.data.toList.drop p)).map (acc ++ ·) = T s.size s.data.toList
theorem left_blank {s : ByteArray} {acc : List Pc} {p : Nat} (h : LeftIs s acc p) (hp : p < s.size) (hb : blank (s[p].toNat : Int) = true) : LeftIs s acc (p + 1) := by
  unfold LeftIs at *
  rw [T_step s p hp, pc1, if_pos hb] at h
  rw [← h, Option.map_map]
  rfl
theorem left_sign {s : ByteArray} {acc : List Pc} {p : Nat} (h : LeftIs s acc p) (hp : p < s.size) (hb : blank (s[p].toNat : Int) = false) (hs : signB (s[p].toNat : Int) = true) : LeftIs s (acc ++ [⟨s[p], [], p⟩]) (p + 1) := by
  unfold LeftIs at *
  rw [T_step s p hp, pc1, if_neg (by simp [hb]), if_pos hs] at h
  rw [← h, Option.map_map]
  congr 1
  funext x
  simp
theorem left_colon {s : ByteArray} {acc : List Pc} {p : Nat} (h : LeftIs s acc p) (hp : p < s.size) (hb : blank (s[p].toNat : Int) = false) (hs : signB (s[p].toNat : Int) = false) (hc : ((s[p].toNat : Int) == 58 && hd (s.data.toList.drop (p + 1)) == 45) = true) : LeftIs s (acc ++ [⟨s[p], [], p⟩]) (p + 2) := by
  unfold LeftIs at *
  rw [T_step s p hp, pc1, if_neg (by simp [hb]), if_neg (by simp [hs]), if_pos hc] at h
  rw [← h, Option.map_map]
  congr 1
  funext x
  simp
theorem left_bad {s : ByteArray} {acc : List Pc} {p : Nat} (h : LeftIs s acc p) (hp : p < s.size) (hn : pc1 p s[p] (s.data.toList.drop (p + 1)) = none) : T s.size s.data.toList = none := by
  unfold LeftIs at h
  rw [T_step s p hp, hn] at h
  exact h.symm
theorem left_word {s : ByteArray} {acc : List Pc} {p k : Nat} {mk : UInt8} (h : LeftIs s acc p) (hp : p < s.size) (hk : pc1 p s[p] (s.data.toList.drop (p + 1)) = some ([⟨mk, (s.data.toList.drop p).take (k + 1), p⟩], k + 1)) : LeftIs s (acc ++ [⟨mk, (s.data.toList.drop p).take (k + 1), p⟩]) (p + (k + 1)) := by
  unfold LeftIs at *
  rw [T_step s p hp, hk] at h
  rw [← h, Option.map_map]
  congr 1
  funext x
  simp

theorem PieceRow.more {w0 w : World} {g cap : Nat} {acc : List Pc} {p : Pc} {cs : List Value} (h : w.ownsRow w0.heap.size 189 3 (.slice (some ⟨g, 0, none⟩) (acc.length + 1) cap) (acc.length + 1) (acc.flatMap Pc.cells ++ cs)) (hc : p.cells = cs) : PieceRow w0 w (.slice (some ⟨g, 0, none⟩) (acc.length + 1) cap) (acc ++ [p]) := by
  unfold PieceRow
  rw [List.length_append, List.length_singleton, List.flatMap_append, List.flatMap_singleton, hc]
  exact h
theorem hd_at (s : ByteArray) (p : Nat) (h : p < s.size) : hd (s.data.toList.drop p) = (s[p].toNat : Int) := by rw [drop_cons s p h]; rfl
theorem hd_end (s : ByteArray) (p : Nat) (h : ¬ p < s.size) : hd (s.data.toList.drop p) = 0 := by rw [drop_end s p h]; rfl
theorem wend_step (fits : Int → Bool) (s : ByteArray) (q : Nat) (h : q < s.size) : wend fits (s.data.toList.drop q) = if fits (s[q].toNat : Int) = true then wend fits (s.data.toList.drop (q + 1)) + 1 else 0 := by rw [drop_cons s q h, wend]
theorem wend_end (fits : Int → Bool) (s : ByteArray) (q : Nat) (h : ¬ q < s.size) : wend fits (s.data.toList.drop q) = 0 := by rw [drop_end s q h]; rfl

def PiecesPost (w : World) (s : ByteArray) (e : Ending) (w' : World) : Prop :=
  ((∃ ps v, T s.size s.data.toList = some ps ∧ e = .returned (.tuple #[v, .bool true]) ∧ PieceRow w w' v ps ∧ ps.length ≤ s.size) ∨ (T s.size s.data.toList = none ∧ e = .returned (.tuple #[.slice none 0 0, .bool false]))) ∧ Below w.heap.size w w'

set_option maxHeartbeats 4000000 in
set_option maxRecDepth 100000 in
theorem pieces_c (w : World) (s : ByteArray) (hs : s.size ≤ 3000) : Calls Tryz.prog 61 #[.string s] w fun e w' => PiecesPost w s e w' := by
  obtain ⟨i1, hi1, hy0, hy1, hy2⟩ := info_parts infoPiece
  go_enter Tryz.func61, Tryz.ntmps61
  go_wp2
  go_loopw [4, 5] (fun lv iv wr => ∃ (p : Nat) (acc : List Pc), p ≤ s.size ∧ iv = .int .i64 p ∧ PieceRow w wr lv acc ∧ acc.length ≤ p ∧ Hid (LeftIs s acc p) ∧ Below w.heap.size w wr) (fun _ iv _ => s.size - (intOf iv).toNat)
  case atStart => exact ⟨0, [], by omega, rfl, World.ownsRow_nil _ _ _ _, by simp, by show (T s.size (s.data.toList.drop 0)).map ([] ++ ·) = _; rw [List.drop_zero, omap_nil], Below.refl _ _⟩
  case round =>
    obtain ⟨p, acc, hp, rfl, hR, hal, HL, hB⟩ := hrel
    by_cases hlt : p < s.size
    · have hsz := hB.size
      by_cases hb : blank (s[p].toNat : Int) = true
      · have HN := hid (left_blank HL.out hlt hb)
        rcases (show ((s[p].toNat : Int) == 32) = true ∨ (((s[p].toNat : Int) == 32) = false ∧ ((s[p].toNat : Int) == 10) = true) by
          unfold blank at hb
          cases h32 : ((s[p].toNat : Int) == 32)
          · rw [h32] at hb; exact .inr ⟨rfl, hb⟩
          · exact .inl rfl) with h32 | ⟨h32, h10⟩
        · clear hb
          go_wp2
          exact ⟨⟨p + 1, acc, hlt, by go_num, hR, by omega, HN, hB⟩, by simp [intOf]; omega⟩
        · clear hb
          go_wp2
          exact ⟨⟨p + 1, acc, hlt, by go_num, hR, by omega, HN, hB⟩, by simp [intOf]; omega⟩
      · rw [Bool.not_eq_true] at hb
        have hb32 : ((s[p].toNat : Int) == 32) = false := by unfold blank at hb; rw [Bool.or_eq_false_iff] at hb; exact hb.1
        have hb10 : ((s[p].toNat : Int) == 10) = false := by unfold blank at hb; rw [Bool.or_eq_false_iff] at hb; exact hb.2
        obtain ⟨lo, lcap, rfl⟩ := own_form hR
        cases hsg : signB (s[p].toNat : Int)
        · have HNS : Hid (∀ W : World, Calls Tryz.prog 97 #[.int .u8 (s[p].toNat : Int)] W fun e w' => e = .returned (.bool false) ∧ w' = W) := by
            intro W
            have := rsign_c (s[p].toNat : Int) W
            rw [hsg] at this
            exact this
          by_cases h58 : ((s[p].toNat : Int) == 58) = true
          · by_cases h45 : p + 1 < s.size ∧ hd (s.data.toList.drop (p + 1)) = 45
            · obtain ⟨hlt2, h45⟩ := h45
              have HN := hid (left_colon HL.out hlt hb hsg (by rw [h58, h45]; rfl))
              rw [hd_at s (p + 1) hlt2] at h45
              have h45' : ((s[p + 1].toNat : Int) == 45) = true := by rw [h45]; rfl
              clear hb hsg HL h45
              go_wp2_with fail
              refine (HNS.out _).mono ?_
              rintro e wx ⟨rfl, hwx⟩
              subst wx
              go_wp2_with (at_builtin; refine wpList_append_ownS _ rfl _ _ 122 rfl w.heap.size 189 i1 _ 3 32 Tryz.underlying122 hi1 hy0 hy1 hy2 rfl (by decide) _ acc.length (acc.flatMap Pc.cells) rfl (hR.alloc _) ⟨wr.heap.size, 0, none⟩ 1 [.int .u8 (s[p].toNat : Int), .string ⟨#[]⟩, .int .i64 (p : Nat)] rfl rfl (new_cells _ _ _) (by intro u hu; simp at hu; rcases hu with rfl | rfl | rfl <;> rfl) (by unfold maxLen; omega) (by omega) (by simp; omega) ?_; intro g cap2 w2 hL2 hg2)
              exact ⟨⟨p + 2, acc ++ [⟨s[p], [], p⟩], by omega, by go_num, PieceRow.more hL2 rfl, by simp; omega, HN, (hB.alloc (by omega) _).grown hg2 (by simp; omega) (own_base hR)⟩, by simp [intOf]; omega⟩
            · have h58e : (s[p].toNat : Int) = 58 := by simpa using h58
              have hnone : pc1 p s[p] (s.data.toList.drop (p + 1)) = none := by
                unfold pc1
                have h45f : ((s[p].toNat : Int) == 58 && hd (s.data.toList.drop (p + 1)) == 45) = false := by
                  rw [h58, Bool.true_and, beq_eq_false_iff_ne]
                  intro e
                  by_cases hlt2 : p + 1 < s.size
                  · exact h45 ⟨hlt2, e⟩
                  · rw [hd_end s (p + 1) hlt2] at e; simp at e
                rw [if_neg (by simp [hb]), if_neg (by simp [hsg]), if_neg (by simp [h45f]), if_neg (by rw [h58e]; decide), if_neg (by rw [h58e]; decide)]
              have HT := hid (left_bad HL.out hlt hnone)
              have hgr : Hid (∀ W : World, Calls Tryz.prog 99 #[.int .u8 (s[p].toNat : Int)] W fun e w' => e = .returned (.bool false) ∧ w' = W) := by
                intro W
                have := rgreat_c (s[p].toNat : Int) W
                rw [show great (s[p].toNat : Int) = false by rw [h58e]; decide] at this
                exact this
              have h97 : ¬ (97 ≤ (s[p].toNat : Int)) := by omega
              by_cases hlt2 : p + 1 < s.size
              · have h45' : ((s[p + 1].toNat : Int) == 45) = false := by
                  rw [beq_eq_false_iff_ne]
                  intro e
                  exact h45 ⟨hlt2, by rw [hd_at s (p + 1) hlt2]; exact e⟩
                clear hb hsg HL h45 h58e hnone
                go_wp2_with fail
                refine (HNS.out _).mono ?_
                rintro e wx ⟨rfl, hwx⟩
                subst wx
                go_wp2_with fail
                refine (hgr.out _).mono ?_
                rintro e wx ⟨rfl, hwx⟩
                subst wx
                go_wp2_with fail
                go_ret2
                exact ⟨.inr ⟨HT.out, rfl⟩, hB⟩
              · clear hb hsg HL h45 h58e hnone
                go_wp2_with fail
                refine (HNS.out _).mono ?_
                rintro e wx ⟨rfl, hwx⟩
                subst wx
                go_wp2_with fail
                refine (hgr.out _).mono ?_
                rintro e wx ⟨rfl, hwx⟩
                subst wx
                go_wp2_with fail
                go_ret2
                exact ⟨.inr ⟨HT.out, rfl⟩, hB⟩
          · rw [Bool.not_eq_true] at h58
            have hcol : ((s[p].toNat : Int) == 58 && hd (s.data.toList.drop (p + 1)) == 45) = false := by rw [h58]; rfl
            cases hsm : small (s[p].toNat : Int)
            · cases hgt : great (s[p].toNat : Int)
              · have HT := hid (left_bad HL.out hlt (by unfold pc1; rw [if_neg (by simp [hb]), if_neg (by simp [hsg]), if_neg (by simp [hcol]), if_neg (by simp [hsm]), if_neg (by simp [hgt])]))
                have HGR : Hid (∀ W : World, Calls Tryz.prog 99 #[.int .u8 (s[p].toNat : Int)] W fun e w' => e = .returned (.bool false) ∧ w' = W) := by
                  intro W
                  have := rgreat_c (s[p].toNat : Int) W
                  rw [hgt] at this
                  exact this
                rcases (show ¬ (97 ≤ (s[p].toNat : Int)) ∨ (97 ≤ (s[p].toNat : Int) ∧ ¬ ((s[p].toNat : Int) ≤ 122)) by unfold small at hsm; simp at hsm; omega) with h97 | ⟨h97, h122⟩
                · clear hb hsg hcol hsm hgt HL
                  go_wp2_with fail
                  refine (HNS.out _).mono ?_
                  rintro e wx ⟨rfl, hwx⟩
                  subst wx
                  go_wp2_with fail
                  refine (HGR.out _).mono ?_
                  rintro e wx ⟨rfl, hwx⟩
                  subst wx
                  go_wp2_with fail
                  go_ret2
                  exact ⟨.inr ⟨HT.out, rfl⟩, hB⟩
                · clear hb hsg hcol hsm hgt HL
                  go_wp2_with fail
                  refine (HNS.out _).mono ?_
                  rintro e wx ⟨rfl, hwx⟩
                  subst wx
                  go_wp2_with fail
                  refine (HGR.out _).mono ?_
                  rintro e wx ⟨rfl, hwx⟩
                  subst wx
                  go_wp2_with fail
                  go_ret2
                  exact ⟨.inr ⟨HT.out, rfl⟩, hB⟩
              · have h97 : ¬ (97 ≤ (s[p].toNat : Int)) := by unfold great at hgt; simp at hgt; omega
                have hpc : pc1 p s[p] (s.data.toList.drop (p + 1)) = if 12 < wend letterDig (s.data.toList.drop (p + 1)) + 1 then none else some ([⟨118, (s.data.toList.drop p).take (wend letterDig (s.data.toList.drop (p + 1)) + 1), p⟩], wend letterDig (s.data.toList.drop (p + 1)) + 1) := by
                  unfold pc1
                  rw [if_neg (by simp [hb]), if_neg (by simp [hsg]), if_neg (by simp [hcol]), if_neg (by simp [hsm]), if_pos hgt, ← drop_cons s p hlt]
                have HPC := hid hpc
                have HGR : Hid (∀ W : World, Calls Tryz.prog 99 #[.int .u8 (s[p].toNat : Int)] W fun e w' => e = .returned (.bool true) ∧ w' = W) := by
                  intro W
                  have := rgreat_c (s[p].toNat : Int) W
                  rw [hgt] at this
                  exact this
                clear hb hsg hcol hsm hpc hgt
                go_wp2_with fail
                refine (HNS.out _).mono ?_
                rintro e wx ⟨rfl, hwx⟩
                subst wx
                go_wp2_with fail
                refine (HGR.out _).mono ?_
                rintro e wx ⟨rfl, hwx⟩
                subst wx
                go_wp2_with fail
                go_loopw [5] (fun iv wq => ∃ (q : Nat), p + 1 ≤ q ∧ q ≤ s.size ∧ iv = .int .i64 q ∧ Hid (wend letterDig (s.data.toList.drop (p + 1)) = (q - (p + 1)) + wend letterDig (s.data.toList.drop q)) ∧ wq = wr) (fun iv _ => s.size - (intOf iv).toNat)
                case atStart => exact ⟨p + 1, by omega, by omega, by go_num, by show _ = _; omega, rfl⟩
                case round =>
                  obtain ⟨q, hq1, hq2, rfl, HW, rfl⟩ := hrel
                  by_cases hql : q < s.size ∧ letterDig (hd (s.data.toList.drop q)) = true
                  · obtain ⟨hql, hfq⟩ := hql
                    rw [hd_at s q hql] at hfq
                    have HW2 : Hid (wend letterDig (s.data.toList.drop (p + 1)) = (q + 1 - (p + 1)) + wend letterDig (s.data.toList.drop (q + 1))) := by
                      show _ = _
                      rw [HW.out, wend_step letterDig s q hql, if_pos hfq]; omega
                    cases hfs : smallDig (s[q].toNat : Int)
                    · have hfg : great (s[q].toNat : Int) = true := by unfold letterDig at hfq; rw [hfs, Bool.or_false] at hfq; exact hfq
                      go_wp2_with (first | (go_at_call 98; refine (rsmall_c _ _).mono ?_; rintro e wx ⟨he, hwx⟩; subst wx; rw [hfs] at he; subst he) | (go_at_call 99; refine (rgreat_c _ _).mono ?_; rintro e wx ⟨he, hwx⟩; subst wx; rw [hfg] at he; subst he))
                      exact ⟨⟨q + 1, by omega, by omega, by go_num, HW2, trivial⟩, by simp [intOf]; omega⟩
                    · go_wp2_with (go_at_call 98; refine (rsmall_c _ _).mono ?_; rintro e wx ⟨he, hwx⟩; subst wx; rw [hfs] at he; subst he)
                      exact ⟨⟨q + 1, by omega, by omega, by go_num, HW2, trivial⟩, by simp [intOf]; omega⟩
                  · by_cases hql2 : q < s.size
                    · have hfq : letterDig (s[q].toNat : Int) = false := by
                        rw [← hd_at s q hql2, ← Bool.not_eq_true]
                        exact fun h => hql ⟨hql2, h⟩
                      have hz0 : wend letterDig (s.data.toList.drop q) = 0 := by rw [wend_step letterDig s q hql2, hfq, if_neg (by simp)]
                      have hfg : great (s[q].toNat : Int) = false := by unfold letterDig at hfq; rw [Bool.or_eq_false_iff] at hfq; exact hfq.1
                      have hfs : smallDig (s[q].toNat : Int) = false := by unfold letterDig at hfq; rw [Bool.or_eq_false_iff] at hfq; exact hfq.2
                      clear hql hfq
                      have HK := hid (show wend letterDig (s.data.toList.drop (p + 1)) = q - (p + 1) by rw [HW.out, hz0]; omega)
                      have hex : s.extract p q = (⟨118, (s.data.toList.drop p).take (q - (p + 1) + 1), p⟩ : Pc).w := by
                        have := extract_bs s p (q - p)
                        rw [show p + (q - p) = q by omega] at this
                        rw [this, show q - p = q - (p + 1) + 1 by omega]; rfl
                      have HEX := hid hex
                      clear hex hz0
                      by_cases h12 : 12 < q - p
                      · have HT := hid (left_bad HL.out hlt (by rw [HPC.out, HK.out, if_pos (by omega)]))
                        clear HPC HL HK HW
                        go_wp2_with (first
                          | (go_at_call 98; refine (rsmall_c _ _).mono ?_; rintro e wx ⟨he, hwx⟩; subst wx; rw [hfs] at he; subst he)
                          | (go_at_call 99; refine (rgreat_c _ _).mono ?_; rintro e wx ⟨he, hwx⟩; subst wx; rw [hfg] at he; subst he)
                          | (at_builtin; refine wpList_append_ownS _ rfl _ _ 122 rfl w.heap.size 189 i1 _ 3 32 Tryz.underlying122 hi1 hy0 hy1 hy2 rfl (by decide) _ acc.length (acc.flatMap Pc.cells) rfl (hR.alloc _) ⟨wr.heap.size, 0, none⟩ 1 [.int .u8 118, .string (s.extract p q), .int .i64 (p : Nat)] rfl rfl (new_cells _ _ _) (by intro u hu; simp at hu; rcases hu with rfl | rfl | rfl <;> rfl) (by unfold maxLen; omega) (by omega) (by simp; omega) ?_; intro g cap2 w2 hL2 hg2))
                        go_ret2
                        exact ⟨.inr ⟨HT.out, rfl⟩, (hB.alloc (by omega) _).grown hg2 (by simp; omega) (own_base hR)⟩
                      · have HN := hid (left_word HL.out hlt (k := q - (p + 1)) (mk := 118) (by rw [HPC.out, HK.out, if_neg (by omega)]))
                        rw [show p + (q - (p + 1) + 1) = q by omega] at HN
                        clear HPC HL HK HW
                        go_wp2_with (first
                          | (go_at_call 98; refine (rsmall_c _ _).mono ?_; rintro e wx ⟨he, hwx⟩; subst wx; rw [hfs] at he; subst he)
                          | (go_at_call 99; refine (rgreat_c _ _).mono ?_; rintro e wx ⟨he, hwx⟩; subst wx; rw [hfg] at he; subst he)
                          | (at_builtin; refine wpList_append_ownS _ rfl _ _ 122 rfl w.heap.size 189 i1 _ 3 32 Tryz.underlying122 hi1 hy0 hy1 hy2 rfl (by decide) _ acc.length (acc.flatMap Pc.cells) rfl (hR.alloc _) ⟨wr.heap.size, 0, none⟩ 1 [.int .u8 118, .string (s.extract p q), .int .i64 (p : Nat)] rfl rfl (new_cells _ _ _) (by intro u hu; simp at hu; rcases hu with rfl | rfl | rfl <;> rfl) (by unfold maxLen; omega) (by omega) (by simp; omega) ?_; intro g cap2 w2 hL2 hg2))
                        exact ⟨⟨q, _, hq2, by go_num, PieceRow.more hL2 (by rw [HEX.out]; rfl), by simp; omega, HN, (hB.alloc (by omega) _).grown hg2 (by simp; omega) (own_base hR)⟩, by simp [intOf]; omega⟩
                    · have hz0 : wend letterDig (s.data.toList.drop q) = 0 := wend_end letterDig s q hql2
                      clear hql
                      have HK := hid (show wend letterDig (s.data.toList.drop (p + 1)) = q - (p + 1) by rw [HW.out, hz0]; omega)
                      have hex : s.extract p q = (⟨118, (s.data.toList.drop p).take (q - (p + 1) + 1), p⟩ : Pc).w := by
                        have := extract_bs s p (q - p)
                        rw [show p + (q - p) = q by omega] at this
                        rw [this, show q - p = q - (p + 1) + 1 by omega]; rfl
                      have HEX := hid hex
                      clear hex hz0
                      by_cases h12 : 12 < q - p
                      · have HT := hid (left_bad HL.out hlt (by rw [HPC.out, HK.out, if_pos (by omega)]))
                        clear HPC HL HK HW
                        go_wp2_with (first
                          | (fail)
                          | (at_builtin; refine wpList_append_ownS _ rfl _ _ 122 rfl w.heap.size 189 i1 _ 3 32 Tryz.underlying122 hi1 hy0 hy1 hy2 rfl (by decide) _ acc.length (acc.flatMap Pc.cells) rfl (hR.alloc _) ⟨wr.heap.size, 0, none⟩ 1 [.int .u8 118, .string (s.extract p q), .int .i64 (p : Nat)] rfl rfl (new_cells _ _ _) (by intro u hu; simp at hu; rcases hu with rfl | rfl | rfl <;> rfl) (by unfold maxLen; omega) (by omega) (by simp; omega) ?_; intro g cap2 w2 hL2 hg2))
                        go_ret2
                        exact ⟨.inr ⟨HT.out, rfl⟩, (hB.alloc (by omega) _).grown hg2 (by simp; omega) (own_base hR)⟩
                      · have HN := hid (left_word HL.out hlt (k := q - (p + 1)) (mk := 118) (by rw [HPC.out, HK.out, if_neg (by omega)]))
                        rw [show p + (q - (p + 1) + 1) = q by omega] at HN
                        clear HPC HL HK HW
                        go_wp2_with (first
                          | (fail)
                          | (at_builtin; refine wpList_append_ownS _ rfl _ _ 122 rfl w.heap.size 189 i1 _ 3 32 Tryz.underlying122 hi1 hy0 hy1 hy2 rfl (by decide) _ acc.length (acc.flatMap Pc.cells) rfl (hR.alloc _) ⟨wr.heap.size, 0, none⟩ 1 [.int .u8 118, .string (s.extract p q), .int .i64 (p : Nat)] rfl rfl (new_cells _ _ _) (by intro u hu; simp at hu; rcases hu with rfl | rfl | rfl <;> rfl) (by unfold maxLen; omega) (by omega) (by simp; omega) ?_; intro g cap2 w2 hL2 hg2))
                        exact ⟨⟨q, _, hq2, by go_num, PieceRow.more hL2 (by rw [HEX.out]; rfl), by simp; omega, HN, (hB.alloc (by omega) _).grown hg2 (by simp; omega) (own_base hR)⟩, by simp [intOf]; omega⟩
            · have h97 : 97 ≤ (s[p].toNat : Int) ∧ (s[p].toNat : Int) ≤ 122 := by unfold small at hsm; simpa using hsm
              obtain ⟨h97, h122⟩ := h97
              have hpc : pc1 p s[p] (s.data.toList.drop (p + 1)) = if 12 < wend smallDig (s.data.toList.drop (p + 1)) + 1 then none else some ([⟨110, (s.data.toList.drop p).take (wend smallDig (s.data.toList.drop (p + 1)) + 1), p⟩], wend smallDig (s.data.toList.drop (p + 1)) + 1) := by
                unfold pc1
                rw [if_neg (by simp [hb]), if_neg (by simp [hsg]), if_neg (by simp [hcol]), if_pos hsm, ← drop_cons s p hlt]
              have HPC := hid hpc
              clear hb hsg hcol hsm hpc
              go_wp2_with fail
              refine (HNS.out _).mono ?_
              rintro e wx ⟨rfl, hwx⟩
              subst wx
              go_wp2_with fail
              go_loopw [5] (fun iv wq => ∃ (q : Nat), p + 1 ≤ q ∧ q ≤ s.size ∧ iv = .int .i64 q ∧ Hid (wend smallDig (s.data.toList.drop (p + 1)) = (q - (p + 1)) + wend smallDig (s.data.toList.drop q)) ∧ wq = wr) (fun iv _ => s.size - (intOf iv).toNat)
              case atStart => exact ⟨p + 1, by omega, by omega, by go_num, by show _ = _; omega, rfl⟩
              case round =>
                obtain ⟨q, hq1, hq2, rfl, HW, rfl⟩ := hrel
                by_cases hql : q < s.size ∧ smallDig (hd (s.data.toList.drop q)) = true
                · obtain ⟨hql, hfq⟩ := hql
                  rw [hd_at s q hql] at hfq
                  have HW2 : Hid (wend smallDig (s.data.toList.drop (p + 1)) = (q + 1 - (p + 1)) + wend smallDig (s.data.toList.drop (q + 1))) := by
                    show _ = _
                    rw [HW.out, wend_step smallDig s q hql, if_pos hfq]; omega
                  go_wp2_with (go_at_call 98; refine (rsmall_c _ _).mono ?_; rintro e wx ⟨he, hwx⟩; subst wx; rw [hfq] at he; subst he)
                  exact ⟨⟨q + 1, by omega, by omega, by go_num, HW2, trivial⟩, by simp [intOf]; omega⟩
                · by_cases hql2 : q < s.size
                  · have hfq : smallDig (s[q].toNat : Int) = false := by
                      rw [← hd_at s q hql2, ← Bool.not_eq_true]
                      exact fun h => hql ⟨hql2, h⟩
                    have hz0 : wend smallDig (s.data.toList.drop q) = 0 := by rw [wend_step smallDig s q hql2, hfq, if_neg (by simp)]
                    clear hql
                    have HK := hid (show wend smallDig (s.data.toList.drop (p + 1)) = q - (p + 1) by rw [HW.out, hz0]; omega)
                    have hex : s.extract p q = (⟨110, (s.data.toList.drop p).take (q - (p + 1) + 1), p⟩ : Pc).w := by
                      have := extract_bs s p (q - p)
                      rw [show p + (q - p) = q by omega] at this
                      rw [this, show q - p = q - (p + 1) + 1 by omega]; rfl
                    have HEX := hid hex
                    clear hex hz0
                    by_cases h12 : 12 < q - p
                    · have HT := hid (left_bad HL.out hlt (by rw [HPC.out, HK.out, if_pos (by omega)]))
                      clear HPC HL HK HW
                      go_wp2_with (first
                        | (go_at_call 98; refine (rsmall_c _ _).mono ?_; rintro e wx ⟨he, hwx⟩; subst wx; rw [hfq] at he; subst he)
                        | (at_builtin; refine wpList_append_ownS _ rfl _ _ 122 rfl w.heap.size 189 i1 _ 3 32 Tryz.underlying122 hi1 hy0 hy1 hy2 rfl (by decide) _ acc.length (acc.flatMap Pc.cells) rfl (hR.alloc _) ⟨wr.heap.size, 0, none⟩ 1 [.int .u8 110, .string (s.extract p q), .int .i64 (p : Nat)] rfl rfl (new_cells _ _ _) (by intro u hu; simp at hu; rcases hu with rfl | rfl | rfl <;> rfl) (by unfold maxLen; omega) (by omega) (by simp; omega) ?_; intro g cap2 w2 hL2 hg2))
                      go_ret2
                      exact ⟨.inr ⟨HT.out, rfl⟩, (hB.alloc (by omega) _).grown hg2 (by simp; omega) (own_base hR)⟩
                    · have HN := hid (left_word HL.out hlt (k := q - (p + 1)) (mk := 110) (by rw [HPC.out, HK.out, if_neg (by omega)]))
                      rw [show p + (q - (p + 1) + 1) = q by omega] at HN
                      clear HPC HL HK HW
                      go_wp2_with (first
                        | (go_at_call 98; refine (rsmall_c _ _).mono ?_; rintro e wx ⟨he, hwx⟩; subst wx; rw [hfq] at he; subst he)
                        | (at_builtin; refine wpList_append_ownS _ rfl _ _ 122 rfl w.heap.size 189 i1 _ 3 32 Tryz.underlying122 hi1 hy0 hy1 hy2 rfl (by decide) _ acc.length (acc.flatMap Pc.cells) rfl (hR.alloc _) ⟨wr.heap.size, 0, none⟩ 1 [.int .u8 110, .string (s.extract p q), .int .i64 (p : Nat)] rfl rfl (new_cells _ _ _) (by intro u hu; simp at hu; rcases hu with rfl | rfl | rfl <;> rfl) (by unfold maxLen; omega) (by omega) (by simp; omega) ?_; intro g cap2 w2 hL2 hg2))
                      exact ⟨⟨q, _, hq2, by go_num, PieceRow.more hL2 (by rw [HEX.out]; rfl), by simp; omega, HN, (hB.alloc (by omega) _).grown hg2 (by simp; omega) (own_base hR)⟩, by simp [intOf]; omega⟩
                  · have hz0 : wend smallDig (s.data.toList.drop q) = 0 := wend_end smallDig s q hql2
                    clear hql
                    have HK := hid (show wend smallDig (s.data.toList.drop (p + 1)) = q - (p + 1) by rw [HW.out, hz0]; omega)
                    have hex : s.extract p q = (⟨110, (s.data.toList.drop p).take (q - (p + 1) + 1), p⟩ : Pc).w := by
                      have := extract_bs s p (q - p)
                      rw [show p + (q - p) = q by omega] at this
                      rw [this, show q - p = q - (p + 1) + 1 by omega]; rfl
                    have HEX := hid hex
                    clear hex hz0
                    by_cases h12 : 12 < q - p
                    · have HT := hid (left_bad HL.out hlt (by rw [HPC.out, HK.out, if_pos (by omega)]))
                      clear HPC HL HK HW
                      go_wp2_with (first
                        | (fail)
                        | (at_builtin; refine wpList_append_ownS _ rfl _ _ 122 rfl w.heap.size 189 i1 _ 3 32 Tryz.underlying122 hi1 hy0 hy1 hy2 rfl (by decide) _ acc.length (acc.flatMap Pc.cells) rfl (hR.alloc _) ⟨wr.heap.size, 0, none⟩ 1 [.int .u8 110, .string (s.extract p q), .int .i64 (p : Nat)] rfl rfl (new_cells _ _ _) (by intro u hu; simp at hu; rcases hu with rfl | rfl | rfl <;> rfl) (by unfold maxLen; omega) (by omega) (by simp; omega) ?_; intro g cap2 w2 hL2 hg2))
                      go_ret2
                      exact ⟨.inr ⟨HT.out, rfl⟩, (hB.alloc (by omega) _).grown hg2 (by simp; omega) (own_base hR)⟩
                    · have HN := hid (left_word HL.out hlt (k := q - (p + 1)) (mk := 110) (by rw [HPC.out, HK.out, if_neg (by omega)]))
                      rw [show p + (q - (p + 1) + 1) = q by omega] at HN
                      clear HPC HL HK HW
                      go_wp2_with (first
                        | (fail)
                        | (at_builtin; refine wpList_append_ownS _ rfl _ _ 122 rfl w.heap.size 189 i1 _ 3 32 Tryz.underlying122 hi1 hy0 hy1 hy2 rfl (by decide) _ acc.length (acc.flatMap Pc.cells) rfl (hR.alloc _) ⟨wr.heap.size, 0, none⟩ 1 [.int .u8 110, .string (s.extract p q), .int .i64 (p : Nat)] rfl rfl (new_cells _ _ _) (by intro u hu; simp at hu; rcases hu with rfl | rfl | rfl <;> rfl) (by unfold maxLen; omega) (by omega) (by simp; omega) ?_; intro g cap2 w2 hL2 hg2))
                      exact ⟨⟨q, _, hq2, by go_num, PieceRow.more hL2 (by rw [HEX.out]; rfl), by simp; omega, HN, (hB.alloc (by omega) _).grown hg2 (by simp; omega) (own_base hR)⟩, by simp [intOf]; omega⟩
        · have HN := hid (left_sign HL.out hlt hb hsg)
          have HNS : Hid (∀ W : World, Calls Tryz.prog 97 #[.int .u8 (s[p].toNat : Int)] W fun e w' => e = .returned (.bool true) ∧ w' = W) := by
            intro W
            have := rsign_c (s[p].toNat : Int) W
            rw [hsg] at this
            exact this
          clear hb hsg HL
          go_wp2_with fail
          refine (HNS.out _).mono ?_
          rintro e wx ⟨rfl, hwx⟩
          subst wx
          go_wp2_with (at_builtin; refine wpList_append_ownS _ rfl _ _ 122 rfl w.heap.size 189 i1 _ 3 32 Tryz.underlying122 hi1 hy0 hy1 hy2 rfl (by decide) _ acc.length (acc.flatMap Pc.cells) rfl (hR.alloc _) ⟨wr.heap.size, 0, none⟩ 1 [.int .u8 (s[p].toNat : Int), .string ⟨#[]⟩, .int .i64 (p : Nat)] rfl rfl (new_cells _ _ _) (by intro u hu; simp at hu; rcases hu with rfl | rfl | rfl <;> rfl) (by unfold maxLen; omega) (by omega) (by simp; omega) ?_; intro g cap2 w2 hL2 hg2)
          exact ⟨⟨p + 1, acc ++ [⟨s[p], [], p⟩], by omega, by go_num, PieceRow.more hL2 rfl, by simp; omega, HN, (hB.alloc (by omega) _).grown hg2 (by simp; omega) (own_base hR)⟩, by simp [intOf]; omega⟩
    · have hpe : p = s.size := by omega
      have HT : Hid (T s.size s.data.toList = some acc) := by
        show _ = _
        have h := HL.out
        unfold LeftIs at h
        rw [hpe, drop_end s s.size (by omega), T_nil] at h
        rw [← h]; simp
      clear hpe HL
      go_wp2_with fail
      go_ret2
      exact ⟨.inl ⟨acc, _, HT.out, rfl, hR, by omega⟩, hB⟩

end Go.Proofs.YtpbfiffgcgnidaaGreatDoor
