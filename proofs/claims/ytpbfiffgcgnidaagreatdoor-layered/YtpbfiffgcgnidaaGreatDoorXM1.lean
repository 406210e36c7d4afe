/-
  OUR OWN. The document's answer: the printed forms.
-/
import Derived.Test.YtpbfiffgcgnidaaGreatDoorXR5
import Derived.Test.YtpbfiffgcgnidaaGreatDoorXR13
namespace Go.Proofs.YtpbfiffgcgnidaaGreatDoor
open Go.RowKit Go.WideMaps Go.Maps
attribute [local go_sem] drewN_alloc drewN_setCell

theorem bs_cat (a b : List UInt8) : bs a ++ bs b = bs (a ++ b) := by
  apply ByteArray.ext
  simp [bs]
theorem bs_len (a : List UInt8) : (bs a).size = a.length := rfl
/-- What an atom's words come to at most. -/
structure RA.Small (a : RA) : Prop where
  name : a.name.length ≤ 12
  few : a.ts.length ≤ 3
  words : ∀ t ∈ a.ts, t.s.length ≤ 12
structure RC.Small (c : RC) : Prop where
  head : c.head.Small
  few : c.body.length ≤ 4
  body : ∀ a ∈ c.body, a.Small
def tApp (i : Nat) (t : RT) : List UInt8 := (if i = 0 then [40] else [44]) ++ t.s
def tsGo : Nat → List RT → List UInt8
  | _, [] => []
  | i, t :: r => tApp i t ++ tsGo (i + 1) r
theorem tsGo_snoc (i : Nat) (l : List RT) (t : RT) : tsGo i (l ++ [t]) = tsGo i l ++ tApp (i + l.length) t := by
  induction l generalizing i with
  | nil => simp [tsGo]
  | cons a l ih => simp only [List.cons_append, tsGo, ih, List.append_assoc, List.length_cons]; rw [show i + 1 + l.length = i + (l.length + 1) by omega]
theorem tsGo_len (i : Nat) (l : List RT) (h : ∀ t ∈ l, t.s.length ≤ 12) : (tsGo i l).length ≤ 13 * l.length := by
  induction l generalizing i with
  | nil => simp [tsGo]
  | cons a l ih =>
    have h1 := h a (by simp)
    have h2 := ih (i + 1) (fun t ht => h t (by simp [ht]))
    have h3 : (tApp i a).length = a.s.length + 1 := by unfold tApp; split <;> simp <;> omega
    simp only [tsGo, List.length_append, List.length_cons, h3]
    omega
def RA.front (a : RA) : List UInt8 := if a.neg = true then 33 :: a.name else a.name
def RA.shown (a : RA) : List UInt8 := a.front ++ tsGo 0 a.ts ++ (if a.ts.length = 0 then [] else [41])
theorem RA.front_len (a : RA) (h : a.Small) : a.front.length ≤ 13 := by
  have := h.name
  unfold RA.front
  split <;> simp <;> omega
theorem RA.shown_len (a : RA) (h : a.Small) : a.shown.length ≤ 60 := by
  have h1 := a.front_len h
  have h2 := tsGo_len 0 a.ts h.words
  have h3 := h.few
  unfold RA.shown
  simp only [List.length_append]
  split <;> simp <;> omega

theorem shown_step (a : RA) (k : Nat) (hk : k < a.ts.length) (m : List UInt8) (hm : m = if k = 0 then [40] else [44]) : bs (a.front ++ tsGo 0 (a.ts.take k)) ++ bs m ++ (a.ts[k]).w = bs (a.front ++ tsGo 0 (a.ts.take (k + 1))) := by
  have hl : (a.ts.take k).length = k := by simp; omega
  rw [List.take_succ_eq_append_getElem hk, tsGo_snoc, hl, Nat.zero_add]
  show bs _ ++ bs m ++ bs _ = _
  rw [bs_cat, bs_cat, tApp, ← hm]
  simp
theorem shown_end (a : RA) : a.shown = (a.front ++ tsGo 0 (a.ts.take a.ts.length)) ++ (if a.ts.length = 0 then [] else [41]) := by rw [List.take_length]; rfl

set_option maxHeartbeats 2000000 in
set_option maxRecDepth 100000 in
theorem shownA_c (w : World) (base : Nat) (a : RA) (tq : Option Addr) (tcap : Nat) (hT : w.ownsRow base 130 3 (.slice tq a.ts.length tcap) a.ts.length (a.ts.flatMap RT.cells)) (hs : a.Small) :
    Calls Tryz.prog 43 #[.agg #[.string a.w, .slice tq a.ts.length tcap, .int .i64 (a.pl : Nat), .int .i64 (a.bang : Nat), .bool a.neg]] w fun e w' => e = .returned (.string (bs a.shown)) ∧ Below w.heap.size w w' := by
  have hfl := a.front_len hs
  have hfe := hs.few
  have HWD := hid hs.words
  have hnl := hs.name
  have hBk := Blk.new w [.string a.w, .slice tq a.ts.length tcap, .int .i64 (a.pl : Nat), .int .i64 (a.bang : Nat), .bool a.neg] 69
  have hB0 := below_alloc w (.cells #[.string a.w, .slice tq a.ts.length tcap, .int .i64 (a.pl : Nat), .int .i64 (a.bang : Nat), .bool a.neg] 69)
  have HW : Hid (a.w = bs a.name) := rfl
  have hcw : ¬ 9223372036854775807 < 1 + (a.w).size := by rw [HW.out, bs_len]; omega
  have HFr := hid (show (if a.neg = true then ⟨#[33]⟩ ++ a.w else a.w) = bs a.front by
    unfold RA.front
    split
    · rw [HW.out]; exact bs_cat [33] a.name
    · rfl)
  obtain ⟨neg, HNE⟩ : ∃ neg, Hid (a.neg = neg) := ⟨_, rfl⟩
  rw [HNE.out] at hBk hB0 HFr ⊢
  clear hs
  cases neg
  all_goals
    go_enter Tryz.func43, Tryz.ntmps43
    go_wp2_with fail
    go_loopw [3, 4] (fun sv kv wr => ∃ (k : Nat) (b : Bool), k ≤ a.ts.length ∧ kv = .int .i64 k ∧ sv = .string (bs (a.front ++ tsGo 0 (a.ts.take k))) ∧ Blk wr w.heap.size [.string a.w, .slice tq a.ts.length tcap, .int .i64 (a.pl : Nat), .int .i64 (a.bang : Nat), .bool b] 69 ∧ Below w.heap.size w wr) (fun _ kv _ => a.ts.length - (intOf kv).toNat)
    case atStart => exact ⟨0, _, by omega, rfl, congrArg Value.string (by rw [List.take_zero, tsGo, List.append_nil]; exact HFr.out), hBk, hB0⟩
    case round =>
      clear hBk hB0 HFr hcw
      obtain ⟨k, b, hk, rfl, rfl, hC, hB⟩ := hrel
      have c1 : wr.cell? ⟨w.heap.size, 1, none⟩ = some (.slice tq a.ts.length tcap) := hC.cell 1
      have hcl := hC.lt
      have hl := tsGo_len 0 (a.ts.take k) (fun t ht => HWD.out t (List.mem_of_mem_take ht))
      have hlk : (a.ts.take k).length = k := by simp; omega
      rw [hlk] at hl
      have hXl : (a.front ++ tsGo 0 (a.ts.take k)).length ≤ 52 := by rw [List.length_append]; omega
      by_cases hlt : k < a.ts.length
      · obtain ⟨g, rfl, hg, d0, d1, d2⟩ := rterm_at (own_below hT hB) k hlt
        have htl := HWD.out a.ts[k] (List.getElem_mem hlt)
        have HS := hid (fun m hm => shown_step a k hlt m hm)
        have hts : (a.ts[k]).w.size ≤ 12 := htl
        generalize (a.ts[k]).w = tw at *
        obtain ⟨X, HX⟩ : ∃ X, Hid (X = a.front ++ tsGo 0 (a.ts.take k)) := ⟨_, rfl⟩
        rw [← HX.out] at HS hXl ⊢
        have hX1 : ¬ 9223372036854775807 < (bs X).size + 1 := by rw [bs_len]; omega
        have hX2 : ¬ 9223372036854775807 < (bs X).size + 1 + tw.size := by rw [bs_len]; omega
        clear hl hlk HX d1 d2
        by_cases hk0 : k = 0
        · have HN := hid (HS.out [40] (by rw [if_pos hk0]))
          have hk1 : (k : Int) = 0 := by omega
          have hkb : ((k : Int) == 0) = true := by rw [hk1]; rfl
          clear HS hk0 hk1
          go_wp2_with fail
          exact ⟨⟨k + 1, b, hlt, by go_num, congrArg Value.string HN.out, hC, hB⟩, by simp [intOf]; omega⟩
        · have HN := hid (HS.out [44] (by rw [if_neg hk0]))
          have hk1 : ¬ (k : Int) = 0 := by omega
          have hkb : ((k : Int) == 0) = false := by simpa using hk1
          clear HS hk0
          go_wp2_with fail
          exact ⟨⟨k + 1, b, hlt, by go_num, congrArg Value.string HN.out, hC, hB⟩, by simp [intOf]; omega⟩
      · have hke : k = a.ts.length := by omega
        have HE := hid (shown_end a)
        rw [← hke] at HE
        obtain ⟨X, HX⟩ : ∃ X, Hid (X = a.front ++ tsGo 0 (a.ts.take k)) := ⟨_, rfl⟩
        rw [← HX.out] at hXl HE ⊢
        have hX1 : ¬ 9223372036854775807 < (bs X).size + 1 := by rw [bs_len]; omega
        clear hl hlk HX
        by_cases hz : a.ts.length = 0
        · have HN := hid (show a.shown = X by rw [HE.out, if_pos (by omega), List.append_nil])
          have hzi : ¬ (0 : Int) < (a.ts.length : Int) := by omega
          have hzn : ¬ 0 < a.ts.length := by omega
          clear hke HE hz
          go_wp2_with fail
          go_ret
          rw [HN.out]
          exact ⟨rfl, hB⟩
        · have HN := hid (show bs X ++ ⟨#[41]⟩ = bs a.shown by rw [HE.out, if_neg (by omega)]; exact bs_cat X [41])
          have hzi : (0 : Int) < (a.ts.length : Int) := by omega
          have hzn : 0 < a.ts.length := by omega
          clear hke HE hz
          go_wp2_with fail
          go_ret
          exact ⟨congrArg (fun z => Ending.returned (Value.string z)) HN.out, hB⟩

def bApp (i : Nat) (a : RA) : List UInt8 := (if i = 0 then [58, 45] else [44]) ++ a.shown
def bsGo : Nat → List RA → List UInt8
  | _, [] => []
  | i, a :: r => bApp i a ++ bsGo (i + 1) r
theorem bsGo_snoc (i : Nat) (l : List RA) (t : RA) : bsGo i (l ++ [t]) = bsGo i l ++ bApp (i + l.length) t := by
  induction l generalizing i with
  | nil => simp [bsGo]
  | cons a l ih => simp only [List.cons_append, bsGo, ih, List.append_assoc, List.length_cons]; rw [show i + 1 + l.length = i + (l.length + 1) by omega]
theorem bsGo_len (i : Nat) (l : List RA) (h : ∀ t ∈ l, t.Small) : (bsGo i l).length ≤ 62 * l.length := by
  induction l generalizing i with
  | nil => simp [bsGo]
  | cons a l ih =>
    have h1 := a.shown_len (h a (by simp))
    have h2 := ih (i + 1) (fun t ht => h t (by simp [ht]))
    have h3 : (bApp i a).length ≤ a.shown.length + 2 := by unfold bApp; split <;> simp <;> omega
    simp only [bsGo, List.length_append, List.length_cons]
    omega
def RC.shown (c : RC) : List UInt8 := c.head.shown ++ bsGo 0 c.body ++ [46]
theorem RC.shown_len (c : RC) (h : c.Small) : c.shown.length ≤ 320 := by
  have h1 := c.head.shown_len h.head
  have h2 := bsGo_len 0 c.body h.body
  have h3 := h.few
  unfold RC.shown
  simp only [List.length_append, List.length_cons, List.length_nil]
  omega
theorem cshown_step (c : RC) (k : Nat) (hk : k < c.body.length) (m : List UInt8) (hm : m = if k = 0 then [58, 45] else [44]) : bs (c.head.shown ++ bsGo 0 (c.body.take k)) ++ bs m ++ bs (c.body[k]).shown = bs (c.head.shown ++ bsGo 0 (c.body.take (k + 1))) := by
  have hl : (c.body.take k).length = k := by simp; omega
  rw [List.take_succ_eq_append_getElem hk, bsGo_snoc, hl, Nat.zero_add, bs_cat, bs_cat, bApp, ← hm]
  simp

set_option maxHeartbeats 2000000 in
set_option maxRecDepth 100000 in
theorem shownC_c (w : World) (base : Nat) (c : RC) (tq : Option Addr) (tcap : Nat) (bo : Option Addr) (bcap : Nat) (hT : w.ownsRow base 130 3 (.slice tq c.head.ts.length tcap) c.head.ts.length (c.head.ts.flatMap RT.cells)) (hR : AtomRow w base (.slice bo c.body.length bcap) c.body) (hs : c.Small) :
    Calls Tryz.prog 36 #[.agg #[.string c.head.w, .slice tq c.head.ts.length tcap, .int .i64 (c.head.pl : Nat), .int .i64 (c.head.bang : Nat), .bool c.head.neg, .slice bo c.body.length bcap]] w fun e w' => e = .returned (.string (bs c.shown)) ∧ Below w.heap.size w w' := by
  have hBk := Blk.new w [.string c.head.w, .slice tq c.head.ts.length tcap, .int .i64 (c.head.pl : Nat), .int .i64 (c.head.bang : Nat), .bool c.head.neg, .slice bo c.body.length bcap] 71
  have hB0 := below_alloc w (.cells #[.string c.head.w, .slice tq c.head.ts.length tcap, .int .i64 (c.head.pl : Nat), .int .i64 (c.head.bang : Nat), .bool c.head.neg, .slice bo c.body.length bcap] 71)
  have hT0 := own_below hT hB0
  have hhl := c.head.shown_len hs.head
  have hfe := hs.few
  have HSB := hid hs.body
  go_enter Tryz.func36, Tryz.ntmps36
  go_wp2_with (go_at_call 43; refine (shownA_c _ base c.head tq tcap (by exact hT0) hs.head).mono ?_; rintro e w1 ⟨rfl, hB1⟩)
  have hz0 := hB0.size
  have hBw := hB0.trans (hB1.mono hz0)
  go_loopw [3, 4] (fun sv kv wr => ∃ (k : Nat), k ≤ c.body.length ∧ kv = .int .i64 k ∧ sv = .string (bs (c.head.shown ++ bsGo 0 (c.body.take k))) ∧ Blk wr w.heap.size [.string c.head.w, .slice tq c.head.ts.length tcap, .int .i64 (c.head.pl : Nat), .int .i64 (c.head.bang : Nat), .bool c.head.neg, .slice bo c.body.length bcap] 71 ∧ Below w.heap.size w wr) (fun _ kv _ => c.body.length - (intOf kv).toNat)
  case atStart => exact ⟨0, by omega, rfl, by rw [List.take_zero, bsGo, List.append_nil], hBk.below hB1, hBw⟩
  case round =>
    clear hBk hB0 hT0 hB1 hz0 hBw
    obtain ⟨k, hk, rfl, rfl, hC, hB⟩ := hrel
    have c5 : wr.cell? ⟨w.heap.size, 5, none⟩ = some (.slice bo c.body.length bcap) := hC.cell 5
    have hcl := hC.lt
    have hsz := hB.size
    have hl := bsGo_len 0 (c.body.take k) (fun t ht => HSB.out t (List.mem_of_mem_take ht))
    have hlk : (c.body.take k).length = k := by simp; omega
    rw [hlk] at hl
    have hXl : (c.head.shown ++ bsGo 0 (c.body.take k)).length ≤ 310 := by rw [List.length_append]; omega
    by_cases hlt : k < c.body.length
    · obtain ⟨g, tv, rfl, hg, b0, b1, b2, b3, b4, hTb⟩ := ratom_at (hR.below hB) rfl k hlt
      have hsm := HSB.out c.body[k] (List.getElem_mem hlt)
      have HS := hid (fun m hm => cshown_step c k hlt m hm)
      generalize c.body[k] = a at *
      obtain ⟨aq, acap, rfl⟩ := own_form hTb
      have hal := a.shown_len hsm
      obtain ⟨X, HX⟩ : ∃ X, Hid (X = c.head.shown ++ bsGo 0 (c.body.take k)) := ⟨_, rfl⟩
      rw [← HX.out] at HS hXl ⊢
      have hX1 : ¬ 9223372036854775807 < (bs X).size + 1 := by rw [bs_len]; omega
      have hX2 : ¬ 9223372036854775807 < (bs X).size + 2 := by rw [bs_len]; omega
      have hX3 : ¬ 9223372036854775807 < (bs X).size + 1 + (bs a.shown).size := by rw [bs_len, bs_len]; omega
      have hX4 : ¬ 9223372036854775807 < (bs X).size + 2 + (bs a.shown).size := by rw [bs_len, bs_len]; omega
      clear hl hlk HX
      by_cases hk0 : k = 0
      · have HN := hid (HS.out [58, 45] (by rw [if_pos hk0]))
        have hk1 : (k : Int) = 0 := by omega
        have hkb : ((k : Int) == 0) = true := by rw [hk1]; rfl
        clear HS hk0 hk1
        go_wp2_with (go_at_call 43; refine (shownA_c _ base a aq acap (by exact hTb) hsm).mono ?_; rintro e w1 ⟨rfl, hB1⟩)
        exact ⟨⟨k + 1, hlt, by go_num, congrArg Value.string HN.out, hC.below hB1, hB.trans (hB1.mono hsz)⟩, by simp [intOf]; omega⟩
      · have HN := hid (HS.out [44] (by rw [if_neg hk0]))
        have hk1 : ¬ (k : Int) = 0 := by omega
        have hkb : ((k : Int) == 0) = false := by simpa using hk1
        clear HS hk0
        go_wp2_with (go_at_call 43; refine (shownA_c _ base a aq acap (by exact hTb) hsm).mono ?_; rintro e w1 ⟨rfl, hB1⟩)
        exact ⟨⟨k + 1, hlt, by go_num, congrArg Value.string HN.out, hC.below hB1, hB.trans (hB1.mono hsz)⟩, by simp [intOf]; omega⟩
    · have hke : k = c.body.length := by omega
      have HN := hid (show bs (c.head.shown ++ bsGo 0 (c.body.take k)) ++ ⟨#[46]⟩ = bs c.shown by rw [hke, List.take_length]; exact bs_cat _ [46])
      obtain ⟨X, HX⟩ : ∃ X, Hid (X = c.head.shown ++ bsGo 0 (c.body.take k)) := ⟨_, rfl⟩
      rw [← HX.out] at hXl HN ⊢
      have hX1 : ¬ 9223372036854775807 < (bs X).size + 1 := by rw [bs_len]; omega
      clear hl hlk HX hke
      go_wp2_with fail
      go_ret
      exact ⟨congrArg (fun z => Ending.returned (Value.string z)) HN.out, hB⟩

end Go.Proofs.YtpbfiffgcgnidaaGreatDoor

namespace Go.Proofs.YtpbfiffgcgnidaaGreatDoor
open Go.RowKit Go.WideMaps Go.Maps
attribute [local go_sem] drewN_alloc drewN_setCell

def rshown (cs : List RC) : List UInt8 := cs.flatMap fun c => c.shown ++ [10]
theorem rshown_len (cs : List RC) (h : ∀ c ∈ cs, c.Small) : (rshown cs).length ≤ 321 * cs.length := by
  induction cs with
  | nil => simp [rshown]
  | cons c cs ih =>
    have h1 := c.shown_len (h c (by simp))
    have h2 := ih (fun d hd => h d (by simp [hd]))
    unfold rshown at h2 ⊢
    simp only [List.flatMap_cons, List.length_append, List.length_cons, List.length_nil]
    omega
theorem rshown_step (cs : List RC) (k : Nat) (hk : k < cs.length) : bs (rshown (cs.take k)) ++ bs (cs[k]).shown ++ ⟨#[10]⟩ = bs (rshown (cs.take (k + 1))) := by
  rw [List.take_succ_eq_append_getElem hk]
  unfold rshown
  rw [List.flatMap_append, List.flatMap_singleton, bs_cat]
  have := bs_cat (List.flatMap (fun c => c.shown ++ [10]) (List.take k cs) ++ (cs[k]).shown) [10]
  rw [List.append_assoc] at this
  exact this
theorem RBaseIs.below {w w' : World} {base bb : Nat} {cs : List RC} (h : RBaseIs w base bb cs) (hb : Below w.heap.size w w') : RBaseIs w' base bb cs := by
  obtain ⟨v, h1, h2⟩ := h
  exact ⟨v, h1.below hb, h2.below hb⟩

set_option maxHeartbeats 2000000 in
set_option maxRecDepth 100000 in
theorem rprint_c (w : World) (base bb : Nat) (cs : List RC) (hI : RBaseIs w base bb cs) (hs : ∀ c ∈ cs, c.Small) (hn : cs.length ≤ 40) :
    Calls Tryz.prog 15 #[.pointer (some ⟨bb, 0, none⟩)] w fun e w' => e = .returned (.string (bs (rshown cs))) ∧ Below w.heap.size w w' := by
  obtain ⟨v, hV, hL⟩ := hI
  obtain ⟨ao, cap, rfl⟩ := hL.form
  go_enter Tryz.func15, Tryz.ntmps15
  go_wp2
  go_loopw [3, 4] (fun sv kv wr => ∃ (k : Nat), k ≤ cs.length ∧ kv = .int .i64 k ∧ sv = .string (bs (rshown (cs.take k))) ∧ Below w.heap.size w wr) (fun _ kv _ => cs.length - (intOf kv).toNat)
  case atStart => exact ⟨0, by omega, rfl, rfl, Below.refl _ _⟩
  case round =>
    obtain ⟨k, hk, rfl, rfl, hB⟩ := hrel
    have hsz := hB.size
    have hVr := hV.below hB
    have v0 : wr.cell? ⟨bb, 0, none⟩ = some (.slice ao cs.length cap) := hVr.cell 0
    have hbl := hVr.lt
    have hl := rshown_len (cs.take k) (fun c hc => hs c (List.mem_of_mem_take hc))
    have hlk : (cs.take k).length = k := by simp; omega
    rw [hlk] at hl
    by_cases hlt : k < cs.length
    · obtain ⟨g, tv, bo, bcap, rfl, hg, b0, b1, b2, b3, b4, b5, hT, hR⟩ := rclause_at (hL.below hB) rfl k hlt
      have hsm := hs cs[k] (List.getElem_mem hlt)
      have HS := hid (rshown_step cs k hlt)
      generalize cs[k] = c at *
      obtain ⟨tq, tcap, rfl⟩ := own_form hT
      have hcl := c.shown_len hsm
      obtain ⟨X, HX⟩ : ∃ X, Hid (X = rshown (cs.take k)) := ⟨_, rfl⟩
      rw [← HX.out] at HS hl ⊢
      have hX1 : ¬ 9223372036854775807 < (bs X).size + (bs c.shown).size := by rw [bs_len, bs_len]; omega
      have hX2 : ¬ 9223372036854775807 < (bs X).size + (bs c.shown).size + 1 := by rw [bs_len, bs_len]; omega
      clear hlk HX
      go_wp2_with (go_at_call 36; refine (shownC_c _ base c tq tcap bo bcap (by exact hT) (by exact hR) hsm).mono ?_; rintro e w1 ⟨rfl, hB1⟩)
      exact ⟨⟨k + 1, hlt, by go_num, congrArg Value.string HS.out, hB.trans (hB1.mono hsz)⟩, by simp [intOf]; omega⟩
    · have hke : k = cs.length := by omega
      have HN := hid (show rshown (cs.take k) = rshown cs by rw [hke, List.take_length])
      clear hke
      go_wp2_with fail
      go_ret
      rw [HN.out]
      exact ⟨rfl, hB⟩

/-- How many times an atom is a fact. -/
def factsN (cs : List RC) (x : List UInt8) : Nat := cs.countP fun c => c.body.isEmpty && decide (c.shown = x ++ [46])
theorem factsN_step (cs : List RC) (x : List UInt8) (k : Nat) (hk : k < cs.length) : factsN (cs.take (k + 1)) x = factsN (cs.take k) x + if ((cs[k]).body.isEmpty && decide ((cs[k]).shown = x ++ [46])) = true then 1 else 0 := by
  rw [List.take_succ_eq_append_getElem hk]
  unfold factsN
  rw [List.countP_append, List.countP_singleton]
theorem factsN_le (cs : List RC) (x : List UInt8) : factsN cs x ≤ cs.length := List.countP_le_length

set_option maxHeartbeats 2000000 in
set_option maxRecDepth 100000 in
theorem facts_c (w : World) (base bb : Nat) (cs : List RC) (hI : RBaseIs w base bb cs) (hs : ∀ c ∈ cs, c.Small) (hn : cs.length ≤ 40) (x : List UInt8) (hx : x.length ≤ 1000) :
    Calls Tryz.prog 42 #[.pointer (some ⟨bb, 0, none⟩), .string (bs x)] w fun e w' => e = .returned (.int .i64 (factsN cs x : Nat)) ∧ Below w.heap.size w w' := by
  obtain ⟨v, hV, hL⟩ := hI
  obtain ⟨ao, cap, rfl⟩ := hL.form
  have hxs : ¬ 9223372036854775807 < (bs x).size + 1 := by rw [bs_len]; omega
  have HXD := hid (show bs x ++ ⟨#[46]⟩ = bs (x ++ [46]) from bs_cat x [46])
  go_enter Tryz.func42, Tryz.ntmps42
  go_wp2
  go_loopw [5, 6] (fun nv kv wr => ∃ (k : Nat), k ≤ cs.length ∧ kv = .int .i64 k ∧ nv = .int .i64 (factsN (cs.take k) x : Nat) ∧ Below w.heap.size w wr) (fun _ kv _ => cs.length - (intOf kv).toNat)
  case atStart => exact ⟨0, by omega, rfl, rfl, Below.refl _ _⟩
  case round =>
    obtain ⟨k, hk, rfl, rfl, hB⟩ := hrel
    have hsz := hB.size
    have hVr := hV.below hB
    have v0 : wr.cell? ⟨bb, 0, none⟩ = some (.slice ao cs.length cap) := hVr.cell 0
    have hbl := hVr.lt
    by_cases hlt : k < cs.length
    · obtain ⟨g, tv, bo, bcap, rfl, hg, b0, b1, b2, b3, b4, b5, hT, hR⟩ := rclause_at (hL.below hB) rfl k hlt
      have hsm := hs cs[k] (List.getElem_mem hlt)
      have HST := hid (factsN_step cs x k hlt)
      have hfl := factsN_le (cs.take k) x
      have hlk : (cs.take k).length = k := by simp; omega
      rw [hlk] at hfl
      generalize cs[k] = c at *
      obtain ⟨tq, tcap, rfl⟩ := own_form hT
      obtain ⟨n, HNN⟩ : ∃ n, Hid (n = factsN (cs.take k) x) := ⟨_, rfl⟩
      rw [← HNN.out] at HST hfl ⊢
      clear hlk HNN
      have HB5 := hid b5
      by_cases hbz : c.body.length = 0
      · have hbe : c.body.isEmpty = true := by cases hc : c.body with
          | nil => rfl
          | cons a b => rw [hc] at hbz; simp at hbz
        have hbi : (c.body.length : Int) = 0 := by omega
        have hbb : ((c.body.length : Int) == 0) = true := by rw [hbi]; rfl
        have hq := str_beq c.shown (x ++ [46])
        cases hd : decide (c.shown = x ++ [46])
        · rw [hd] at hq
          have HN := hid (show n = factsN (cs.take (k + 1)) x by rw [HST.out, hbe, hd]; rfl)
          clear HST hbz hbe hd hbi
          go_wp2_with (go_at_call 36; refine (shownC_c _ base c tq tcap bo bcap (by exact hT) (by exact hR) hsm).mono ?_; rintro e w1 ⟨rfl, hB1⟩; have v0 : w1.cell? ⟨bb, 0, none⟩ = some (.slice (some ⟨g, 0, none⟩) cs.length cap) := (hVr.below hB1).cell 0; have b5 := HB5.out; rw [← hB1.cell (p := ⟨g, k * 6 + 5, none⟩) hg] at b5; rw [← HXD.out] at hq)
          exact ⟨⟨k + 1, hlt, by go_num, by rw [HN.out], hB.trans (hB1.mono hsz)⟩, by simp [intOf]; omega⟩
        · rw [hd] at hq
          have HN := hid (show n + 1 = factsN (cs.take (k + 1)) x by rw [HST.out, hbe, hd]; rfl)
          clear HST hbz hbe hd hbi
          go_wp2_with (go_at_call 36; refine (shownC_c _ base c tq tcap bo bcap (by exact hT) (by exact hR) hsm).mono ?_; rintro e w1 ⟨rfl, hB1⟩; have v0 : w1.cell? ⟨bb, 0, none⟩ = some (.slice (some ⟨g, 0, none⟩) cs.length cap) := (hVr.below hB1).cell 0; have b5 := HB5.out; rw [← hB1.cell (p := ⟨g, k * 6 + 5, none⟩) hg] at b5; rw [← HXD.out] at hq)
          exact ⟨⟨k + 1, hlt, by go_num, by rw [← HN.out]; go_num, hB.trans (hB1.mono hsz)⟩, by simp [intOf]; omega⟩
      · have hbe : c.body.isEmpty = false := by cases hc : c.body with
          | nil => rw [hc] at hbz; simp at hbz
          | cons a b => rfl
        have hbi : ¬ (c.body.length : Int) = 0 := by omega
        have hbb : ((c.body.length : Int) == 0) = false := by simpa using hbi
        have HN := hid (show n = factsN (cs.take (k + 1)) x by rw [HST.out, hbe]; rfl)
        clear HST hbz hbe
        go_wp2_with (go_at_call 36; refine (shownC_c _ base c tq tcap bo bcap (by exact hT) (by exact hR) hsm).mono ?_; rintro e w1 ⟨rfl, hB1⟩; have v0 : w1.cell? ⟨bb, 0, none⟩ = some (.slice (some ⟨g, 0, none⟩) cs.length cap) := (hVr.below hB1).cell 0; have b5 := HB5.out; rw [← hB1.cell (p := ⟨g, k * 6 + 5, none⟩) hg] at b5)
        exact ⟨⟨k + 1, hlt, by go_num, by rw [HN.out], hB.trans (hB1.mono hsz)⟩, by simp [intOf]; omega⟩
    · have hke : k = cs.length := by omega
      have HN := hid (show factsN (cs.take k) x = factsN cs x by rw [hke, List.take_length])
      clear hke
      go_wp2_with fail
      go_ret
      rw [HN.out]
      exact ⟨rfl, hB⟩

end Go.Proofs.YtpbfiffgcgnidaaGreatDoor
