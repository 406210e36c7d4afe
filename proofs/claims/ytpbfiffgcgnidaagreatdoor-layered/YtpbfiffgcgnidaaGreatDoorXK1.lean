/-
  OUR OWN. A text's pieces, and the document's own way to read them. No code here.
-/
import Derived.Test.YtpbfiffgcgnidaaGreatDoorXLoad
namespace Go.Proofs.YtpbfiffgcgnidaaGreatDoor

structure Pc where
  mark : UInt8
  s : List UInt8
  pl : Nat
def signB (c : Int) : Bool := c == 40 || c == 41 || c == 44 || c == 46 || c == 33
/-- How many of the first bytes fit. -/
def wend (fits : Int → Bool) : List UInt8 → Nat
  | [] => 0
  | c :: l => if fits (c.toNat : Int) = true then wend fits l + 1 else 0
/-- One piece at a place: what it is, how many bytes it has. -/
def pc1 (p : Nat) (c : UInt8) (l : List UInt8) : Option (List Pc × Nat) :=
  if blank (c.toNat : Int) = true then some ([], 1)
  else if signB (c.toNat : Int) = true then some ([⟨c, [], p⟩], 1)
  else if ((c.toNat : Int) == 58 && hd l == 45) = true then some ([⟨c, [], p⟩], 2)
  else if small (c.toNat : Int) = true then (if 12 < wend smallDig l + 1 then none else some ([⟨110, (c :: l).take (wend smallDig l + 1), p⟩], wend smallDig l + 1))
  else if great (c.toNat : Int) = true then (if 12 < wend letterDig l + 1 then none else some ([⟨118, (c :: l).take (wend letterDig l + 1), p⟩], wend letterDig l + 1))
  else none
theorem pc1_pos {p : Nat} {c : UInt8} {l : List UInt8} {q : List Pc} {k : Nat} (h : pc1 p c l = some (q, k)) : 0 < k := by
  unfold pc1 at h
  repeat' split at h
  all_goals simp at h
  all_goals omega
/-- The pieces of what is left of a text of n bytes. -/
def toks (n : Nat) : Nat → List UInt8 → Option (List Pc)
  | _, [] => some []
  | 0, _ :: _ => none
  | f + 1, c :: l => match pc1 (n - (l.length + 1)) c l with
    | none => none
    | some (q, k) => (toks n f ((c :: l).drop k)).map (q ++ ·)
theorem toks_fuel (n : Nat) (f : Nat) : ∀ (g : Nat) (l : List UInt8), l.length ≤ f → l.length ≤ g → toks n f l = toks n g l := by
  induction f with
  | zero => intro g l h1 h2; cases l with
    | nil => cases g <;> rfl
    | cons c l => simp at h1
  | succ f ih =>
    intro g l h1 h2
    cases l with
    | nil => cases g <;> rfl
    | cons c l =>
      cases g with
      | zero => simp at h2
      | succ g =>
        unfold toks
        cases hp : pc1 (n - (l.length + 1)) c l with
        | none => rfl
        | some x =>
          obtain ⟨q, k⟩ := x
          have hk := pc1_pos hp
          simp only []
          rw [ih g _ (by simp at *; omega) (by simp at *; omega)]
def T (n : Nat) (l : List UInt8) : Option (List Pc) := toks n l.length l
theorem T_nil (n : Nat) : T n [] = some [] := rfl
theorem T_cons (n : Nat) (c : UInt8) (l : List UInt8) : T n (c :: l) = match pc1 (n - (c :: l).length) c l with
    | none => none
    | some (q, k) => (T n ((c :: l).drop k)).map (q ++ ·) := by
  unfold T
  rw [List.length_cons, toks]
  cases hp : pc1 (n - (l.length + 1)) c l with
  | none => rfl
  | some x =>
    obtain ⟨q, k⟩ := x
    have hk := pc1_pos hp
    simp only []
    rw [toks_fuel n l.length _ _ (by simp; omega) (Nat.le_refl _)]
theorem omap_nil (o : Option (List Pc)) : o.map (([] : List Pc) ++ ·) = o := by cases o <;> simp
theorem T_skip (n : Nat) (l : List UInt8) : T n (skipL l) = T n l := by
  induction l with
  | nil => rfl
  | cons c l ih =>
    unfold skipL
    split
    · rename_i hb
      rw [ih, T_cons, pc1, if_pos hb]
      simp only [List.drop_succ_cons, List.drop_zero]
      rw [omap_nil]
    · rfl
theorem skipL_head (l : List UInt8) : skipL l = [] ∨ ∃ c r, skipL l = c :: r ∧ blank (c.toNat : Int) = false := by
  induction l with
  | nil => exact .inl rfl
  | cons c l ih =>
    unfold skipL
    split
    · exact ih
    · rename_i hb; exact .inr ⟨c, l, rfl, by simpa using hb⟩
theorem skipL_len (l : List UInt8) : (skipL l).length ≤ l.length := by
  induction l with
  | nil => simp [skipL]
  | cons c l ih => unfold skipL; split <;> simp <;> omega
theorem skipL_skip (l : List UInt8) : skipL (skipL l) = skipL l := by
  rcases skipL_head l with h | ⟨c, r, h, hb⟩
  · rw [h]; rfl
  · rw [h]; simp [skipL, hb]
/-- A sign. -/
theorem T_sign (n : Nat) (c : UInt8) (l : List UInt8) (h : signB (c.toNat : Int) = true) : T n (c :: l) = (T n l).map (⟨c, [], n - (c :: l).length⟩ :: ·) := by
  have hb : blank (c.toNat : Int) = false := by
    unfold signB at h; unfold blank
    simp only [Bool.or_eq_true, beq_iff_eq] at h
    rw [Bool.or_eq_false_iff]
    constructor <;> (rw [beq_eq_false_iff_ne]; omega)
  rw [T_cons, pc1, if_neg (by simp [hb]), if_pos h]
  rfl
theorem T_colon (n : Nat) (l : List UInt8) : T n (58 :: l) = if (hd l == 45) = true then (T n l.tail).map (⟨58, [], n - (58 :: l).length⟩ :: ·) else none := by
  rw [T_cons, pc1, if_neg (by decide), if_neg (by decide)]
  have e : (((58 : UInt8).toNat : Int) == 58) = true := by decide
  rw [e, Bool.true_and]
  cases h : (hd l == 45)
  · rw [if_neg (by simp), if_neg (by decide), if_neg (by decide)]; rfl
  · cases l with
    | nil => simp [hd] at h
    | cons d r => rfl
theorem wlen_wend (fits : Int → Bool) (n : Nat) (l : List UInt8) : (wlen fits n l = wend fits l ∧ fits (hd (l.drop (wlen fits n l))) = fits (hd (l.drop (wend fits l))) ∧ wend fits l ≤ n) ∨ (wlen fits n l = n ∧ n < wend fits l) := by
  induction n generalizing l with
  | zero =>
    cases l with
    | nil => left; simp [wlen, wend]
    | cons c l =>
      unfold wlen wend
      split
      · right; simp
      · left; simp
  | succ n ih =>
    cases l with
    | nil => left; simp [wlen, wend]
    | cons c l =>
      unfold wlen wend
      split
      · rcases ih l with ⟨h1, h2, h3⟩ | ⟨h1, h2⟩
        · left; exact ⟨by rw [h1], by simpa using h2, by omega⟩
        · right; exact ⟨by rw [h1], by omega⟩
      · left; simp
theorem wend_stop (fits : Int → Bool) (h0 : fits 0 = false) (l : List UInt8) : fits (hd (l.drop (wend fits l))) = false := by
  induction l with
  | nil => simpa [wend, hd] using h0
  | cons c l ih =>
    unfold wend
    split
    · simpa using ih
    · rename_i h; simpa [hd] using h
theorem wend_more (fits : Int → Bool) (n : Nat) (l : List UInt8) (h : n < wend fits l) : fits (hd (l.drop n)) = true := by
  induction n generalizing l with
  | zero =>
    cases l with
    | nil => simp [wend] at h
    | cons c l =>
      unfold wend at h
      split at h
      · rename_i hc; simpa [hd] using hc
      · omega
  | succ n ih =>
    cases l with
    | nil => simp [wend] at h
    | cons c l =>
      unfold wend at h
      split at h
      · simpa using ih l (by omega)
      · omega
/-- No word begins so. -/
def Word1 (p : Pc) : Prop := p.mark = 110 ∨ p.mark = 118
theorem smallDig_zero : smallDig 0 = false := by decide
theorem letterDig_zero : letterDig 0 = false := by decide
theorem small_fits (c : Int) (h : small c = true) : smallDig c = true ∧ blank c = false ∧ signB c = false ∧ (c == 58) = false ∧ letterDig c = true := by
  unfold small at h
  simp only [Bool.and_eq_true, decide_eq_true_eq] at h
  have hs : small c = true := by unfold small; simp [h]
  refine ⟨by simp [smallDig, hs], ?_, ?_, ?_, by simp [letterDig, smallDig, hs]⟩
  · unfold blank; rw [Bool.or_eq_false_iff]; constructor <;> (rw [beq_eq_false_iff_ne]; omega)
  · unfold signB; simp only [Bool.or_eq_false_iff, beq_eq_false_iff_ne]; omega
  · rw [beq_eq_false_iff_ne]; omega
theorem great_fits (c : Int) (h : great c = true) : letterDig c = true ∧ blank c = false ∧ signB c = false ∧ (c == 58) = false ∧ small c = false := by
  unfold great at h
  simp only [Bool.and_eq_true, decide_eq_true_eq] at h
  have hs : great c = true := by unfold great; simp [h]
  refine ⟨by simp [letterDig, hs], ?_, ?_, ?_, ?_⟩
  · unfold blank; rw [Bool.or_eq_false_iff]; constructor <;> (rw [beq_eq_false_iff_ne]; omega)
  · unfold signB; simp only [Bool.or_eq_false_iff, beq_eq_false_iff_ne]; omega
  · rw [beq_eq_false_iff_ne]; omega
  · unfold small; rw [Bool.and_eq_false_iff]; left; simp; omega
/-- A word, behind which none of its own kind's bytes stands. -/
theorem T_small (n : Nat) (m : List UInt8) (h : small (hd m) = true) : T n m = if 12 < wend smallDig m then none else (T n (m.drop (wend smallDig m))).map (⟨110, m.take (wend smallDig m), n - m.length⟩ :: ·) := by
  cases m with
  | nil => simp [hd, small] at h
  | cons c l =>
    have h' : small (c.toNat : Int) = true := h
    obtain ⟨f1, f2, f3, f4, _⟩ := small_fits _ h'
    have e : wend smallDig (c :: l) = wend smallDig l + 1 := by rw [wend, if_pos f1]
    rw [e, T_cons, pc1, if_neg (by simp [f2]), if_neg (by simp [f3]), if_neg (by simp [f4]), if_pos h']
    split
    · rename_i x hx; split at hx
      · rename_i h12; rw [if_pos h12]
      · simp at hx
    · rename_i x q k hx; split at hx
      · simp at hx
      · rename_i h12
        rw [if_neg h12]
        simp only [Option.some.injEq, Prod.mk.injEq] at hx
        obtain ⟨rfl, rfl⟩ := hx
        rfl
theorem T_great (n : Nat) (m : List UInt8) (h : great (hd m) = true) : T n m = if 12 < wend letterDig m then none else (T n (m.drop (wend letterDig m))).map (⟨118, m.take (wend letterDig m), n - m.length⟩ :: ·) := by
  cases m with
  | nil => simp [hd, great] at h
  | cons c l =>
    have h' : great (c.toNat : Int) = true := h
    obtain ⟨f1, f2, f3, f4, f5⟩ := great_fits _ h'
    have e : wend letterDig (c :: l) = wend letterDig l + 1 := by rw [wend, if_pos f1]
    rw [e, T_cons, pc1, if_neg (by simp [f2]), if_neg (by simp [f3]), if_neg (by simp [f4]), if_neg (by simp [f5]), if_pos h']
    split
    · rename_i x hx; split at hx
      · rename_i h12; rw [if_pos h12]
      · simp at hx
    · rename_i x q k hx; split at hx
      · simp at hx
      · rename_i h12
        rw [if_neg h12]
        simp only [Option.some.injEq, Prod.mk.injEq] at hx
        obtain ⟨rfl, rfl⟩ := hx
        rfl
/-- Where a byte of a word stands first, what is cut is nothing or begins with a word. -/
theorem T_wordy (n : Nat) (m : List UInt8) (h : letterDig (hd m) = true) (qs : List Pc) (hq : T n m = some qs) : ∃ p r, qs = p :: r ∧ Word1 p := by
  by_cases h1 : small (hd m) = true
  · rw [T_small n m h1] at hq
    split at hq
    · simp at hq
    · rw [Option.map_eq_some_iff] at hq
      obtain ⟨r, _, rfl⟩ := hq
      exact ⟨_, r, rfl, .inl rfl⟩
  · by_cases h2 : great (hd m) = true
    · rw [T_great n m h2] at hq
      split at hq
      · simp at hq
      · rw [Option.map_eq_some_iff] at hq
        obtain ⟨r, _, rfl⟩ := hq
        exact ⟨_, r, rfl, .inr rfl⟩
    · cases m with
      | nil => simp [hd, letterDig, great, smallDig, small] at h
      | cons c l =>
        exfalso
        have hd' : 48 ≤ (c.toNat : Int) ∧ (c.toNat : Int) ≤ 57 := by
          have h3 : letterDig (c.toNat : Int) = true := h
          have h1' : ¬ small (c.toNat : Int) = true := h1
          have h2' : ¬ great (c.toNat : Int) = true := h2
          unfold letterDig smallDig at h3
          simp only [Bool.not_eq_true] at h1' h2'
          rw [h1', h2'] at h3
          simpa using h3
        have f1 : blank (c.toNat : Int) = false := by unfold blank; rw [Bool.or_eq_false_iff]; constructor <;> (rw [beq_eq_false_iff_ne]; omega)
        have f2 : signB (c.toNat : Int) = false := by unfold signB; simp only [Bool.or_eq_false_iff, beq_eq_false_iff_ne]; omega
        have f3 : ((c.toNat : Int) == 58) = false := by rw [beq_eq_false_iff_ne]; omega
        rw [T_cons, pc1, if_neg (by simp [f1]), if_neg (by simp [f2]), if_neg (by simp [f3]), if_neg (show ¬ small (c.toNat : Int) = true from h1), if_neg (show ¬ great (c.toNat : Int) = true from h2)] at hq
        simp at hq
/-- A parser that goes on behind a word: it wants no word there. -/
theorem word_bind {A : Type} (n : Nat) (m : List UInt8) (fits : Int → Bool) (hfl : ∀ c, fits c = true → letterDig c = true) (mk : UInt8)
    (hT : T n m = if 12 < wend fits m then none else (T n (m.drop (wend fits m))).map (⟨mk, m.take (wend fits m), n - m.length⟩ :: ·)) (K : List Pc → Option A) (G : Pc → List Pc → Option A)
    (hG : ∀ p, p.mark = mk → p.s = m.take (wlen fits 12 m) → p.pl = n - m.length → ∀ r, G p r = K r) (hK : ∀ p r, Word1 p → K (p :: r) = none) :
    (T n m).bind (fun ps => match ps with | p :: r => G p r | [] => none) = (T n (m.drop (wlen fits 12 m))).bind K := by
  rcases wlen_wend fits 12 m with ⟨h1, h2, h3⟩ | ⟨h1, h2⟩
  · rw [hT, if_neg (by omega), h1]
    cases hq : T n (m.drop (wend fits m)) with
    | none => rfl
    | some qs => exact hG ⟨mk, m.take (wend fits m), n - m.length⟩ rfl (by rw [h1]) rfl qs
  · rw [hT, if_pos h2, h1]
    cases hq : T n (m.drop 12) with
    | none => rfl
    | some qs =>
      obtain ⟨p, r, rfl, hw⟩ := T_wordy n _ (hfl _ (wend_more fits 12 m h2)) qs hq
      rw [Option.bind_some, hK p r hw]
      rfl
structure RT where
  s : List UInt8
  var : Bool
  pl : Nat
structure RA where
  name : List UInt8
  ts : List RT
  pl : Nat
  bang : Nat
  neg : Bool
structure RC where
  head : RA
  body : List RA
def Pc.rt (p : Pc) : RT := ⟨p.s, p.mark == 118, p.pl⟩
def wordy (p : Pc) : Bool := p.mark == 110 || p.mark == 118
def termsP : List RT → List Pc → Option (List RT × List Pc)
  | _, [] => none
  | acc, p :: r =>
    if wordy p = true then
      match r with
      | [] => some (acc ++ [p.rt], [])
      | q :: r' => if (q.mark == 44) = true then termsP (acc ++ [p.rt]) r' else some (acc ++ [p.rt], q :: r')
    else none
def closeP {A : Type} (K : List RT → List Pc → Option A) (x : List RT × List Pc) : Option A :=
  match x.2 with
  | [] => none
  | c :: r => if (c.mark == 41 && decide (x.1.length ≤ 3)) = true then K x.1 r else none
def coreP (neg : Bool) (bang : Nat) : List Pc → Option (RA × List Pc)
  | [] => none
  | p :: r =>
    if (p.mark == 110) = true then
      match r with
      | [] => some (⟨p.s, [], p.pl, bang, neg⟩, [])
      | q :: r' => if (q.mark == 40) = true then (termsP [] r').bind (closeP fun ts r'' => some (⟨p.s, ts, p.pl, bang, neg⟩, r'')) else some (⟨p.s, [], p.pl, bang, neg⟩, q :: r')
    else none
def atomP : List Pc → Option (RA × List Pc)
  | [] => none
  | p :: r => if (p.mark == 33) = true then coreP true p.pl r else coreP false 0 (p :: r)
def goesOn (acc : List RA) (p : Pc) : Bool := p.mark == 58 && acc.isEmpty || p.mark == 44 && !acc.isEmpty
def bodyP : Nat → List RA → List Pc → Option (List RA × List Pc)
  | 0, acc, ps => some (acc, ps)
  | _ + 1, acc, [] => some (acc, [])
  | f + 1, acc, p :: r => if goesOn acc p = true then (atomP r).bind fun x => bodyP f (acc ++ [x.1]) x.2 else some (acc, p :: r)
def clauseP (ps : List Pc) : Option (RC × List Pc) :=
  (atomP ps).bind fun x =>
    if x.1.neg = true then none
    else (bodyP x.2.length [] x.2).bind fun y =>
      match y.2 with
      | [] => none
      | p :: r => if (p.mark == 46 && decide (y.1.length ≤ 4)) = true then some (⟨x.1, y.1⟩, r) else none
def progP : Nat → List RC → List Pc → Option (List RC)
  | _, acc, [] => some acc
  | 0, _, _ :: _ => none
  | f + 1, acc, p :: r => (clauseP (p :: r)).bind fun x => if acc.length = 40 then none else progP f (acc ++ [x.1]) x.2

theorem termsP_more (acc : List RT) (ps : List Pc) (ts : List RT) (r : List Pc) (h : termsP acc ps = some (ts, r)) : acc.length < ts.length := by
  induction hn : ps.length using Nat.strongRecOn generalizing acc ps with
  | _ n ih =>
    cases ps with
    | nil => simp [termsP] at h
    | cons p ps =>
      unfold termsP at h
      split at h
      · cases ps with
        | nil => simp at h; rw [← h.1]; simp
        | cons q r' =>
          simp only [] at h
          split at h
          · have := ih r'.length (by simp at hn; omega) _ _ h rfl
            simp at this; omega
          · simp at h; rw [← h.1]; simp
      · simp at h

/- A sign at the front. -/
theorem T_sk (n : Nat) (l : List UInt8) {A : Type} (K : List Pc → Option A) : (T n l).bind K = (T n (skipL l)).bind K := by rw [T_skip]
theorem mark_of (c : UInt8) (m : Nat) (hm : m < 256) (h : ((c.toNat : Int) == (m : Int)) = true) : c = UInt8.ofNat m := by
  rw [beq_iff_eq] at h
  apply UInt8.toNat_inj.1
  rw [UInt8.toNat_ofNat']
  omega
def front {A : Type} (m : UInt8) (K E : List Pc → Option A) : List Pc → Option A
  | [] => E []
  | p :: r => if (p.mark == m) = true then K r else E (p :: r)
def wordly {A : Type} (G : RT → List Pc → Option A) : List Pc → Option A
  | [] => none
  | p :: r => if wordy p = true then G p.rt r else none
/-- The first piece of what is left bears the mark m just if the byte m stands there. -/
theorem T_front (n : Nat) (l : List UInt8) (m : UInt8) (hm : signB (m.toNat : Int) = true ∨ m = 58) {A : Type} (K : List Pc → Option A) (E : List Pc → Option A) :
    (T n l).bind (front m K E) =
      if tookB l (m.toNat : Int) = true then (if m = 58 then (if (hd (tookL l 58) == 45) = true then (T n (tookL l 58).tail).bind K else none) else (T n (tookL l (m.toNat : Int))).bind K) else (T n l).bind E := by
  rw [T_sk n l E, T_sk]
  unfold tookL
  rcases skipL_head l with h | ⟨c, r, h, hb⟩
  · have ht : tookB l (m.toNat : Int) = false := by
      unfold tookB; rw [h]
      rw [beq_eq_false_iff_ne]
      intro e
      rcases hm with hm | rfl
      · rw [← e] at hm; simp [hd, signB] at hm
      · simp [hd] at e
    rw [ht, h, T_nil]
    rfl
  · have htk : ∀ x : Int, tookB l x = ((c.toNat : Int) == x) := by intro x; unfold tookB; rw [h]; rfl
    rw [h, htk]
    by_cases hc : c = m
    · subst hc
      rw [if_pos (by simp)]
      by_cases h58 : c = 58
      · subst h58
        have e1 : (if (((58 : UInt8).toNat : Int) == 58) = true then (58 :: r).tail else 58 :: r) = r := rfl
        rw [if_pos rfl, htk, e1, T_colon]
        cases hh : (hd r == 45)
        · rfl
        · rw [if_pos rfl, if_pos rfl]
          cases T n r.tail with
          | none => rfl
          | some q => rfl
      · rw [if_neg h58]
        have e1 : (if (((c.toNat : Int)) == (c.toNat : Int)) = true then (c :: r).tail else c :: r) = r := by simp
        rw [e1]
        have hs : signB (c.toNat : Int) = true := by
          rcases hm with hm | rfl
          · exact hm
          · exact absurd rfl h58
        rw [T_sign n c r hs]
        cases T n r with
        | none => rfl
        | some q => simp [front]
    · have hne : ((c.toNat : Int) == (m.toNat : Int)) = false := by
        rw [beq_eq_false_iff_ne]
        intro e
        exact hc (UInt8.toNat_inj.1 (by omega))
      rw [hne, if_neg (by simp)]
      -- the first piece's mark is not m
      have key : ∀ qs, T n (c :: r) = some qs → ∃ p q, qs = p :: q ∧ p.mark ≠ m := by
        intro qs hq
        rw [T_cons] at hq
        unfold pc1 at hq
        have hmw : m ≠ 110 ∧ m ≠ 118 := by
          rcases hm with hm | rfl
          · constructor <;> (intro e; subst e; simp [signB] at hm)
          · decide
        repeat' split at hq
        all_goals first
          | (simp at hq; done)
          | skip
        all_goals (rename_i heq; repeat' split at heq)
        all_goals first
          | (simp at heq; done)
          | skip
        all_goals (simp only [Option.some.injEq, Prod.mk.injEq] at heq; obtain ⟨rfl, rfl⟩ := heq)
        all_goals (rw [Option.map_eq_some_iff] at hq; obtain ⟨q, _, rfl⟩ := hq)
        · exfalso; simp_all
        · exact ⟨_, q, rfl, hc⟩
        · exact ⟨_, q, rfl, hc⟩
        · exact ⟨_, q, rfl, fun e => hmw.1 e.symm⟩
        · exact ⟨_, q, rfl, fun e => hmw.2 e.symm⟩
      cases hq : T n (c :: r) with
      | none => rfl
      | some qs =>
        obtain ⟨p, q, rfl, hp⟩ := key qs hq
        simp [front, hp]
theorem T_mark (n : Nat) (l : List UInt8) (m : UInt8) (mi : Int) (hi : (m.toNat : Int) = mi) (hm : signB mi = true) {A : Type} (K E : List Pc → Option A) :
    (T n l).bind (front m K E) = if tookB l mi = true then (T n (tookL l mi)).bind K else (T n l).bind E := by
  subst hi
  rw [T_front n l m (.inl hm) K E, if_neg (show ¬ m = 58 by intro e; subst e; simp [signB] at hm)]
theorem T_colon_front (n : Nat) (l : List UInt8) {A : Type} (K E : List Pc → Option A) :
    (T n l).bind (front 58 K E) = if tookB l 58 = true then (if (hd (tookL l 58) == 45) = true then (T n (tookL l 58).tail).bind K else none) else (T n l).bind E := by
  have h := T_front n l 58 (.inr rfl) K E
  rw [if_pos rfl] at h
  exact h

end Go.Proofs.YtpbfiffgcgnidaaGreatDoor

namespace Go.Proofs.YtpbfiffgcgnidaaGreatDoor
theorem tookB_skip (l : List UInt8) (m : Int) : tookB (skipL l) m = tookB l m := by unfold tookB; rw [skipL_skip]
theorem tookL_skip (l : List UInt8) (m : Int) : tookL (skipL l) m = tookL l m := by unfold tookL; rw [tookB_skip, skipL_skip]
theorem tookL_no (l : List UInt8) (m : Int) (h : tookB l m = false) : tookL l m = skipL l := by unfold tookL; rw [h]; rfl
theorem T_letterless (n : Nat) (m : List UInt8) (hb : blank (hd m) = false) (h1 : small (hd m) = false) (h2 : great (hd m) = false) (qs : List Pc) (hq : T n m = some qs) : qs = [] ∨ ∃ p r, qs = p :: r ∧ wordy p = false := by
  cases m with
  | nil => rw [T_nil] at hq; simp at hq; exact .inl hq
  | cons c l =>
    right
    have h1' : small (c.toNat : Int) = false := h1
    have h2' : great (c.toNat : Int) = false := h2
    have hb' : blank (c.toNat : Int) = false := hb
    rw [T_cons] at hq
    unfold pc1 at hq
    rw [if_neg (by simp [hb'])] at hq
    by_cases hs : signB (c.toNat : Int) = true
    · rw [if_pos hs] at hq
      simp only [] at hq
      rw [Option.map_eq_some_iff] at hq
      obtain ⟨q, _, rfl⟩ := hq
      refine ⟨_, q, rfl, ?_⟩
      unfold wordy
      rw [Bool.or_eq_false_iff]
      constructor <;> (rw [beq_eq_false_iff_ne]; intro e; simp only [] at e; subst e; simp [signB] at hs)
    · rw [if_neg hs] at hq
      by_cases h58 : ((c.toNat : Int) == 58 && hd l == 45) = true
      · rw [if_pos h58] at hq
        simp only [] at hq
        rw [Option.map_eq_some_iff] at hq
        obtain ⟨q, _, rfl⟩ := hq
        refine ⟨_, q, rfl, ?_⟩
        simp only [Bool.and_eq_true, beq_iff_eq] at h58
        unfold wordy
        rw [Bool.or_eq_false_iff]
        constructor <;> (rw [beq_eq_false_iff_ne]; intro e; simp only [] at e; rw [e] at h58; simp at h58)
      · rw [if_neg h58, if_neg (by simp [h1']), if_neg (by simp [h2'])] at hq
        simp at hq
theorem skip_blank (l : List UInt8) : blank (hd (skipL l)) = false := by
  rcases skipL_head l with h | ⟨c, r, h, hb⟩
  · rw [h]; rfl
  · rw [h]; exact hb

/- The reader, with its data. -/
def argsT (n : Nat) : Nat → List RT → List UInt8 → Option (List RT × List UInt8)
  | 0, _, _ => none
  | f + 1, acc, l =>
    if termB l = false then none
    else if f = 0 then (if tookB (termL l) 41 = true then some (acc ++ [⟨termW l, isVar (termW l), n - (skipL l).length⟩], tookL (termL l) 41) else none)
    else if tookB (termL l) 44 = false then (if tookB (tookL (termL l) 44) 41 = true then some (acc ++ [⟨termW l, isVar (termW l), n - (skipL l).length⟩], tookL (tookL (termL l) 44) 41) else none)
    else argsT n f (acc ++ [⟨termW l, isVar (termW l), n - (skipL l).length⟩]) (tookL (termL l) 44)
theorem argsR_T (s : ByteArray) (nm : List UInt8) (np f : Nat) (acc : List RT) (l : List UInt8) :
    match argsT s.size (f + 1) acc l with
    | none => (argsR s nm np (f + 1) (acc.map RT.s) (acc.map RT.pl) l).ok = false
    | some (ts, r) => argsR s nm np (f + 1) (acc.map RT.s) (acc.map RT.pl) l = ⟨true, nm, ts.map RT.s, np, ts.map RT.pl, r⟩ := by
  induction f generalizing acc l with
  | zero =>
    cases h1 : termB l
    · simp [argsT, argsR, h1]
    · cases h2 : tookB (termL l) 41
      · simp [argsT, argsR, h1, h2]
      · simp [argsT, argsR, h1, h2, posOf]
  | succ f ih =>
    rw [argsT, argsR]
    cases h1 : termB l
    · simp
    · cases h2 : tookB (termL l) 44
      · cases h3 : tookB (tookL (termL l) 44) 41
        · simp
        · simp [posOf]
      · have := ih (acc ++ [⟨termW l, isVar (termW l), s.size - (skipL l).length⟩]) (tookL (termL l) 44)
        simpa [posOf] using this
theorem wlen_one (fits : Int → Bool) (m : List UInt8) (h : fits (hd m) = true) (h0 : fits 0 = false) : ∃ c r k, m = c :: r ∧ wlen fits 12 m = k + 1 := by
  cases m with
  | nil => rw [show hd [] = 0 from rfl, h0] at h; simp at h
  | cons c r =>
    refine ⟨c, r, wlen fits 11 r, rfl, ?_⟩
    rw [wlen, if_pos (show fits (c.toNat : Int) = true from h)]
theorem var_small (m : List UInt8) (h : small (hd m) = true) : isVar (m.take (wlen smallDig 12 m)) = false := by
  obtain ⟨c, r, k, rfl, hk⟩ := wlen_one smallDig m (small_fits _ h).1 smallDig_zero
  rw [hk, List.take_succ_cons]
  unfold isVar
  have h' : small (c.toNat : Int) = true := h
  show great (c.toNat : Int) = false
  cases hg : great (c.toNat : Int)
  · rfl
  · have := (great_fits _ hg).2.2.2.2; rw [h'] at this; simp at this
theorem var_great (m : List UInt8) (h : great (hd m) = true) : isVar (m.take (wlen letterDig 12 m)) = true := by
  obtain ⟨c, r, k, rfl, hk⟩ := wlen_one letterDig m (great_fits _ h).1 letterDig_zero
  rw [hk, List.take_succ_cons]
  exact h
/-- A term. -/
theorem term_sim {A : Type} (n : Nat) (l : List UInt8) (G : RT → List Pc → Option A) (hG : ∀ t p r, Word1 p → G t (p :: r) = none) :
    (T n l).bind (wordly G) = if termB l = false then none else (T n (termL l)).bind (G ⟨termW l, isVar (termW l), n - (skipL l).length⟩) := by
  rw [T_sk]
  unfold termB termL termW termN
  generalize hm : skipL l = m
  have hbl : blank (hd m) = false := by rw [← hm]; exact skip_blank l
  by_cases h1 : small (hd m) = true
  · rw [h1, Bool.true_or, if_neg (by simp), if_pos rfl]
    have hw := word_bind n m smallDig (fun c h => by simp [letterDig, h]) 110 (T_small n m h1) (G ⟨m.take (wlen smallDig 12 m), isVar (m.take (wlen smallDig 12 m)), n - m.length⟩) (fun p r => if wordy p = true then G p.rt r else none)
      (by
        intro p hp hs hpl r
        rw [if_pos (by simp [wordy, hp])]
        congr 1
        rw [Pc.rt, hs, hpl, var_small m h1, hp]
        rfl) (fun p r h => hG _ p r h)
    rw [← hw]
    congr 1
    funext ps
    cases ps <;> rfl
  · rw [Bool.not_eq_true] at h1
    by_cases h2 : great (hd m) = true
    · rw [h1, h2, Bool.or_true, if_neg (by simp), if_neg (by simp), if_pos rfl]
      have hw := word_bind n m letterDig (fun c h => h) 118 (T_great n m h2) (G ⟨m.take (wlen letterDig 12 m), isVar (m.take (wlen letterDig 12 m)), n - m.length⟩) (fun p r => if wordy p = true then G p.rt r else none)
        (by
          intro p hp hs hpl r
          rw [if_pos (by simp [wordy, hp])]
          congr 1
          rw [Pc.rt, hs, hpl, var_great m h2, hp]
          rfl) (fun p r h => hG _ p r h)
      rw [← hw]
      congr 1
      funext ps
      cases ps <;> rfl
    · rw [Bool.not_eq_true] at h2
      rw [h1, h2, Bool.or_false, if_pos rfl]
      cases hq : T n m with
      | none => rfl
      | some qs =>
        rcases T_letterless n m hbl h1 h2 qs hq with rfl | ⟨p, r, rfl, hp⟩
        · rfl
        · simp [wordly, hp]
theorem close_word {A : Type} (K : List RT → List Pc → Option A) (ts : List RT) (p : Pc) (r : List Pc) (h : Word1 p) : closeP K (ts, p :: r) = none := by
  unfold closeP
  have : (p.mark == 41) = false := by rcases h with h | h <;> (rw [h]; rfl)
  simp [this]
theorem none_bind {A B : Type} (o : Option A) : (o.bind fun _ => (none : Option B)) = none := by cases o <;> rfl
theorem close_sim {A : Type} (n : Nat) (l : List UInt8) (K : List RT → List Pc → Option A) (ts : List RT) (h3 : ts.length ≤ 3) : (T n l).bind (fun r => closeP K (ts, r)) = if tookB l 41 = true then (T n (tookL l 41)).bind (K ts) else none := by
  have h := T_mark n l 41 41 rfl (by decide) (K ts) (fun _ => none)
  rw [none_bind] at h
  rw [← h]
  congr 1
  funext r
  cases r with
  | nil => rfl
  | cons p r => unfold closeP front; simp [h3]
theorem terms_front {A : Type} (K : List RT → List Pc → Option A) (acc : List RT) (q : List Pc) : (termsP acc q).bind (closeP K) = wordly (fun t => front 44 (fun r' => (termsP (acc ++ [t]) r').bind (closeP K)) (fun r => closeP K (acc ++ [t], r))) q := by
  cases q with
  | nil => simp [termsP, wordly]
  | cons p r =>
    cases hw : wordy p
    · cases r <;> simp [termsP, wordly, hw]
    · cases r with
      | nil => simp [termsP, wordly, front, hw]
      | cons q r =>
        cases hq : (q.mark == 44)
        · simp [termsP, wordly, front, hw, hq]
        · simp [termsP, wordly, front, hw, hq]
theorem args_sim {A : Type} (n : Nat) (K : List RT → List Pc → Option A) (f : Nat) (acc : List RT) (l : List UInt8) (hacc : acc.length + (f + 1) = 3) :
    (T n l).bind (fun q => (termsP acc q).bind (closeP K)) = (argsT n (f + 1) acc l).bind (fun x => (T n x.2).bind (K x.1)) := by
  induction f generalizing acc l with
  | zero =>
    have hs := term_sim n l (fun t => front 44 (fun r' => (termsP (acc ++ [t]) r').bind (closeP K)) (fun r => closeP K (acc ++ [t], r)))
      (by
        intro t p r h
        have : (p.mark == 44) = false := by rcases h with h | h <;> (rw [h]; rfl)
        rw [front, if_neg (by simp [this])]
        exact close_word K _ p r h)
    rw [show (fun q => (termsP acc q).bind (closeP K)) = _ from funext (terms_front K acc), hs, argsT]
    cases h1 : termB l
    · rfl
    · rw [if_neg (by simp), if_neg (by simp), if_pos rfl]
      generalize (⟨termW l, isVar (termW l), n - (skipL l).length⟩ : RT) = t
      have hlen : (acc ++ [t]).length = 3 := by simp; omega
      rw [T_mark n (termL l) 44 44 rfl (by decide)]
      cases h44 : tookB (termL l) 44
      · rw [if_neg (by simp), close_sim n (termL l) K (acc ++ [t]) (by omega)]
        split <;> rfl
      · rw [if_pos rfl]
        have h41 : tookB (termL l) 41 = false := by
          unfold tookB at h44 ⊢
          rw [beq_iff_eq] at h44
          rw [h44]; rfl
        rw [h41, if_neg (by simp)]
        have : (fun r' => (termsP (acc ++ [t]) r').bind (closeP K)) = fun _ => none := by
          funext r'
          cases hq : termsP (acc ++ [t]) r' with
          | none => rfl
          | some x =>
            obtain ⟨ts, r⟩ := x
            have hm := termsP_more _ _ _ _ hq
            rw [Option.bind_some]
            unfold closeP
            cases r with
            | nil => rfl
            | cons c r => simp only []; rw [if_neg]; simp; intro _; omega
        rw [this, none_bind]
        rfl
  | succ f ih =>
    have hs := term_sim n l (fun t => front 44 (fun r' => (termsP (acc ++ [t]) r').bind (closeP K)) (fun r => closeP K (acc ++ [t], r)))
      (by
        intro t p r h
        have : (p.mark == 44) = false := by rcases h with h | h <;> (rw [h]; rfl)
        rw [front, if_neg (by simp [this])]
        exact close_word K _ p r h)
    rw [show (fun q => (termsP acc q).bind (closeP K)) = _ from funext (terms_front K acc), hs, argsT]
    cases h1 : termB l
    · rfl
    · rw [if_neg (by simp), if_neg (by simp), if_neg (by simp)]
      generalize (⟨termW l, isVar (termW l), n - (skipL l).length⟩ : RT) = t
      rw [T_mark n (termL l) 44 44 rfl (by decide)]
      cases h44 : tookB (termL l) 44
      · rw [if_neg (by simp), close_sim n (termL l) K (acc ++ [t]) (by simp; omega), if_pos rfl, tookL_no _ _ h44, tookB_skip, tookL_skip]
        split <;> rfl
      · rw [if_pos rfl, if_neg (by simp)]
        exact ih (acc ++ [t]) (tookL (termL l) 44) (by simp; omega)
theorem T_notmark (n : Nat) (l : List UInt8) (m : UInt8) (hm : signB (m.toNat : Int) = true) (h : tookB l (m.toNat : Int) = false) (p : Pc) (r : List Pc) (hq : T n l = some (p :: r)) : (p.mark == m) = false := by
  have e := T_mark n l m _ rfl hm (fun _ => some true) (fun _ => some false)
  rw [h, if_neg (by simp), hq] at e
  simp only [Option.bind_some, front] at e
  cases hp : (p.mark == m)
  · rfl
  · rw [hp] at e; simp at e
/- An atom. -/
def coreK {A : Type} (K : RA → List Pc → Option A) (neg : Bool) (bang : Nat) (p : Pc) : List Pc → Option A :=
  front 40 (fun r' => (termsP [] r').bind (closeP fun ts r'' => K ⟨p.s, ts, p.pl, bang, neg⟩ r'')) (fun r => K ⟨p.s, [], p.pl, bang, neg⟩ r)
def head110 {A : Type} (G : Pc → List Pc → Option A) : List Pc → Option A
  | [] => none
  | p :: r => if (p.mark == 110) = true then G p r else none
theorem bind_close {A B : Type} (K : List RT → List Pc → Option A) (F : A → Option B) (x : List RT × List Pc) : (closeP K x).bind F = closeP (fun ts r => (K ts r).bind F) x := by
  unfold closeP
  split
  · rfl
  · split <;> rfl
theorem core_front {A : Type} (K : RA → List Pc → Option A) (neg : Bool) (bang : Nat) (q : List Pc) : (coreP neg bang q).bind (fun x => K x.1 x.2) = head110 (coreK K neg bang) q := by
  cases q with
  | nil => rfl
  | cons p r =>
    cases hp : (p.mark == 110)
    · cases r <;> simp [coreP, head110, hp]
    · cases r with
      | nil => simp [coreP, head110, coreK, front, hp]
      | cons q r =>
        cases hq : (q.mark == 40)
        · simp [coreP, head110, coreK, front, hp, hq]
        · simp only [coreP, head110, coreK, front, hp, hq, if_true]
          rw [Option.bind_assoc]
          congr 1
          funext x
          exact bind_close _ _ x
def atomT (n : Nat) (neg : Bool) (bang : Nat) (l : List UInt8) : Option (RA × List UInt8) :=
  if small (hd (skipL l)) = false then none
  else if tookB ((skipL l).drop (wlen smallDig 12 (skipL l))) 40 = false then some (⟨(skipL l).take (wlen smallDig 12 (skipL l)), [], n - (skipL l).length, bang, neg⟩, tookL ((skipL l).drop (wlen smallDig 12 (skipL l))) 40)
  else (argsT n 3 [] (tookL ((skipL l).drop (wlen smallDig 12 (skipL l))) 40)).map fun x => (⟨(skipL l).take (wlen smallDig 12 (skipL l)), x.1, n - (skipL l).length, bang, neg⟩, x.2)
theorem atom_sim {A : Type} (n : Nat) (l : List UInt8) (neg : Bool) (bang : Nat) (K : RA → List Pc → Option A) (hK : ∀ a p r, Word1 p → K a (p :: r) = none) :
    (T n l).bind (fun q => (coreP neg bang q).bind (fun x => K x.1 x.2)) = (atomT n neg bang l).bind (fun x => (T n x.2).bind (K x.1)) := by
  rw [show (fun q => (coreP neg bang q).bind (fun x => K x.1 x.2)) = head110 (coreK K neg bang) from funext (core_front K neg bang), T_sk]
  unfold atomT
  have hbl := skip_blank l
  generalize skipL l = m at *
  by_cases h1 : small (hd m) = true
  · rw [h1, if_neg (by simp)]
    generalize hw : m.take (wlen smallDig 12 m) = w
    have hb := word_bind n m smallDig (fun c h => by simp [letterDig, h]) 110 (T_small n m h1) (coreK K neg bang ⟨110, w, n - m.length⟩) (fun p r => if (p.mark == 110) = true then coreK K neg bang p r else none)
      (by
        intro p hp hs hpl r
        obtain ⟨pm, ps, pp⟩ := p
        simp only [] at hp hs hpl
        subst hp hpl
        rw [hs, hw]
        rfl)
      (by
        intro p r h
        have : (p.mark == 40) = false := by rcases h with h | h <;> (rw [h]; rfl)
        rw [coreK, front, if_neg (by simp [this])]
        exact hK _ p r h)
    have e : head110 (coreK K neg bang) = (fun ps => match ps with | p :: r => (fun p r => if (p.mark == 110) = true then coreK K neg bang p r else none) p r | [] => none) := by
      funext ps
      cases ps <;> rfl
    refine (congrArg (Option.bind (T n m)) e).trans (hb.trans ?_)
    rw [coreK, T_mark n _ 40 40 rfl (by decide)]
    cases h40 : tookB (m.drop (wlen smallDig 12 m)) 40
    · rw [if_neg (by simp), if_pos rfl, tookL_no _ _ h40, T_sk]
      rfl
    · rw [if_pos rfl, if_neg (by simp), args_sim n _ 2 [] _ rfl]
      cases argsT n (2 + 1) [] (tookL (m.drop (wlen smallDig 12 m)) 40) <;> rfl
  · rw [Bool.not_eq_true] at h1
    rw [h1, if_pos rfl]
    cases hq : T n m with
    | none => rfl
    | some qs =>
      by_cases h2 : great (hd m) = true
      · rw [T_great n m h2] at hq
        split at hq
        · simp at hq
        · rw [Option.map_eq_some_iff] at hq
          obtain ⟨r, _, rfl⟩ := hq
          rfl
      · rw [Bool.not_eq_true] at h2
        rcases T_letterless n m hbl h1 h2 qs hq with rfl | ⟨p, r, rfl, hp⟩
        · rfl
        · have : (p.mark == 110) = false := by unfold wordy at hp; rw [Bool.or_eq_false_iff] at hp; exact hp.1
          simp [head110, this]
def litT (n : Nat) (l : List UInt8) : Option (RA × List UInt8) := if tookB l 33 = true then atomT n true (n - (skipL l).length) (tookL l 33) else atomT n false 0 l
theorem lit_sim {A : Type} (n : Nat) (l : List UInt8) (K : RA → List Pc → Option A) (hK : ∀ a p r, Word1 p → K a (p :: r) = none) :
    (T n l).bind (fun q => (atomP q).bind (fun x => K x.1 x.2)) = (litT n l).bind (fun x => (T n x.2).bind (K x.1)) := by
  unfold litT
  cases h33 : tookB l 33
  · rw [if_neg (by simp), ← atom_sim n l false 0 K hK]
    cases hq : T n l with
    | none => rfl
    | some qs =>
      cases qs with
      | nil => rfl
      | cons p r =>
        have hp := T_notmark n l 33 (by decide) h33 p r hq
        rw [Option.bind_some, Option.bind_some, atomP, if_neg (by rw [hp]; simp)]
  · rw [if_pos rfl, ← atom_sim n (tookL l 33) true (n - (skipL l).length) K hK]
    have hsk : ∃ r, skipL l = 33 :: r := by
      unfold tookB at h33
      rcases skipL_head l with h | ⟨c, r, h, _⟩
      · rw [h] at h33; simp [hd] at h33
      · rw [h] at h33
        refine ⟨r, ?_⟩
        rw [h, mark_of c 33 (by decide) h33]
        rfl
    obtain ⟨r, hr⟩ := hsk
    have ht : tookL l 33 = r := by unfold tookL; rw [h33, if_pos rfl, hr]; rfl
    rw [ht, T_sk n l, hr, T_sign n 33 r (by decide)]
    cases T n r with
    | none => rfl
    | some q => simp [atomP]
theorem termsP_len (acc : List RT) (ps : List Pc) (ts : List RT) (r : List Pc) (h : termsP acc ps = some (ts, r)) : r.length ≤ ps.length := by
  induction hn : ps.length using Nat.strongRecOn generalizing acc ps with
  | _ n ih =>
    cases ps with
    | nil => simp [termsP] at h
    | cons p ps =>
      unfold termsP at h
      split at h
      · cases ps with
        | nil => simp at h; rw [h.2]; simp
        | cons q r' =>
          simp only [] at h
          simp at hn
          split at h
          · have := ih r'.length (by omega) _ _ h rfl
            omega
          · simp at h; rw [← h.2]; simp; omega
      · simp at h
theorem coreP_len (neg : Bool) (bang : Nat) (ps : List Pc) (a : RA) (r : List Pc) (h : coreP neg bang ps = some (a, r)) : r.length < ps.length := by
  cases ps with
  | nil => simp [coreP] at h
  | cons p ps =>
    cases hp : (p.mark == 110)
    · cases ps <;> simp [coreP, hp] at h
    · cases ps with
      | nil => simp only [coreP, hp, if_true, Option.some.injEq, Prod.mk.injEq] at h; rw [← h.2]; simp
      | cons q r' =>
        cases hq : (q.mark == 40)
        · simp only [coreP, hp, hq, if_true, Bool.false_eq_true, if_false, Option.some.injEq, Prod.mk.injEq] at h
          rw [← h.2]; simp
        · simp only [coreP, hp, hq, if_true] at h
          rw [Option.bind_eq_some_iff] at h
          obtain ⟨⟨ts, r1⟩, h1, h2⟩ := h
          have hl := termsP_len _ _ _ _ h1
          unfold closeP at h2
          cases r1 with
          | nil => simp at h2
          | cons c r2 =>
            simp only [] at h2
            split at h2
            · simp at h2; rw [← h2.2]; simp at hl ⊢; omega
            · simp at h2
theorem atomP_len (ps : List Pc) (a : RA) (r : List Pc) (h : atomP ps = some (a, r)) : r.length < ps.length := by
  cases ps with
  | nil => simp [atomP] at h
  | cons p ps =>
    rw [atomP] at h
    split at h
    · have := coreP_len _ _ _ _ _ h; simp; omega
    · exact coreP_len _ _ _ _ _ h
theorem bodyP_fuel (f : Nat) : ∀ (g : Nat) (acc : List RA) (ps : List Pc), ps.length ≤ f → ps.length ≤ g → bodyP f acc ps = bodyP g acc ps := by
  induction f with
  | zero =>
    intro g acc ps h1 h2
    cases ps with
    | nil => cases g <;> rfl
    | cons p r => simp at h1
  | succ f ih =>
    intro g acc ps h1 h2
    cases ps with
    | nil => cases g <;> rfl
    | cons p r =>
      cases g with
      | zero => simp at h2
      | succ g =>
        unfold bodyP
        split
        · cases hq : atomP r with
          | none => rfl
          | some x =>
            obtain ⟨b, r'⟩ := x
            have := atomP_len _ _ _ hq
            simp at h1 h2
            exact ih g _ _ (by simp only []; omega) (by simp only []; omega)
        · rfl
def BP (acc : List RA) (ps : List Pc) : Option (List RA × List Pc) := bodyP ps.length acc ps
theorem BP_nil (acc : List RA) : BP acc [] = some (acc, []) := rfl
theorem BP_cons (acc : List RA) (p : Pc) (r : List Pc) : BP acc (p :: r) = if goesOn acc p = true then (atomP r).bind fun x => BP (acc ++ [x.1]) x.2 else some (acc, p :: r) := by
  unfold BP
  rw [List.length_cons, bodyP]
  split
  · cases hq : atomP r with
    | none => rfl
    | some x =>
      obtain ⟨b, r'⟩ := x
      have := atomP_len _ _ _ hq
      exact bodyP_fuel _ _ _ _ (by simp only []; omega) (Nat.le_refl _)
  · rfl
def dotP {A : Type} (C : List RA → List Pc → Option A) (x : List RA × List Pc) : Option A :=
  match x.2 with
  | [] => none
  | p :: r => if (p.mark == 46 && decide (x.1.length ≤ 4)) = true then C x.1 r else none
theorem dot_sim {A : Type} (n : Nat) (l : List UInt8) (C : List RA → List Pc → Option A) (acc : List RA) (h4 : acc.length ≤ 4) : (T n l).bind (fun r => dotP C (acc, r)) = if tookB l 46 = true then (T n (tookL l 46)).bind (C acc) else none := by
  have h := T_mark n l 46 46 rfl (by decide) (C acc) (fun _ => none)
  rw [none_bind] at h
  rw [← h]
  congr 1
  funext r
  cases r with
  | nil => rfl
  | cons p r => unfold dotP front; simp [h4]
theorem body_more (acc : List RA) (ps : List Pc) (b : List RA) (r : List Pc) (h : BP acc ps = some (b, r)) : acc.length ≤ b.length := by
  induction hn : ps.length using Nat.strongRecOn generalizing acc ps with
  | _ n ih =>
    cases ps with
    | nil => rw [BP_nil] at h; simp at h; rw [h.1]; exact Nat.le_refl _
    | cons p ps =>
      rw [BP_cons] at h
      split at h
      · rw [Option.bind_eq_some_iff] at h
        obtain ⟨⟨a, r1⟩, h1, h2⟩ := h
        have hl := atomP_len _ _ _ h1
        simp at hn
        have := ih r1.length (by omega) _ _ h2 rfl
        simp at this; omega
      · simp at h; rw [h.1]; exact Nat.le_refl _
theorem dot_many {A : Type} (C : List RA → List Pc → Option A) (acc : List RA) (ps : List Pc) (h : 4 < acc.length) : (BP acc ps).bind (dotP C) = none := by
  cases hq : BP acc ps with
  | none => rfl
  | some x =>
    obtain ⟨b, r⟩ := x
    have := body_more _ _ _ _ hq
    rw [Option.bind_some]
    unfold dotP
    cases r with
    | nil => rfl
    | cons p r => simp only []; rw [if_neg]; simp; intro _; omega
/-- The body behind its first literal. -/
theorem BP_front {A : Type} (C : List RA → List Pc → Option A) (acc : List RA) (h : acc ≠ []) (ps : List Pc) : (BP acc ps).bind (dotP C) = front 44 (fun r => (atomP r).bind fun x => (BP (acc ++ [x.1]) x.2).bind (dotP C)) (fun r => dotP C (acc, r)) ps := by
  cases ps with
  | nil => rfl
  | cons p r =>
    have hg : goesOn acc p = (p.mark == 44) := by
      unfold goesOn
      cases acc with
      | nil => exact absurd rfl h
      | cons a acc => simp
    rw [BP_cons, hg, front]
    split
    · rw [Option.bind_assoc]
    · rfl
theorem BP_front0 {A : Type} (C : List RA → List Pc → Option A) (ps : List Pc) : (BP [] ps).bind (dotP C) = front 58 (fun r => (atomP r).bind fun x => (BP [x.1] x.2).bind (dotP C)) (fun r => dotP C ([], r)) ps := by
  cases ps with
  | nil => rfl
  | cons p r =>
    have hg : goesOn [] p = (p.mark == 58) := by unfold goesOn; simp
    rw [BP_cons, hg, front]
    split
    · rw [Option.bind_assoc]; rfl
    · rfl
theorem BP_word {A : Type} (C : List RA → List Pc → Option A) (acc : List RA) (p : Pc) (r : List Pc) (h : Word1 p) : (BP acc (p :: r)).bind (dotP C) = none := by
  have hg : goesOn acc p = false := by unfold goesOn; rcases h with h | h <;> (rw [h]; rfl)
  have h46 : (p.mark == 46) = false := by rcases h with h | h <;> (rw [h]; rfl)
  rw [BP_cons, hg, if_neg (by simp), Option.bind_some]
  unfold dotP
  simp [h46]
def litsT (n : Nat) : Nat → List RA → List UInt8 → Option (List RA × List UInt8)
  | 0, _, _ => none
  | f + 1, acc, l => (litT n l).bind fun x =>
    if f = 0 then some (acc ++ [x.1], x.2)
    else if tookB x.2 44 = false then some (acc ++ [x.1], tookL x.2 44)
    else litsT n f (acc ++ [x.1]) (tookL x.2 44)
def dotT {A : Type} (n : Nat) (C : List RA → List Pc → Option A) (y : List RA × List UInt8) : Option A := if tookB y.2 46 = true then (T n (tookL y.2 46)).bind (C y.1) else none
theorem lits_sim {A : Type} (n : Nat) (C : List RA → List Pc → Option A) (f : Nat) (acc : List RA) (l : List UInt8) (hacc : acc.length + (f + 1) = 4) :
    (T n l).bind (fun q => (atomP q).bind fun x => (BP (acc ++ [x.1]) x.2).bind (dotP C)) = (litsT n (f + 1) acc l).bind (dotT n C) := by
  induction f generalizing acc l with
  | zero =>
    rw [lit_sim n l (fun a ps => (BP (acc ++ [a]) ps).bind (dotP C)) (fun a p r h => BP_word C _ p r h), litsT]
    cases litT n l with
    | none => rfl
    | some x =>
      obtain ⟨a, r⟩ := x
      simp only [Option.bind_some, if_true]
      rw [show (fun ps => (BP (acc ++ [a]) ps).bind (dotP C)) = _ from funext (BP_front C (acc ++ [a]) (by simp)), T_mark n r 44 44 rfl (by decide)]
      have hlen : (acc ++ [a]).length = 4 := by simp; omega
      unfold dotT
      cases h44 : tookB r 44
      · rw [if_neg (by simp), dot_sim n r C (acc ++ [a]) (by omega)]
      · rw [if_pos rfl]
        have h46 : tookB r 46 = false := by
          unfold tookB at h44 ⊢
          rw [beq_iff_eq] at h44
          rw [h44]; rfl
        simp only [h46]
        have : (fun r => (atomP r).bind fun x => (BP (acc ++ [a] ++ [x.1]) x.2).bind (dotP C)) = fun _ => none := by
          funext r
          cases atomP r with
          | none => rfl
          | some x => rw [Option.bind_some]; exact dot_many C _ _ (by simp; omega)
        rw [this, none_bind]
        rfl
  | succ f ih =>
    rw [lit_sim n l (fun a ps => (BP (acc ++ [a]) ps).bind (dotP C)) (fun a p r h => BP_word C _ p r h), litsT]
    cases litT n l with
    | none => rfl
    | some x =>
      obtain ⟨a, r⟩ := x
      rw [Option.bind_some, Option.bind_some, if_neg (by omega)]
      simp only []
      rw [show (fun ps => (BP (acc ++ [a]) ps).bind (dotP C)) = _ from funext (BP_front C (acc ++ [a]) (by simp)), T_mark n r 44 44 rfl (by decide)]
      cases h44 : tookB r 44
      · rw [if_neg (by simp), if_pos rfl, dot_sim n r C (acc ++ [a]) (by simp; omega), Option.bind_some]
        unfold dotT
        simp only []
        rw [tookL_no _ _ h44, tookB_skip, tookL_skip]
      · rw [if_pos rfl, if_neg (by simp)]
        exact ih (acc ++ [a]) (tookL r 44) (by simp; omega)

end Go.Proofs.YtpbfiffgcgnidaaGreatDoor
