/-
  OUR OWN. A text's pieces, and the document's own way to read them. No code here.
-/
import Derived.Test.YtpbfiffgcgnidaaDoorLoad
namespace Go.Proofs.YtpbfiffgcgnidaaDoor

structure Pc where
  mark : UInt8
  s : List UInt8
  pl : Nat
def signB (c : Int) : Bool := c == 40 || c == 41 || c == 44 || c == 46 || c == 33
/-- How many of the first bytes fit. -/
def wend (fits : Int → Bool) : List UInt8 → Nat
  | [] => 0
  | c :: l => if fits (c.toNat : Int) = true then wend fits l + 1 else 0
/-- One piece at a place: what it is, how many bytes it has. -/
def pc1 (p : Nat) (c : UInt8) (l : List UInt8) : Option (List Pc × Nat) :=
  if blank (c.toNat : Int) = true then some ([], 1)
  else if signB (c.toNat : Int) = true then some ([⟨c, [], p⟩], 1)
  else if ((c.toNat : Int) == 58 && hd l == 45) = true then some ([⟨c, [], p⟩], 2)
  else if small (c.toNat : Int) = true then (if 12 < wend smallDig l + 1 then none else some ([⟨110, (c :: l).take (wend smallDig l + 1), p⟩], wend smallDig l + 1))
  else if great (c.toNat : Int) = true then (if 12 < wend letterDig l + 1 then none else some ([⟨118, (c :: l).take (wend letterDig l + 1), p⟩], wend letterDig l + 1))
  else none
theorem pc1_pos {p : Nat} {c : UInt8} {l : List UInt8} {q : List Pc} {k : Nat} (h : pc1 p c l = some (q, k)) : 0 < k := by
  unfold pc1 at h
  repeat' split at h
  all_goals simp at h
  all_goals omega
/-- The pieces of what is left of a text of n bytes. -/
def toks (n : Nat) : Nat → List UInt8 → Option (List Pc)
  | _, [] => some []
  | 0, _ :: _ => none
  | f + 1, c :: l => match pc1 (n - (l.length + 1)) c l with
    | none => none
    | some (q, k) => (toks n f ((c :: l).drop k)).map (q ++ ·)
theorem toks_fuel (n : Nat) (f : Nat) : ∀ (g : Nat) (l : List UInt8), l.length ≤ f → l.length ≤ g → toks n f l = toks n g l := by
  induction f with
  | zero => intro g l h1 h2; cases l with
    | nil => cases g <;> rfl
    | cons c l => simp at h1
  | succ f ih =>
    intro g l h1 h2
    cases l with
    | nil => cases g <;> rfl
    | cons c l =>
      cases g with
      | zero => simp at h2
      | succ g =>
        unfold toks
        cases hp : pc1 (n - (l.length + 1)) c l with
        | none => rfl
        | some x =>
          obtain ⟨q, k⟩ := x
          have hk := pc1_pos hp
          simp only []
          rw [ih g _ (by simp at *; omega) (by simp at *; omega)]
def T (n : Nat) (l : List UInt8) : Option (List Pc) := toks n l.length l
theorem T_nil (n : Nat) : T n [] = some [] := rfl
theorem T_cons (n : Nat) (c : UInt8) (l : List UInt8) : T n (c :: l) = match pc1 (n - (c :: l).length) c l with
    | none => none
    | some (q, k) => (T n ((c :: l).drop k)).map (q ++ ·) := by
  unfold T
  rw [List.length_cons, toks]
  cases hp : pc1 (n - (l.length + 1)) c l with
  | none => rfl
  | some x =>
    obtain ⟨q, k⟩ := x
    have hk := pc1_pos hp
    simp only []
    rw [toks_fuel n l.length _ _ (by simp; omega) (Nat.le_refl _)]
theorem omap_nil (o : Option (List Pc)) : o.map (([] : List Pc) ++ ·) = o := by cases o <;> simp
theorem T_skip (n : Nat) (l : List UInt8) : T n (skipL l) = T n l := by
  induction l with
  | nil => rfl
  | cons c l ih =>
    unfold skipL
    split
    · rename_i hb
      rw [ih, T_cons, pc1, if_pos hb]
      simp only [List.drop_succ_cons, List.drop_zero]
      rw [omap_nil]
    · rfl
theorem skipL_head (l : List UInt8) : skipL l = [] ∨ ∃ c r, skipL l = c :: r ∧ blank (c.toNat : Int) = false := by
  induction l with
  | nil => exact .inl rfl
  | cons c l ih =>
    unfold skipL
    split
    · exact ih
    · rename_i hb; exact .inr ⟨c, l, rfl, by simpa using hb⟩
theorem skipL_len (l : List UInt8) : (skipL l).length ≤ l.length := by
  induction l with
  | nil => simp [skipL]
  | cons c l ih => unfold skipL; split <;> simp <;> omega
theorem skipL_skip (l : List UInt8) : skipL (skipL l) = skipL l := by
  rcases skipL_head l with h | ⟨c, r, h, hb⟩
  · rw [h]; rfl
  · rw [h]; simp [skipL, hb]
/-- A sign. -/
theorem T_sign (n : Nat) (c : UInt8) (l : List UInt8) (h : signB (c.toNat : Int) = true) : T n (c :: l) = (T n l).map (⟨c, [], n - (c :: l).length⟩ :: ·) := by
  have hb : blank (c.toNat : Int) = false := by
    unfold signB at h; unfold blank
    simp only [Bool.or_eq_true, beq_iff_eq] at h
    rw [Bool.or_eq_false_iff]
    constructor <;> (rw [beq_eq_false_iff_ne]; omega)
  rw [T_cons, pc1, if_neg (by simp [hb]), if_pos h]
  rfl
theorem T_colon (n : Nat) (l : List UInt8) : T n (58 :: l) = if (hd l == 45) = true then (T n l.tail).map (⟨58, [], n - (58 :: l).length⟩ :: ·) else none := by
  rw [T_cons, pc1, if_neg (by decide), if_neg (by decide)]
  have e : (((58 : UInt8).toNat : Int) == 58) = true := by decide
  rw [e, Bool.true_and]
  cases h : (hd l == 45)
  · rw [if_neg (by simp), if_neg (by decide), if_neg (by decide)]; rfl
  · cases l with
    | nil => simp [hd] at h
    | cons d r => rfl
theorem wlen_wend (fits : Int → Bool) (n : Nat) (l : List UInt8) : (wlen fits n l = wend fits l ∧ fits (hd (l.drop (wlen fits n l))) = fits (hd (l.drop (wend fits l))) ∧ wend fits l ≤ n) ∨ (wlen fits n l = n ∧ n < wend fits l) := by
  induction n generalizing l with
  | zero =>
    cases l with
    | nil => left; simp [wlen, wend]
    | cons c l =>
      unfold wlen wend
      split
      · right; simp
      · left; simp
  | succ n ih =>
    cases l with
    | nil => left; simp [wlen, wend]
    | cons c l =>
      unfold wlen wend
      split
      · rcases ih l with ⟨h1, h2, h3⟩ | ⟨h1, h2⟩
        · left; exact ⟨by rw [h1], by simpa using h2, by omega⟩
        · right; exact ⟨by rw [h1], by omega⟩
      · left; simp
theorem wend_stop (fits : Int → Bool) (h0 : fits 0 = false) (l : List UInt8) : fits (hd (l.drop (wend fits l))) = false := by
  induction l with
  | nil => simpa [wend, hd] using h0
  | cons c l ih =>
    unfold wend
    split
    · simpa using ih
    · rename_i h; simpa [hd] using h
theorem wend_more (fits : Int → Bool) (n : Nat) (l : List UInt8) (h : n < wend fits l) : fits (hd (l.drop n)) = true := by
  induction n generalizing l with
  | zero =>
    cases l with
    | nil => simp [wend] at h
    | cons c l =>
      unfold wend at h
      split at h
      · rename_i hc; simpa [hd] using hc
      · omega
  | succ n ih =>
    cases l with
    | nil => simp [wend] at h
    | cons c l =>
      unfold wend at h
      split at h
      · simpa using ih l (by omega)
      · omega
/-- No word begins so. -/
def Word1 (p : Pc) : Prop := p.mark = 110 ∨ p.mark = 118
theorem smallDig_zero : smallDig 0 = false := by decide
theorem letterDig_zero : letterDig 0 = false := by decide
theorem small_fits (c : Int) (h : small c = true) : smallDig c = true ∧ blank c = false ∧ signB c = false ∧ (c == 58) = false ∧ letterDig c = true := by
  unfold small at h
  simp only [Bool.and_eq_true, decide_eq_true_eq] at h
  have hs : small c = true := by unfold small; simp [h]
  refine ⟨by simp [smallDig, hs], ?_, ?_, ?_, by simp [letterDig, smallDig, hs]⟩
  · unfold blank; rw [Bool.or_eq_false_iff]; constructor <;> (rw [beq_eq_false_iff_ne]; omega)
  · unfold signB; simp only [Bool.or_eq_false_iff, beq_eq_false_iff_ne]; omega
  · rw [beq_eq_false_iff_ne]; omega
theorem great_fits (c : Int) (h : great c = true) : letterDig c = true ∧ blank c = false ∧ signB c = false ∧ (c == 58) = false ∧ small c = false := by
  unfold great at h
  simp only [Bool.and_eq_true, decide_eq_true_eq] at h
  have hs : great c = true := by unfold great; simp [h]
  refine ⟨by simp [letterDig, hs], ?_, ?_, ?_, ?_⟩
  · unfold blank; rw [Bool.or_eq_false_iff]; constructor <;> (rw [beq_eq_false_iff_ne]; omega)
  · unfold signB; simp only [Bool.or_eq_false_iff, beq_eq_false_iff_ne]; omega
  · rw [beq_eq_false_iff_ne]; omega
  · unfold small; rw [Bool.and_eq_false_iff]; left; simp; omega
/-- A word, behind which none of its own kind's bytes stands. -/
theorem T_small (n : Nat) (m : List UInt8) (h : small (hd m) = true) : T n m = if 12 < wend smallDig m then none else (T n (m.drop (wend smallDig m))).map (⟨110, m.take (wend smallDig m), n - m.length⟩ :: ·) := by
  cases m with
  | nil => simp [hd, small] at h
  | cons c l =>
    have h' : small (c.toNat : Int) = true := h
    obtain ⟨f1, f2, f3, f4, _⟩ := small_fits _ h'
    have e : wend smallDig (c :: l) = wend smallDig l + 1 := by rw [wend, if_pos f1]
    rw [e, T_cons, pc1, if_neg (by simp [f2]), if_neg (by simp [f3]), if_neg (by simp [f4]), if_pos h']
    split
    · rename_i x hx; split at hx
      · rename_i h12; rw [if_pos h12]
      · simp at hx
    · rename_i x q k hx; split at hx
      · simp at hx
      · rename_i h12
        rw [if_neg h12]
        simp only [Option.some.injEq, Prod.mk.injEq] at hx
        obtain ⟨rfl, rfl⟩ := hx
        rfl
theorem T_great (n : Nat) (m : List UInt8) (h : great (hd m) = true) : T n m = if 12 < wend letterDig m then none else (T n (m.drop (wend letterDig m))).map (⟨118, m.take (wend letterDig m), n - m.length⟩ :: ·) := by
  cases m with
  | nil => simp [hd, great] at h
  | cons c l =>
    have h' : great (c.toNat : Int) = true := h
    obtain ⟨f1, f2, f3, f4, f5⟩ := great_fits _ h'
    have e : wend letterDig (c :: l) = wend letterDig l + 1 := by rw [wend, if_pos f1]
    rw [e, T_cons, pc1, if_neg (by simp [f2]), if_neg (by simp [f3]), if_neg (by simp [f4]), if_neg (by simp [f5]), if_pos h']
    split
    · rename_i x hx; split at hx
      · rename_i h12; rw [if_pos h12]
      · simp at hx
    · rename_i x q k hx; split at hx
      · simp at hx
      · rename_i h12
        rw [if_neg h12]
        simp only [Option.some.injEq, Prod.mk.injEq] at hx
        obtain ⟨rfl, rfl⟩ := hx
        rfl
/-- Where a byte of a word stands first, what is cut is nothing or begins with a word. -/
theorem T_wordy (n : Nat) (m : List UInt8) (h : letterDig (hd m) = true) (qs : List Pc) (hq : T n m = some qs) : ∃ p r, qs = p :: r ∧ Word1 p := by
  by_cases h1 : small (hd m) = true
  · rw [T_small n m h1] at hq
    split at hq
    · simp at hq
    · rw [Option.map_eq_some_iff] at hq
      obtain ⟨r, _, rfl⟩ := hq
      exact ⟨_, r, rfl, .inl rfl⟩
  · by_cases h2 : great (hd m) = true
    · rw [T_great n m h2] at hq
      split at hq
      · simp at hq
      · rw [Option.map_eq_some_iff] at hq
        obtain ⟨r, _, rfl⟩ := hq
        exact ⟨_, r, rfl, .inr rfl⟩
    · cases m with
      | nil => simp [hd, letterDig, great, smallDig, small] at h
      | cons c l =>
        exfalso
        have hd' : 48 ≤ (c.toNat : Int) ∧ (c.toNat : Int) ≤ 57 := by
          have h3 : letterDig (c.toNat : Int) = true := h
          have h1' : ¬ small (c.toNat : Int) = true := h1
          have h2' : ¬ great (c.toNat : Int) = true := h2
          unfold letterDig smallDig at h3
          simp only [Bool.not_eq_true] at h1' h2'
          rw [h1', h2'] at h3
          simpa using h3
        have f1 : blank (c.toNat : Int) = false := by unfold blank; rw [Bool.or_eq_false_iff]; constructor <;> (rw [beq_eq_false_iff_ne]; omega)
        have f2 : signB (c.toNat : Int) = false := by unfold signB; simp only [Bool.or_eq_false_iff, beq_eq_false_iff_ne]; omega
        have f3 : ((c.toNat : Int) == 58) = false := by rw [beq_eq_false_iff_ne]; omega
        rw [T_cons, pc1, if_neg (by simp [f1]), if_neg (by simp [f2]), if_neg (by simp [f3]), if_neg (show ¬ small (c.toNat : Int) = true from h1), if_neg (show ¬ great (c.toNat : Int) = true from h2)] at hq
        simp at hq
/-- A parser that goes on behind a word: it wants no word there. -/
theorem word_bind {A : Type} (n : Nat) (m : List UInt8) (fits : Int → Bool) (hfl : ∀ c, fits c = true → letterDig c = true) (mk : UInt8)
    (hT : T n m = if 12 < wend fits m then none else (T n (m.drop (wend fits m))).map (⟨mk, m.take (wend fits m), n - m.length⟩ :: ·)) (K : List Pc → Option A) (G : Pc → List Pc → Option A)
    (hG : ∀ p, p.mark = mk → p.s = m.take (wlen fits 12 m) → p.pl = n - m.length → ∀ r, G p r = K r) (hK : ∀ p r, Word1 p → K (p :: r) = none) :
    (T n m).bind (fun ps => match ps with | p :: r => G p r | [] => none) = (T n (m.drop (wlen fits 12 m))).bind K := by
  rcases wlen_wend fits 12 m with ⟨h1, h2, h3⟩ | ⟨h1, h2⟩
  · rw [hT, if_neg (by omega), h1]
    cases hq : T n (m.drop (wend fits m)) with
    | none => rfl
    | some qs => exact hG ⟨mk, m.take (wend fits m), n - m.length⟩ rfl (by rw [h1]) rfl qs
  · rw [hT, if_pos h2, h1]
    cases hq : T n (m.drop 12) with
    | none => rfl
    | some qs =>
      obtain ⟨p, r, rfl, hw⟩ := T_wordy n _ (hfl _ (wend_more fits 12 m h2)) qs hq
      rw [Option.bind_some, hK p r hw]
      rfl
structure RT where
  s : List UInt8
  var : Bool
  pl : Nat
structure RA where
  name : List UInt8
  ts : List RT
  pl : Nat
  bang : Nat
  neg : Bool
structure RC where
  head : RA
  body : List RA
def Pc.rt (p : Pc) : RT := ⟨p.s, p.mark == 118, p.pl⟩
def wordy (p : Pc) : Bool := p.mark == 110 || p.mark == 118
def termsP : List RT → List Pc → Option (List RT × List Pc)
  | _, [] => none
  | acc, p :: r =>
    if wordy p = true then
      match r with
      | [] => some (acc ++ [p.rt], [])
      | q :: r' => if (q.mark == 44) = true then termsP (acc ++ [p.rt]) r' else some (acc ++ [p.rt], q :: r')
    else none
def closeP {A : Type} (K : List RT → List Pc → Option A) (x : List RT × List Pc) : Option A :=
  match x.2 with
  | [] => none
  | c :: r => if (c.mark == 41 && decide (x.1.length ≤ 3)) = true then K x.1 r else none
def coreP (neg : Bool) (bang : Nat) : List Pc → Option (RA × List Pc)
  | [] => none
  | p :: r =>
    if (p.mark == 110) = true then
      match r with
      | [] => some (⟨p.s, [], p.pl, bang, neg⟩, [])
      | q :: r' => if (q.mark == 40) = true then (termsP [] r').bind (closeP fun ts r'' => some (⟨p.s, ts, p.pl, bang, neg⟩, r'')) else some (⟨p.s, [], p.pl, bang, neg⟩, q :: r')
    else none
def atomP : List Pc → Option (RA × List Pc)
  | [] => none
  | p :: r => if (p.mark == 33) = true then coreP true p.pl r else coreP false 0 (p :: r)
def goesOn (acc : List RA) (p : Pc) : Bool := p.mark == 58 && acc.isEmpty || p.mark == 44 && !acc.isEmpty
def bodyP : Nat → List RA → List Pc → Option (List RA × List Pc)
  | 0, acc, ps => some (acc, ps)
  | _ + 1, acc, [] => some (acc, [])
  | f + 1, acc, p :: r => if goesOn acc p = true then (atomP r).bind fun x => bodyP f (acc ++ [x.1]) x.2 else some (acc, p :: r)
def clauseP (ps : List Pc) : Option (RC × List Pc) :=
  (atomP ps).bind fun x =>
    if x.1.neg = true then none
    else (bodyP x.2.length [] x.2).bind fun y =>
      match y.2 with
      | [] => none
      | p :: r => if (p.mark == 46 && decide (y.1.length ≤ 4)) = true then some (⟨x.1, y.1⟩, r) else none
def progP : Nat → List RC → List Pc → Option (List RC)
  | _, acc, [] => some acc
  | 0, _, _ :: _ => none
  | f + 1, acc, p :: r => (clauseP (p :: r)).bind fun x => if acc.length = 40 then none else progP f (acc ++ [x.1]) x.2

theorem termsP_more (acc : List RT) (ps : List Pc) (ts : List RT) (r : List Pc) (h : termsP acc ps = some (ts, r)) : acc.length < ts.length := by
  induction hn : ps.length using Nat.strongRecOn generalizing acc ps with
  | _ n ih =>
    cases ps with
    | nil => simp [termsP] at h
    | cons p ps =>
      unfold termsP at h
      split at h
      · cases ps with
        | nil => simp at h; rw [← h.1]; simp
        | cons q r' =>
          simp only [] at h
          split at h
          · have := ih r'.length (by simp at hn; omega) _ _ h rfl
            simp at this; omega
          · simp at h; rw [← h.1]; simp
      · simp at h

/- A sign at the front. -/
theorem T_sk (n : Nat) (l : List UInt8) {A : Type} (K : List Pc → Option A) : (T n l).bind K = (T n (skipL l)).bind K := by rw [T_skip]
theorem mark_of (c : UInt8) (m : Nat) (hm : m < 256) (h : ((c.toNat : Int) == (m : Int)) = true) : c = UInt8.ofNat m := by
  rw [beq_iff_eq] at h
  apply UInt8.toNat_inj.1
  rw [UInt8.toNat_ofNat']
  omega
def front {A : Type} (m : UInt8) (K E : List Pc → Option A) : List Pc → Option A
  | [] => E []
  | p :: r => if (p.mark == m) = true then K r else E (p :: r)
def wordly {A : Type} (G : RT → List Pc → Option A) : List Pc → Option A
  | [] => none
  | p :: r => if wordy p = true then G p.rt r else none
/-- The first piece of what is left bears the mark m just if the byte m stands there. -/
theorem T_front (n : Nat) (l : List UInt8) (m : UInt8) (hm : signB (m.toNat : Int) = true ∨ m = 58) {A : Type} (K : List Pc → Option A) (E : List Pc → Option A) :
    (T n l).bind (front m K E) =
      if tookB l (m.toNat : Int) = true then (if m = 58 then (if (hd (tookL l 58) == 45) = true then (T n (tookL l 58).tail).bind K else none) else (T n (tookL l (m.toNat : Int))).bind K) else (T n l).bind E := by
  rw [T_sk n l E, T_sk]
  unfold tookL
  rcases skipL_head l with h | ⟨c, r, h, hb⟩
  · have ht : tookB l (m.toNat : Int) = false := by
      unfold tookB; rw [h]
      rw [beq_eq_false_iff_ne]
      intro e
      rcases hm with hm | rfl
      · rw [← e] at hm; simp [hd, signB] at hm
      · simp [hd] at e
    rw [ht, h, T_nil]
    rfl
  · have htk : ∀ x : Int, tookB l x = ((c.toNat : Int) == x) := by intro x; unfold tookB; rw [h]; rfl
    rw [h, htk]
    by_cases hc : c = m
    · subst hc
      rw [if_pos (by simp)]
      by_cases h58 : c = 58
      · subst h58
        have e1 : (if (((58 : UInt8).toNat : Int) == 58) = true then (58 :: r).tail else 58 :: r) = r := rfl
        rw [if_pos rfl, htk, e1, T_colon]
        cases hh : (hd r == 45)
        · rfl
        · rw [if_pos rfl, if_pos rfl]
          cases T n r.tail with
          | none => rfl
          | some q => rfl
      · rw [if_neg h58]
        have e1 : (if (((c.toNat : Int)) == (c.toNat : Int)) = true then (c :: r).tail else c :: r) = r := by simp
        rw [e1]
        have hs : signB (c.toNat : Int) = true := by
          rcases hm with hm | rfl
          · exact hm
          · exact absurd rfl h58
        rw [T_sign n c r hs]
        cases T n r with
        | none => rfl
        | some q => simp [front]
    · have hne : ((c.toNat : Int) == (m.toNat : Int)) = false := by
        rw [beq_eq_false_iff_ne]
        intro e
        exact hc (UInt8.toNat_inj.1 (by omega))
      rw [hne, if_neg (by simp)]
      -- the first piece's mark is not m
      have key : ∀ qs, T n (c :: r) = some qs → ∃ p q, qs = p :: q ∧ p.mark ≠ m := by
        intro qs hq
        rw [T_cons] at hq
        unfold pc1 at hq
        have hmw : m ≠ 110 ∧ m ≠ 118 := by
          rcases hm with hm | rfl
          · constructor <;> (intro e; subst e; simp [signB] at hm)
          · decide
        repeat' split at hq
        all_goals first
          | (simp at hq; done)
          | skip
        all_goals (rename_i heq; repeat' split at heq)
        all_goals first
          | (simp at heq; done)
          | skip
        all_goals (simp only [Option.some.injEq, Prod.mk.injEq] at heq; obtain ⟨rfl, rfl⟩ := heq)
        all_goals (rw [Option.map_eq_some_iff] at hq; obtain ⟨q, _, rfl⟩ := hq)
        · exfalso; simp_all
        · exact ⟨_, q, rfl, hc⟩
        · exact ⟨_, q, rfl, hc⟩
        · exact ⟨_, q, rfl, fun e => hmw.1 e.symm⟩
        · exact ⟨_, q, rfl, fun e => hmw.2 e.symm⟩
      cases hq : T n (c :: r) with
      | none => rfl
      | some qs =>
        obtain ⟨p, q, rfl, hp⟩ := key qs hq
        simp [front, hp]
theorem T_mark (n : Nat) (l : List UInt8) (m : UInt8) (mi : Int) (hi : (m.toNat : Int) = mi) (hm : signB mi = true) {A : Type} (K E : List Pc → Option A) :
    (T n l).bind (front m K E) = if tookB l mi = true then (T n (tookL l mi)).bind K else (T n l).bind E := by
  subst hi
  rw [T_front n l m (.inl hm) K E, if_neg (show ¬ m = 58 by intro e; subst e; simp [signB] at hm)]
theorem T_colon_front (n : Nat) (l : List UInt8) {A : Type} (K E : List Pc → Option A) :
    (T n l).bind (front 58 K E) = if tookB l 58 = true then (if (hd (tookL l 58) == 45) = true then (T n (tookL l 58).tail).bind K else none) else (T n l).bind E := by
  have h := T_front n l 58 (.inr rfl) K E
  rw [if_pos rfl] at h
  exact h

end Go.Proofs.YtpbfiffgcgnidaaDoor
