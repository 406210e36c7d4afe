/-
  OUR OWN. A question's text, byte by byte; the first byte with which no question begins. No code here.
-/
import Derived.Test.YtpbfiffgcgnidaaGreatDoorXK2
import Derived.Test.YtpbfiffgcgnidaaGreatDoorXR4
import Derived.Test.YtpbfiffgcgnidaaGreatDoorXF4
namespace Go.Proofs.YtpbfiffgcgnidaaGreatDoor
def dNamedQ (c : Int) : Option St := if blank c then some (.named 0 none) else if c == 40 then some (.opened 0 none 0) else none
def dTermedQ (t : Nat) (c : Int) : Option St :=
  if blank c then some (.termed 0 none t) else if c == 41 then some (.atom 0 none) else if c == 44 && decide (t < 2) then some (.opened 0 none (t + 1)) else none
/-- Where a question's text stands, byte by byte. -/
def dlQ (st : St) (c : Int) : Option St :=
  match st.tag with
  | 0 => if blank c then some (.top 0) else if small c then some (.name 0 none 1) else none
  | 1 => if smallDig c && decide (st.w < 12) then some (.name 0 none (st.w + 1)) else dNamedQ c
  | 2 => dNamedQ c
  | 3 => if blank c then some (.atom 0 none) else none
  | 4 => if blank c then some (.opened 0 none st.t) else if small c then some (.term 0 none st.t false 1) else if great c then some (.term 0 none st.t true 1) else none
  | 5 => if fitsV st.v c && decide (st.w < 12) then some (.term 0 none st.t st.v (st.w + 1)) else dTermedQ st.t c
  | 6 => dTermedQ st.t c
  | _ => none
def St.accQ (st : St) : Bool := st.tag == 1 || st.tag == 2 || st.tag == 3
def DQ : St → List UInt8 → Out
  | st, [] => Out.fin st.accQ
  | st, c :: l => match dlQ st (c.toNat : Int) with
    | none => Out.dead (c :: l)
    | some st' => DQ st' l
theorem DQ_no (st : St) (l : List UInt8) (h : dlQ st (hd l) = none) (hf : st.accQ = false) : DQ st l = F l := by
  cases l with
  | nil => simp [DQ, F, hf]
  | cons c l =>
    have h' : dlQ st (c.toNat : Int) = none := h
    rw [DQ, h']; rfl
theorem DQ_skip (st : St) (h : ∀ c, blank c = true → dlQ st c = some st) (l : List UInt8) : DQ st l = DQ st (skipL l) := by
  induction l with
  | nil => rfl
  | cons c l ih =>
    unfold skipL
    split
    · rename_i hb; rw [DQ, h _ hb]; exact ih
    · rfl
/-- Two places that go the same way on. -/
theorem DQ_same (st st' : St) (l : List UInt8) (h : dlQ st (hd l) = dlQ st' (hd l)) (hf : st.accQ = st'.accQ) : DQ st l = DQ st' l := by
  cases l with
  | nil => simp [DQ, hf]
  | cons c l =>
    have h' : dlQ st (c.toNat : Int) = dlQ st' (c.toNat : Int) := h
    rw [DQ, DQ, h']
theorem DQ_name (n w : Nat) (hn : n + w = 12) (l : List UInt8) : DQ (.name 0 none w) l = DQ (.named 0 none) (l.drop (wlen smallDig n l)) := by
  induction n generalizing w l with
  | zero =>
    have : wlen smallDig 0 l = 0 := by unfold wlen; rfl
    rw [this, List.drop_zero]
    apply DQ_same
    · simp only [dlQ, show ¬ w < 12 by omega, decide_false, Bool.and_false]; rfl
    · rfl
  | succ n ih =>
    cases l with
    | nil => rfl
    | cons c l =>
      unfold wlen
      cases hc : smallDig (c.toNat : Int)
      · simp only [Bool.false_eq_true, if_false, List.drop_zero]
        apply DQ_same
        · simp only [dlQ, hd, hc, Bool.false_and]; rfl
        · rfl
      · simp only [if_true, List.drop_succ_cons]
        rw [DQ]
        simp only [dlQ, hc, Bool.true_and, show w < 12 by omega, decide_true, if_true]
        exact ih (w + 1) (by omega) l
theorem DQ_term (t : Nat) (v : Bool) (n w : Nat) (hn : n + w = 12) (l : List UInt8) : DQ (.term 0 none t v w) l = DQ (.termed 0 none t) (l.drop (wlen (fitsV v) n l)) := by
  induction n generalizing w l with
  | zero =>
    have : wlen (fitsV v) 0 l = 0 := by unfold wlen; rfl
    rw [this, List.drop_zero]
    apply DQ_same
    · simp only [dlQ, show ¬ w < 12 by omega, decide_false, Bool.and_false]; rfl
    · rfl
  | succ n ih =>
    cases l with
    | nil => rfl
    | cons c l =>
      unfold wlen
      cases hc : fitsV v (c.toNat : Int)
      · simp only [Bool.false_eq_true, if_false, List.drop_zero]
        apply DQ_same
        · simp only [dlQ, hd, hc, Bool.false_and]; rfl
        · rfl
      · simp only [if_true, List.drop_succ_cons]
        rw [DQ]
        simp only [dlQ, hc, Bool.true_and, show w < 12 by omega, decide_true, if_true]
        exact ih (w + 1) (by omega) l
theorem DQ_opened (t : Nat) (l : List UInt8) : DQ (.opened 0 none t) l = if termB l = false then F (skipL l) else DQ (.termed 0 none t) (termL l) := by
  rw [DQ_skip _ (by intro c hc; simp [dlQ, hc])]
  have hb := skip_blank l
  unfold termB termL termN
  generalize skipL l = m at *
  cases h1 : small (hd m)
  · cases h2 : great (hd m)
    · simp only [Bool.or_self, if_true]
      exact DQ_no _ _ (by simp [dlQ, hb, h1, h2]) rfl
    · simp only [Bool.false_or, Bool.true_eq_false, if_false, if_true, Bool.false_eq_true]
      cases m with
      | nil => simp [hd, great] at h2
      | cons c r =>
        have h1' : small (c.toNat : Int) = false := h1
        have h2' : great (c.toNat : Int) = true := h2
        have hb' : blank (c.toNat : Int) = false := hb
        have e : wlen letterDig 12 (c :: r) = wlen letterDig 11 r + 1 := by rw [wlen, if_pos (great_fits _ h2').1]
        rw [DQ]
        simp only [dlQ, hb', h1', h2', Bool.false_eq_true, if_false, if_true]
        rw [DQ_term t true 11 1 rfl, e, List.drop_succ_cons]
        rfl
  · simp only [Bool.true_or, Bool.true_eq_false, if_false, if_true]
    cases m with
    | nil => simp [hd, small] at h1
    | cons c r =>
      have h1' : small (c.toNat : Int) = true := h1
      have hb' : blank (c.toNat : Int) = false := hb
      have e : wlen smallDig 12 (c :: r) = wlen smallDig 11 r + 1 := by rw [wlen, if_pos (small_fits _ h1').1]
      rw [DQ]
      simp only [dlQ, hb', h1', Bool.false_eq_true, if_false, if_true]
      rw [DQ_term t false 11 1 rfl, e, List.drop_succ_cons]
      rfl
theorem DQ_termed (t : Nat) (l : List UInt8) : DQ (.termed 0 none t) l = if tookB l 41 = true then DQ (.atom 0 none) (tookL l 41) else if (tookB l 44 && decide (t < 2)) = true then DQ (.opened 0 none (t + 1)) (tookL l 44) else F (skipL l) := by
  rw [DQ_skip _ (by intro c hc; simp [dlQ, dTermedQ, hc])]
  have hb := skip_blank l
  cases h41 : tookB l 41
  · rw [if_neg (by simp)]
    have h41' := took_no l 41 h41
    cases h44 : tookB l 44
    · rw [Bool.false_and, if_neg (by simp)]
      have h44' := took_no l 44 h44
      exact DQ_no _ _ (by simp only [dlQ, dTermedQ, hb, h41', h44', Bool.false_and, Bool.false_eq_true, if_false]) rfl
    · obtain ⟨c, r, hs, hc, ht⟩ := took_cons l 44 (by decide) h44
      by_cases h2 : t < 2
      · rw [Bool.true_and, if_pos (by simpa using h2), hs, ht, DQ]
        have : dlQ (.termed 0 none t) (c.toNat : Int) = some (.opened 0 none (t + 1)) := by rw [hc]; simp [dlQ, dTermedQ, blank, h2]
        rw [this]
      · rw [Bool.true_and, if_neg (by simpa using h2)]
        exact DQ_no _ _ (by rw [hs]; show dlQ _ (c.toNat : Int) = none; rw [hc]; simp [dlQ, dTermedQ, blank, h2]) rfl
  · rw [if_pos rfl]
    obtain ⟨c, r, hs, hc, ht⟩ := took_cons l 41 (by decide) h41
    rw [hs, ht, DQ]
    have : dlQ (.termed 0 none t) (c.toNat : Int) = some (.atom 0 none) := by rw [hc]; rfl
    rw [this]
theorem DQ_args (s : ByteArray) (nm : List UInt8) (np : Nat) (f : Nat) (ts : List (List UInt8)) (ps : List Nat) (t : Nat) (ht : t + (f + 1) = 3) (l : List UInt8) :
    DQ (.opened 0 none t) l = if (argsR s nm np (f + 1) ts ps l).ok = true then DQ (.atom 0 none) (argsR s nm np (f + 1) ts ps l).rest else F (argsR s nm np (f + 1) ts ps l).rest := by
  induction f generalizing ts ps t l with
  | zero =>
    rw [DQ_opened, argsR]
    cases h1 : termB l
    · simp only [if_true, Bool.false_eq_true, if_false]
      have : termL l = skipL l := by
        unfold termL termN
        unfold termB at h1
        rw [Bool.or_eq_false_iff] at h1
        rw [h1.1, h1.2]
        simp
      rw [this]
    · simp only [Bool.true_eq_false, if_false, if_true]
      rw [DQ_termed]
      cases h41 : tookB (termL l) 41
      · have h2 : ¬ t < 2 := by omega
        simp only [Bool.false_eq_true, if_false, h2, decide_false, Bool.and_false, tookL_no _ _ h41]
      · simp
  | succ f ih =>
    rw [DQ_opened, argsR]
    cases h1 : termB l
    · simp only [if_true, Bool.false_eq_true, if_false]
      have : termL l = skipL l := by
        unfold termL termN
        unfold termB at h1
        rw [Bool.or_eq_false_iff] at h1
        rw [h1.1, h1.2]
        simp
      rw [this]
    · simp only [Bool.true_eq_false, if_false, show ¬ f + 1 = 0 by omega]
      rw [DQ_termed]
      have h2 : t < 2 := by omega
      cases h44 : tookB (termL l) 44
      · simp only [if_true, Bool.false_and, Bool.false_eq_true, if_false, tookL_no _ _ h44, tookB_skip, tookL_skip]
        cases h41 : tookB (termL l) 41
        · simp only [Bool.false_eq_true, if_false, tookL_no _ _ h41]
        · simp
      · have h41 : tookB (termL l) 41 = false := by
          unfold tookB at h44 ⊢
          rw [beq_iff_eq] at h44
          rw [h44]; rfl
        simp only [h41, Bool.false_eq_true, if_false, Bool.true_and, h2, decide_true, if_true, Bool.true_eq_false]
        exact ih _ _ (t + 1) (by omega) _
/-- An atom's own text, from where its name is wanted. -/
theorem DQ_named (l : List UInt8) : DQ (.named 0 none) l = if tookB l 40 = true then DQ (.opened 0 none 0) (tookL l 40) else DQ (.atom 0 none) (skipL l) := by
  rw [DQ_skip _ (by intro c hc; simp [dlQ, dNamedQ, hc])]
  have hb := skip_blank l
  cases h40 : tookB l 40
  · rw [if_neg (by simp)]
    have h40' := took_no l 40 h40
    apply DQ_same
    · simp only [dlQ, dNamedQ, hb, h40', Bool.false_eq_true, if_false]
    · rfl
  · rw [if_pos rfl]
    obtain ⟨c, r, hs, hc, ht⟩ := took_cons l 40 (by decide) h40
    rw [hs, ht, DQ]
    have : dlQ (.named 0 none) (c.toNat : Int) = some (.opened 0 none 0) := by rw [hc]; rfl
    rw [this]
theorem DQ_atom (s : ByteArray) (st : St) (l : List UInt8) (hsk : ∀ c, blank c = true → dlQ st c = some st) (hacc : st.accQ = false ∨ skipL l ≠ []) (hyes : ∀ c, small c = true → dlQ st c = some (.name 0 none 1)) (hno : small (hd (skipL l)) = false → dlQ st (hd (skipL l)) = none) :
    DQ st l = if (atomR s l).ok = true then DQ (.atom 0 none) (atomR s l).rest else F (atomR s l).rest := by
  rw [DQ_skip st hsk]
  unfold atomR
  simp only []
  generalize skipL l = m at *
  cases h1 : small (hd m)
  · simp only [if_true, Bool.false_eq_true, if_false]
    cases m with
    | nil =>
      rcases hacc with h | h
      · exact DQ_no _ _ (hno h1) h
      · exact absurd rfl h
    | cons c r =>
      have h' : dlQ st (c.toNat : Int) = none := hno h1
      rw [DQ, h']; rfl
  · simp only [Bool.true_eq_false, if_false]
    cases m with
    | nil => simp [hd, small] at h1
    | cons c r =>
      have h1' : small (c.toNat : Int) = true := h1
      have e : wlen smallDig 12 (c :: r) = wlen smallDig 11 r + 1 := by rw [wlen, if_pos (small_fits _ h1').1]
      rw [DQ, hyes _ h1']
      simp only []
      rw [DQ_name 11 1 rfl, e, List.drop_succ_cons, DQ_named]
      generalize r.drop (wlen smallDig 11 r) = q
      cases h40 : tookB q 40
      · simp only [Bool.false_eq_true, if_false, if_true, tookL_no _ _ h40]
      · simp only [if_true, Bool.true_eq_false, if_false]
        exact DQ_args s _ _ 2 [] [] 0 rfl _
theorem DQ_end (l : List UInt8) : DQ (.atom 0 none) l = if (skipL l).isEmpty = true then Out.fin true else F (skipL l) := by
  rw [DQ_skip _ (by intro c hc; simp [dlQ, hc])]
  rcases skipL_head l with hs | ⟨c, r, hs, hb⟩
  · rw [hs]; rfl
  · rw [hs]
    have h' : dlQ (.atom 0 none) (c.toNat : Int) = none := by simp [dlQ, hb]
    rw [DQ, h']; rfl
/-- What is left where a question's reader stops. -/
def qRest (s : ByteArray) (l : List UInt8) : List UInt8 := if (atomR s l).ok = true then skipL (atomR s l).rest else (atomR s l).rest
def qOk (s : ByteArray) (l : List UInt8) : Bool := (atomR s l).ok && (skipL (atomR s l).rest).isEmpty
theorem DQ_quest (s : ByteArray) (l : List UInt8) : DQ (.top 0) l = if qOk s l = true then Out.fin true else F (qRest s l) := by
  rw [DQ_atom s (.top 0) l (by intro c hc; simp [dlQ, hc]) (.inl rfl) (by intro c hc; obtain ⟨_, f2, _, _, _⟩ := small_fits c hc; simp [dlQ, f2, hc]) (by intro hs; simp only [dlQ, skip_blank l, hs, Bool.false_eq_true, if_false])]
  unfold qOk qRest
  cases h : (atomR s l).ok
  · simp
  · simp only [if_true, Bool.true_and]
    exact DQ_end _
def runQ : St → List UInt8 → Option St
  | st, [] => some st
  | st, c :: l => match dlQ st (c.toNat : Int) with
    | none => none
    | some st' => runQ st' l
theorem DQ_run (st : St) (u l : List UInt8) : DQ st (u ++ l) = match runQ st u with | some st' => DQ st' l | none => DQ st (u ++ l) := by
  induction u generalizing st with
  | nil => rfl
  | cons c u ih =>
    rw [List.cons_append, runQ]
    cases h : dlQ st (c.toNat : Int) with
    | none => rfl
    | some st' =>
      simp only []
      rw [DQ, h]
      simp only []
      have := ih st'
      cases hr : runQ st' u with
      | none => rfl
      | some q => rw [hr] at this; simp only [] at this ⊢; exact this
theorem runQ_none (st : St) (u l : List UInt8) (h : runQ st u = none) : ∃ r, DQ st (u ++ l) = Out.dead (r ++ l) ∧ r ≠ [] := by
  induction u generalizing st with
  | nil => simp [runQ] at h
  | cons c u ih =>
    rw [runQ] at h
    cases hd' : dlQ st (c.toNat : Int) with
    | none => exact ⟨c :: u, by rw [List.cons_append, DQ, hd'], by simp⟩
    | some st' =>
      rw [hd'] at h
      obtain ⟨r, h1, h2⟩ := ih st' h
      exact ⟨r, by rw [List.cons_append, DQ, hd']; exact h1, h2⟩
theorem dlQ_tag (st st' : St) (c : Int) (h : dlQ st c = some st') : st'.tag < 7 := by
  unfold dlQ dNamedQ dTermedQ at h
  repeat' split at h
  all_goals first
    | (simp at h; done)
    | (simp at h; subst h; simp)
theorem runQ_tag (st st' : St) (u : List UInt8) (hs : st.tag < 7) (h : runQ st u = some st') : st'.tag < 7 := by
  induction u generalizing st with
  | nil => simp [runQ] at h; rw [← h]; exact hs
  | cons c u ih =>
    rw [runQ] at h
    cases hd' : dlQ st (c.toNat : Int) with
    | none => rw [hd'] at h; simp at h
    | some q => rw [hd'] at h; exact ih q (dlQ_tag _ _ _ hd') h
theorem may_endQ (st : St) (h : st.tag < 7) : ∃ e ∈ endsP, DQ st e = Out.fin true := by
  obtain ⟨tag, k, x, t, v, w⟩ := st
  simp only [] at h
  have hc : tag = 0 ∨ tag = 1 ∨ tag = 2 ∨ tag = 3 ∨ tag = 4 ∨ tag = 5 ∨ tag = 6 := by omega
  rcases hc with rfl | rfl | rfl | rfl | rfl | rfl | rfl
  · exact ⟨[97], by simp [endsP], rfl⟩
  · exact ⟨[], by simp [endsP], rfl⟩
  · exact ⟨[], by simp [endsP], rfl⟩
  · exact ⟨[], by simp [endsP], rfl⟩
  · exact ⟨[97, 41], by simp [endsP], rfl⟩
  · refine ⟨[41], by simp [endsP], ?_⟩
    cases v <;> rfl
  · exact ⟨[41], by simp [endsP], rfl⟩
/-- Has a text the form of a question? -/
def formQ (l : List UInt8) : Bool := qOk (bs l) l
theorem formQ_D (l : List UInt8) : formQ l = true ↔ DQ (.top 0) l = Out.fin true := by
  rw [DQ_quest (bs l) l]
  unfold formQ
  cases hok : qOk (bs l) l
  · simp only [Bool.false_eq_true, if_false, false_iff]
    unfold F
    split <;> simp [Out.fin, Out.dead]
  · simp
def mayQ (l : List UInt8) : Bool := endsP.any fun e => formQ (l ++ e)
theorem mayQ_run (l : List UInt8) : mayQ l = (runQ (.top 0) l).isSome := by
  unfold mayQ
  cases hr : runQ (.top 0) l with
  | some st =>
    obtain ⟨e, he, hD⟩ := may_endQ st (runQ_tag _ _ _ (by decide) hr)
    have : formQ (l ++ e) = true := by
      rw [formQ_D, DQ_run, hr]
      exact hD
    simp only [Option.isSome_some, List.any_eq_true]
    exact ⟨e, he, this⟩
  | none =>
    simp only [Option.isSome_none, List.any_eq_false]
    intro e _ hf
    rw [formQ_D] at hf
    obtain ⟨r, h1, _⟩ := runQ_none _ _ e hr
    rw [h1] at hf
    simp [Out.fin, Out.dead] at hf
def wrongGoQ (s : List UInt8) : Nat → Nat → Nat
  | 0, i => i
  | f + 1, i => if mayQ (s.take (i + 1)) = true then wrongGoQ s f (i + 1) else i
def wrongQ (s : List UInt8) : Nat := wrongGoQ s s.length 0
theorem runQ_app (st : St) (u l : List UInt8) : runQ st (u ++ l) = (runQ st u).bind fun st' => runQ st' l := by
  induction u generalizing st with
  | nil => rfl
  | cons c u ih =>
    rw [List.cons_append, runQ, runQ]
    cases dlQ st (c.toNat : Int) with
    | none => rfl
    | some st' => exact ih st'
theorem wrongQ_dead (s : List UInt8) (rest : List UInt8) (u : List UInt8) (hs : s = u ++ rest) (h1 : (runQ (.top 0) u).isSome = true) (h2 : ∀ c r, rest = c :: r → runQ (.top 0) (u ++ [c]) = none) : wrongQ s = u.length := by
  have key : ∀ f i, f + i = s.length → i ≤ u.length → wrongGoQ s f i = u.length := by
    intro f
    induction f with
    | zero =>
      intro i hf hi
      have : s.length = u.length + rest.length := by rw [hs]; simp
      simp only [wrongGoQ]; omega
    | succ f ih =>
      intro i hf hi
      rw [wrongGoQ]
      by_cases hlt : i < u.length
      · have : mayQ (s.take (i + 1)) = true := by
          rw [mayQ_run, hs, List.take_append_of_le_length (by omega)]
          have hsplit : u = u.take (i + 1) ++ u.drop (i + 1) := (List.take_append_drop _ _).symm
          rw [hsplit, runQ_app] at h1
          cases hq : runQ (.top 0) (u.take (i + 1)) with
          | none => rw [hq] at h1; simp at h1
          | some st => rfl
        rw [if_pos this]
        exact ih (i + 1) (by omega) (by omega)
      · have hie : i = u.length := by omega
        subst hie
        cases hr : rest with
        | nil => rw [hs, hr] at hf; simp at hf
        | cons c r =>
          have hn := h2 c r hr
          have : mayQ (s.take (u.length + 1)) = false := by
            rw [mayQ_run, hs, hr]
            have : (u ++ c :: r).take (u.length + 1) = u ++ [c] := by
              rw [List.take_append, List.take_of_length_le (by omega)]
              simp
            rw [this, hn]; rfl
          rw [this, if_neg (by simp)]
  exact key s.length 0 (by omega) (by omega)
/-- Where a text dies, or that it comes to its end. -/
theorem DQ_dead (st : St) (l rest : List UInt8) (h : DQ st l = Out.dead rest) : ∃ u c r, rest = c :: r ∧ l = u ++ rest ∧ ∃ st', runQ st u = some st' ∧ dlQ st' (c.toNat : Int) = none := by
  induction l generalizing st with
  | nil => simp [DQ, Out.fin, Out.dead] at h
  | cons c l ih =>
    rw [DQ] at h
    cases hd' : dlQ st (c.toNat : Int) with
    | none =>
      rw [hd'] at h
      simp only [Out.dead, Sum.inl.injEq] at h
      exact ⟨[], c, l, h.symm, by rw [h]; rfl, st, rfl, hd'⟩
    | some st' =>
      rw [hd'] at h
      obtain ⟨u, c', r, h1, h2, st2, h3, h4⟩ := ih st' h
      exact ⟨c :: u, c', r, h1, by rw [h2]; rfl, st2, by rw [runQ, hd']; exact h3, h4⟩
theorem DQ_fin (st : St) (l : List UInt8) (b : Bool) (h : DQ st l = Out.fin b) : (runQ st l).isSome = true := by
  induction l generalizing st with
  | nil => rfl
  | cons c l ih =>
    rw [DQ] at h
    rw [runQ]
    cases hd' : dlQ st (c.toNat : Int) with
    | none => rw [hd'] at h; simp [Out.fin, Out.dead] at h
    | some st' => rw [hd'] at h; exact ih st' h
/-- Where no question begins: the reader's place. -/
theorem wrongQ_place (s : ByteArray) (h : qOk s s.data.toList = false) : wrongQ s.data.toList = posOf s (qRest s s.data.toList) := by
  have hD := DQ_quest s s.data.toList
  rw [h, if_neg (by simp)] at hD
  have hsz : s.size = s.data.toList.length := by simp
  unfold posOf
  rw [hsz]
  generalize qRest s s.data.toList = rest at *
  generalize s.data.toList = l at *
  cases rest with
  | nil =>
    have := wrongQ_dead l [] l (by simp) (DQ_fin _ _ false hD) (by intro c r e; simp at e)
    simpa using this
  | cons c r =>
    obtain ⟨u, c', r', h1, h2, st', h3, h4⟩ := DQ_dead _ _ _ hD
    injection h1 with h1 h1'
    subst h1 h1'
    have := wrongQ_dead l (c :: r) u h2 (by rw [h3]; rfl) (by
      intro c2 r2 e
      injection e with e e'
      subst e e'
      rw [runQ_app, h3]
      simp only [Option.bind_some, runQ, h4])
    rw [this, h2]
    simp

end Go.Proofs.YtpbfiffgcgnidaaGreatDoor

namespace Go.Proofs.YtpbfiffgcgnidaaGreatDoor

def questP (ps : List Pc) : Option RA := match atomP ps with
  | some (a, []) => if a.neg = true then none else some a
  | _ => none
/-- The atom that a text is. -/
def questT (s : ByteArray) : Option RA := (T s.size s.data.toList).bind questP
theorem questP_no {ps : List Pc} (h : atomP ps = none) : questP ps = none := by unfold questP; rw [h]
theorem questP_neg {ps r : List Pc} {a : RA} (h : atomP ps = some (a, r)) (hn : a.neg = true) : questP ps = none := by
  unfold questP
  rw [h]
  cases r with
  | nil => simp [hn]
  | cons p r => rfl
theorem questP_more {ps : List Pc} {p : Pc} {r : List Pc} {a : RA} (h : atomP ps = some (a, p :: r)) : questP ps = none := by unfold questP; rw [h]
theorem questP_yes {ps : List Pc} {a : RA} (h : atomP ps = some (a, [])) (hn : a.neg = false) : questP ps = some a := by unfold questP; rw [h]; simp [hn]
theorem coreP_none (neg : Bool) (bang : Nat) (p : Pc) (r : List Pc) (h : (p.mark == 110) = false) : coreP neg bang (p :: r) = none := by cases r <;> simp [coreP, h]
theorem coreP_neg (neg : Bool) (bang : Nat) (ps : List Pc) (a : RA) (r : List Pc) (h : coreP neg bang ps = some (a, r)) : a.neg = neg := by
  cases ps with
  | nil => simp [coreP] at h
  | cons p q =>
    cases h110 : (p.mark == 110)
    · rw [coreP_none _ _ _ _ h110] at h; exact absurd h (by simp)
    · cases q with
      | nil =>
        rw [coreP, if_pos h110] at h
        simp only [Option.some.injEq, Prod.mk.injEq] at h
        rw [← h.1]
      | cons q0 r0 =>
        rw [coreP, if_pos h110] at h
        cases h40 : (q0.mark == 40)
        · simp only [h40, Bool.false_eq_true, if_false, Option.some.injEq, Prod.mk.injEq] at h
          rw [← h.1]
        · simp only [h40, if_true] at h
          cases ht : termsP [] r0 with
          | none => rw [ht] at h; exact absurd h (by simp)
          | some x =>
            obtain ⟨ts, u⟩ := x
            rw [ht, Option.bind_some] at h
            unfold closeP at h
            cases u with
            | nil => exact absurd h (by simp)
            | cons c u =>
              simp only [] at h
              split at h
              · simp only [Option.some.injEq, Prod.mk.injEq] at h
                rw [← h.1]
              · exact absurd h (by simp)
def qK (a : RA) : List Pc → Option RA
  | [] => some a
  | _ :: _ => none
theorem questP_core (ps : List Pc) : questP ps = (coreP false 0 ps).bind fun x => qK x.1 x.2 := by
  cases ps with
  | nil => rfl
  | cons p r =>
    cases hb : (p.mark == 33)
    · have e : atomP (p :: r) = coreP false 0 (p :: r) := by rw [atomP, if_neg (by rw [hb]; simp)]
      cases hc : coreP false 0 (p :: r) with
      | none => rw [questP_no (e.trans hc)]; rfl
      | some x =>
        obtain ⟨a, q⟩ := x
        cases q with
        | nil => rw [questP_yes (e.trans hc) (coreP_neg _ _ _ _ _ hc)]; rfl
        | cons p' q => rw [questP_more (e.trans hc)]; rfl
    · have hm : (p.mark == 110) = false := by
        rw [beq_iff_eq] at hb
        rw [hb]; rfl
      rw [coreP_none _ _ _ _ hm]
      have e : atomP (p :: r) = coreP true p.pl r := by rw [atomP, if_pos hb]
      cases hc : coreP true p.pl r with
      | none => rw [questP_no (e.trans hc)]; rfl
      | some x =>
        obtain ⟨a, q⟩ := x
        rw [questP_neg (e.trans hc) (coreP_neg _ _ _ _ _ hc)]; rfl
/-- The document's question and the reader's. -/
theorem question_same (s : ByteArray) : match questT s with
    | none => qOk s s.data.toList = false
    | some a => qOk s s.data.toList = true ∧ (∃ r, atomR s s.data.toList = ⟨true, a.name, a.ts.map RT.s, a.pl, a.ts.map RT.pl, r⟩) ∧ a.bang = 0 ∧ a.neg = false ∧ a.fit := by
  have hT : questT s = (atomT s.size false 0 s.data.toList).bind fun x => (T s.size x.2).bind (qK x.1) := by
    unfold questT
    rw [show questP = fun q => (coreP false 0 q).bind fun x => qK x.1 x.2 from funext questP_core]
    exact atom_sim s.size s.data.toList false 0 qK (fun a p r _ => rfl)
  rw [hT]
  have h := atomR_T s false 0 s.data.toList
  cases hq : atomT s.size false 0 s.data.toList with
  | none =>
    rw [hq] at h
    simp only [] at h
    simp [qOk, h]
  | some x =>
    obtain ⟨a, r⟩ := x
    rw [hq] at h
    obtain ⟨h1, h2, h3⟩ := h
    have hf := atomT_fit s.size false 0 s.data.toList a r hq
    rw [Option.bind_some]
    simp only []
    rcases skipL_head r with hs | ⟨c, t, hs, hb⟩
    · have e : (T s.size r).bind (qK a) = some a := by rw [← T_skip, hs]; rfl
      rw [e]
      exact ⟨by simp [qOk, h1, hs], ⟨r, h1⟩, h2, h3, hf⟩
    · have e : (T s.size r).bind (qK a) = none := by
        cases ht : T s.size r with
        | none => rfl
        | some qs =>
          obtain ⟨p, q, rfl⟩ := T_some s.size r c t hs hb qs ht
          rfl
      rw [e]
      simp [qOk, h1, hs]

end Go.Proofs.YtpbfiffgcgnidaaGreatDoor

namespace Go.Proofs.YtpbfiffgcgnidaaGreatDoor
open Go.RowKit Go.WideMaps Go.Maps
attribute [local go_sem] drewN_alloc drewN_setCell

def NoPost (w : World) (s : ByteArray) (e : Ending) (w' : World) : Prop := e = .returned (.tuple #[.agg zA.toArray, .agg zS.toArray, .int .i64 (posOf s (qRest s s.data.toList) : Nat), .bool false]) ∧ Below w.heap.size w w'
set_option maxHeartbeats 1000000 in
set_option maxRecDepth 100000 in
theorem readQuestion_dead (w : World) (s : ByteArray) (hs : s.size ≤ 2000) (hok : (qAtom s).ok = false) : Calls Tryz.prog 104 #[.string s] w fun e w' => NoPost w s e w' := by
  have hsm : s.size ≤ maxLen := by unfold maxLen; omega
  have hRb := Blk.new ((w.alloc (.cells zA.toArray 80)).alloc (.cells zS.toArray 141)) [.string s, .int .i64 0] 114
  have hsz : ((w.alloc (.cells zA.toArray 80)).alloc (.cells zS.toArray 141)).heap.size = w.heap.size + 1 + 1 := by simp
  rw [hsz] at hRb
  have hR0 : Rd (((w.alloc (.cells zA.toArray 80)).alloc (.cells zS.toArray 141)).alloc (.cells #[.string s, .int .i64 0] 114)) (w.heap.size + 1 + 1) s s.data.toList := ⟨0, by omega, by simp, hRb⟩
  have hP0 := ((Blk.new w zA 80).alloc (.cells zS.toArray 141)).alloc (.cells #[.string s, .int .i64 0] 114)
  have hQ0 := (new_two w (.cells zA.toArray 80) zS 141).alloc (.cells #[.string s, .int .i64 0] 114)
  have hB0 : Below w.heap.size w (((w.alloc (.cells zA.toArray 80)).alloc (.cells zS.toArray 141)).alloc (.cells #[.string s, .int .i64 0] 114)) := (((Below.refl _ w).alloc (Nat.le_refl _) _).alloc (by simp) _).alloc (by simp; omega) _
  clear hRb hsz
  have HAL := hid (atom_l _ (w.heap.size + 1 + 1) s s.data.toList hR0 (by omega))
  obtain ⟨A, HA⟩ : ∃ A, Hid (A = qAtom s) := ⟨_, rfl⟩
  have HAE : Hid (atomR s s.data.toList = A) := HA.out.symm
  have HQ0 := hid hQ0
  have HP0 := hid hP0
  have HB0 := hid hB0
  clear hR0 hQ0 hP0 hB0
  obtain ⟨p, HPO⟩ : ∃ p, Hid (posOf s (qRest s s.data.toList) = p) := ⟨_, rfl⟩
  have HPR := hid (show posOf s A.rest = p by rw [← HPO.out]; unfold qRest; rw [HAE.out, HA.out, hok]; rfl)
  rw [← HA.out] at hok
  clear HA
  go_enter Tryz.func104, Tryz.ntmps104
  go_wp2_with fail
  refine (HAL.out).mono ?_
  rintro e w1 ⟨he, hR1, hK1⟩
  rw [HAE.out] at he hR1
  rw [AtR.val_eq, hok] at he
  subst he
  have hb1 : w.heap.size + 1 + 1 < w1.heap.size := hR1.lt
  have hP1 := HP0.out.kept hK1 (by omega)
  have hQ1 := HQ0.out.kept hK1 (by omega)
  have hBw1 : Below w.heap.size w w1 := HB0.out.trans (hK1.below (by omega) (by simp; omega))
  clear HAL HB0 HP0 HQ0
  have hat : w1.cell? ⟨w.heap.size + 1 + 1, 1, none⟩ = some (.int .i64 (posOf s A.rest : Nat)) := hR1.at.1.cell 1
  rw [HPR.out] at hat
  have fP := hP1.frozen
  have fQ := hQ1.frozen
  obtain ⟨a0, a1, a2, a3, a4⟩ := hP1.c5
  obtain ⟨s0, s1, s2, s3, s4⟩ := hQ1.c5
  have hz1 : w.heap.size < w1.heap.size := by omega
  have hz2 : w.heap.size + 1 < w1.heap.size := by omega
  have hz3 : w.heap.size < w1.heap.size + 1 := by omega
  have hz4 : w.heap.size + 1 < w1.heap.size + 1 := by omega
  have hz5 : w.heap.size + 1 + 1 < w1.heap.size + 1 := by omega
  have HB2 := hid hBw1
  clear hP1 hQ1 hR1 hK1 hBw1 hok HAE HPR
  go_wp2_with fail
  go_region
  all_goals go_wp2_with fail
  all_goals
    refine bodyPost_ret (v := .tuple #[.agg #[.string ⟨#[]⟩, .int .i64 0, .string ⟨#[]⟩, .string ⟨#[]⟩, .string ⟨#[]⟩], .agg #[.int .i64 0, .int .i64 0, .int .i64 0, .int .i64 0, .int .i64 0], .int .i64 (p : Nat), .bool false]) (by simp [results, Tryz.results104, go_sem, *]) rfl ⟨?_, ?_⟩
    · rw [← HPO.out]; rfl
    · refine Below.drew ?_
      refine Below.alloc ?_ (by simp; omega) _
      refine Below.alloc ?_ (by simp; omega) _
      repeat (refine Below.setCell ?_ (by simp only []; omega) _)
      exact HB2.out

set_option maxHeartbeats 1000000 in
set_option maxRecDepth 100000 in
theorem readQuestion_more (w : World) (s : ByteArray) (hs : s.size ≤ 2000) (hok : (qAtom s).ok = true) (hend : (skipL (qAtom s).rest).isEmpty = false) : Calls Tryz.prog 104 #[.string s] w fun e w' => NoPost w s e w' := by
  have hsm : s.size ≤ maxLen := by unfold maxLen; omega
  have hRb := Blk.new ((w.alloc (.cells zA.toArray 80)).alloc (.cells zS.toArray 141)) [.string s, .int .i64 0] 114
  have hsz : ((w.alloc (.cells zA.toArray 80)).alloc (.cells zS.toArray 141)).heap.size = w.heap.size + 1 + 1 := by simp
  rw [hsz] at hRb
  have hR0 : Rd (((w.alloc (.cells zA.toArray 80)).alloc (.cells zS.toArray 141)).alloc (.cells #[.string s, .int .i64 0] 114)) (w.heap.size + 1 + 1) s s.data.toList := ⟨0, by omega, by simp, hRb⟩
  have hP0 := ((Blk.new w zA 80).alloc (.cells zS.toArray 141)).alloc (.cells #[.string s, .int .i64 0] 114)
  have hQ0 := (new_two w (.cells zA.toArray 80) zS 141).alloc (.cells #[.string s, .int .i64 0] 114)
  have hB0 : Below w.heap.size w (((w.alloc (.cells zA.toArray 80)).alloc (.cells zS.toArray 141)).alloc (.cells #[.string s, .int .i64 0] 114)) := (((Below.refl _ w).alloc (Nat.le_refl _) _).alloc (by simp) _).alloc (by simp; omega) _
  clear hRb hsz
  have HAL := hid (atom_l _ (w.heap.size + 1 + 1) s s.data.toList hR0 (by omega))
  obtain ⟨A, HA⟩ : ∃ A, Hid (A = qAtom s) := ⟨_, rfl⟩
  have HAE : Hid (atomR s s.data.toList = A) := HA.out.symm
  have HQ0 := hid hQ0
  have HP0 := hid hP0
  have HB0 := hid hB0
  clear hR0 hQ0 hP0 hB0
  obtain ⟨p, HPO⟩ : ∃ p, Hid (posOf s (qRest s s.data.toList) = p) := ⟨_, rfl⟩
  have HPR := hid (show posOf s (skipL A.rest) = p by rw [← HPO.out]; unfold qRest; rw [HAE.out, HA.out, hok]; rfl)
  rw [← HA.out] at hok hend
  clear HA
  go_enter Tryz.func104, Tryz.ntmps104
  go_wp2_with fail
  refine (HAL.out).mono ?_
  rintro e w1 ⟨he, hR1, hK1⟩
  rw [HAE.out] at he hR1
  rw [AtR.val_eq, hok] at he
  subst he
  have hb1 : w.heap.size + 1 + 1 < w1.heap.size := hR1.lt
  have hP1 := HP0.out.kept hK1 (by omega)
  have hQ1 := HQ0.out.kept hK1 (by omega)
  have hBw1 : Below w.heap.size w w1 := HB0.out.trans (hK1.below (by omega) (by simp; omega))
  clear HAL HB0 HP0 HQ0
  have HE1 := hid (atEnd_l _ (w.heap.size + 1 + 1) s A.rest ((hR1.alloc (.cells #[.string A.nm, .int .i64 A.cn, .string (A.t 0), .string (A.t 1), .string (A.t 2)] 80)).alloc (.cells #[.int .i64 0, .int .i64 A.np', .int .i64 (A.p 0), .int .i64 (A.p 1), .int .i64 (A.p 2)] 141)) hsm)
  rw [hend] at HE1
  have HP1 := hid ((hP1.alloc (.cells #[.string A.nm, .int .i64 A.cn, .string (A.t 0), .string (A.t 1), .string (A.t 2)] 80)).alloc (.cells #[.int .i64 0, .int .i64 A.np', .int .i64 (A.p 0), .int .i64 (A.p 1), .int .i64 (A.p 2)] 141))
  have HQ1 := hid ((hQ1.alloc (.cells #[.string A.nm, .int .i64 A.cn, .string (A.t 0), .string (A.t 1), .string (A.t 2)] 80)).alloc (.cells #[.int .i64 0, .int .i64 A.np', .int .i64 (A.p 0), .int .i64 (A.p 1), .int .i64 (A.p 2)] 141))
  have HB1 := hid ((hBw1.alloc (by omega) (.cells #[.string A.nm, .int .i64 A.cn, .string (A.t 0), .string (A.t 1), .string (A.t 2)] 80)).alloc (by simp; omega) (.cells #[.int .i64 0, .int .i64 A.np', .int .i64 (A.p 0), .int .i64 (A.p 1), .int .i64 (A.p 2)] 141))
  clear hP1 hQ1 hBw1 hend hok hK1 hR1 HAE
  go_wp2_with fail
  refine (HE1.out).mono ?_
  rintro e w2 ⟨rfl, hR2, hK2⟩
  have hat : w2.cell? ⟨w.heap.size + 1 + 1, 1, none⟩ = some (.int .i64 (posOf s (skipL A.rest) : Nat)) := hR2.at.1.cell 1
  rw [HPR.out] at hat
  have hP2 := HP1.out.kept hK2 (by omega)
  have hQ2 := HQ1.out.kept hK2 (by omega)
  have fP := hP2.frozen
  have fQ := hQ2.frozen
  have HB2 := hid (HB1.out.trans (hK2.below (by omega) (by simp; omega)))
  obtain ⟨a0, a1, a2, a3, a4⟩ := hP2.c5
  obtain ⟨s0, s1, s2, s3, s4⟩ := hQ2.c5
  clear HE1 HP1 HQ1 HB1 hK2 hR2 hP2 hQ2 HPR
  go_wp2_with fail
  go_region
  all_goals go_wp2_with fail
  all_goals
    refine bodyPost_ret (v := .tuple #[.agg #[.string ⟨#[]⟩, .int .i64 0, .string ⟨#[]⟩, .string ⟨#[]⟩, .string ⟨#[]⟩], .agg #[.int .i64 0, .int .i64 0, .int .i64 0, .int .i64 0, .int .i64 0], .int .i64 (p : Nat), .bool false]) (by simp [results, Tryz.results104, go_sem, a0, a1, a2, a3, a4, s0, s1, s2, s3, s4]) rfl ⟨?_, ?_⟩
    · rw [← HPO.out]; rfl
    · refine Below.drew ?_
      repeat (refine Below.setCell ?_ (by simp only []; omega) _)
      exact HB2.out

theorem readQuestion_no (w : World) (s : ByteArray) (hs : s.size ≤ 2000) (hno : qOk s s.data.toList = false) : Calls Tryz.prog 104 #[.string s] w fun e w' => NoPost w s e w' := by
  cases hok : (qAtom s).ok
  · exact readQuestion_dead w s hs hok
  · refine readQuestion_more w s hs hok ?_
    unfold qOk at hno
    rw [show atomR s s.data.toList = qAtom s from rfl, hok, Bool.true_and] at hno
    exact hno

end Go.Proofs.YtpbfiffgcgnidaaGreatDoor
