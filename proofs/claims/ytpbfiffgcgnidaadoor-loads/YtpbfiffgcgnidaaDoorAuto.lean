/-
  OUR OWN. Where a text stands, byte by byte. No code here.
-/
import Derived.Test.YtpbfiffgcgnidaaDoorSame
namespace Go.Proofs.YtpbfiffgcgnidaaDoor
/-- Where a text stands, byte by byte: between clauses; in a name; behind one; behind an atom; where a term is wanted; in a term; behind one; behind a colon; where a literal is wanted; behind its bang. x: in the head (none), or in the body's literal j. -/
structure St where
  tag : Nat
  k : Nat
  x : Option Nat
  t : Nat
  v : Bool
  w : Nat
abbrev St.top (k : Nat) : St := ⟨0, k, none, 0, false, 0⟩
abbrev St.name (k : Nat) (x : Option Nat) (w : Nat) : St := ⟨1, k, x, 0, false, w⟩
abbrev St.named (k : Nat) (x : Option Nat) : St := ⟨2, k, x, 0, false, 0⟩
abbrev St.atom (k : Nat) (x : Option Nat) : St := ⟨3, k, x, 0, false, 0⟩
abbrev St.opened (k : Nat) (x : Option Nat) (t : Nat) : St := ⟨4, k, x, t, false, 0⟩
abbrev St.term (k : Nat) (x : Option Nat) (t : Nat) (v : Bool) (w : Nat) : St := ⟨5, k, x, t, v, w⟩
abbrev St.termed (k : Nat) (x : Option Nat) (t : Nat) : St := ⟨6, k, x, t, false, 0⟩
abbrev St.colon (k : Nat) : St := ⟨7, k, none, 0, false, 0⟩
abbrev St.lit (k j : Nat) : St := ⟨8, k, none, j, false, 0⟩
abbrev St.bang (k j : Nat) : St := ⟨9, k, none, j, false, 0⟩
def dAtom (k : Nat) (x : Option Nat) (c : Int) : Option St :=
  if c == 46 then some (.top (k + 1))
  else match x with
    | none => if c == 58 then some (.colon k) else none
    | some j => if c == 44 && decide (j < 3) then some (.lit k (j + 1)) else none
def dNamed (k : Nat) (x : Option Nat) (c : Int) : Option St :=
  if blank c then some (.named k x) else if c == 40 then some (.opened k x 0) else dAtom k x c
def dTermed (k : Nat) (x : Option Nat) (t : Nat) (c : Int) : Option St :=
  if blank c then some (.termed k x t) else if c == 41 then some (.atom k x) else if c == 44 && decide (t < 2) then some (.opened k x (t + 1)) else none
def fitsV (v : Bool) (c : Int) : Bool := if v then letterDig c else smallDig c
def dl (st : St) (c : Int) : Option St :=
  match st.tag with
  | 0 => if blank c then some (.top st.k) else if small c && decide (st.k < 40) then some (.name st.k none 1) else none
  | 1 => if smallDig c && decide (st.w < 12) then some (.name st.k st.x (st.w + 1)) else dNamed st.k st.x c
  | 2 => dNamed st.k st.x c
  | 3 => if blank c then some (.atom st.k st.x) else dAtom st.k st.x c
  | 4 => if blank c then some (.opened st.k st.x st.t) else if small c then some (.term st.k st.x st.t false 1) else if great c then some (.term st.k st.x st.t true 1) else none
  | 5 => if fitsV st.v c && decide (st.w < 12) then some (.term st.k st.x st.t st.v (st.w + 1)) else dTermed st.k st.x st.t c
  | 6 => dTermed st.k st.x st.t c
  | 7 => if c == 45 then some (.lit st.k 0) else none
  | 8 => if blank c then some (.lit st.k st.t) else if c == 33 then some (.bang st.k st.t) else if small c then some (.name st.k (some st.t) 1) else none
  | 9 => if blank c then some (.bang st.k st.t) else if small c then some (.name st.k (some st.t) 1) else none
  | _ => none
def St.acc (st : St) : Bool := st.tag == 0
abbrev Out := List UInt8 ⊕ Bool
abbrev Out.dead (rest : List UInt8) : Out := .inl rest
abbrev Out.fin (acc : Bool) : Out := .inr acc
def D : St → List UInt8 → Out
  | st, [] => Out.fin st.acc
  | st, c :: l => match dl st (c.toNat : Int) with
    | none => Out.dead (c :: l)
    | some st' => D st' l
/-- No way on. -/
def F (l : List UInt8) : Out := match l with
  | [] => Out.fin false
  | c :: r => Out.dead (c :: r)
theorem D_no (st : St) (l : List UInt8) (h : dl st (hd l) = none) (hf : st.acc = false) : D st l = F l := by
  cases l with
  | nil => simp [D, F, hf]
  | cons c l =>
    have h' : dl st (c.toNat : Int) = none := h
    rw [D, h']; rfl
theorem D_yes (st st' : St) (l : List UInt8) (h : dl st (hd l) = some st') (hl : l ≠ []) : D st l = D st' l.tail := by
  cases l with
  | nil => exact absurd rfl hl
  | cons c l =>
    have h' : dl st (c.toNat : Int) = some st' := h
    rw [D, h']; rfl
theorem D_skip (st : St) (h : ∀ c, blank c = true → dl st c = some st) (l : List UInt8) : D st l = D st (skipL l) := by
  induction l with
  | nil => rfl
  | cons c l ih =>
    unfold skipL
    split
    · rename_i hb; rw [D, h _ hb]; exact ih
    · rfl
/-- Two places that go the same way on. -/
theorem D_same (st st' : St) (l : List UInt8) (h : dl st (hd l) = dl st' (hd l)) (hf : st.acc = st'.acc) : D st l = D st' l := by
  cases l with
  | nil => simp [D, hf]
  | cons c l =>
    have h' : dl st (c.toNat : Int) = dl st' (c.toNat : Int) := h
    rw [D, D, h']
theorem D_name (k : Nat) (x : Option Nat) (n w : Nat) (hn : n + w = 12) (l : List UInt8) : D (.name k x w) l = D (.named k x) (l.drop (wlen smallDig n l)) := by
  induction n generalizing w l with
  | zero =>
    have : wlen smallDig 0 l = 0 := by unfold wlen; rfl
    rw [this, List.drop_zero]
    apply D_same
    · simp only [dl, show ¬ w < 12 by omega, decide_false, Bool.and_false]; rfl
    · rfl
  | succ n ih =>
    cases l with
    | nil => rfl
    | cons c l =>
      unfold wlen
      cases hc : smallDig (c.toNat : Int)
      · simp only [Bool.false_eq_true, if_false, List.drop_zero]
        apply D_same
        · simp only [dl, hd, hc, Bool.false_and]; rfl
        · rfl
      · simp only [if_true, List.drop_succ_cons]
        rw [D]
        simp only [dl, hc, Bool.true_and, show w < 12 by omega, decide_true, if_true]
        exact ih (w + 1) (by omega) l
theorem D_term (k : Nat) (x : Option Nat) (t : Nat) (v : Bool) (n w : Nat) (hn : n + w = 12) (l : List UInt8) : D (.term k x t v w) l = D (.termed k x t) (l.drop (wlen (fitsV v) n l)) := by
  induction n generalizing w l with
  | zero =>
    have : wlen (fitsV v) 0 l = 0 := by unfold wlen; rfl
    rw [this, List.drop_zero]
    apply D_same
    · simp only [dl, show ¬ w < 12 by omega, decide_false, Bool.and_false]; rfl
    · rfl
  | succ n ih =>
    cases l with
    | nil => rfl
    | cons c l =>
      unfold wlen
      cases hc : fitsV v (c.toNat : Int)
      · simp only [Bool.false_eq_true, if_false, List.drop_zero]
        apply D_same
        · simp only [dl, hd, hc, Bool.false_and]; rfl
        · rfl
      · simp only [if_true, List.drop_succ_cons]
        rw [D]
        simp only [dl, hc, Bool.true_and, show w < 12 by omega, decide_true, if_true]
        exact ih (w + 1) (by omega) l
theorem took_cons (l : List UInt8) (m : Int) (hm : m ≠ 0) (h : tookB l m = true) : ∃ c r, skipL l = c :: r ∧ (c.toNat : Int) = m ∧ tookL l m = r := by
  unfold tookL
  rw [h, if_pos rfl]
  unfold tookB at h
  rw [beq_iff_eq] at h
  cases hs : skipL l with
  | nil => rw [hs] at h; exact absurd h.symm hm
  | cons c r => rw [hs] at h; exact ⟨c, r, rfl, h, rfl⟩
theorem took_no (l : List UInt8) (m : Int) (h : tookB l m = false) : (hd (skipL l) == m) = false := h
/-- The atom's end: behind a clause's last atom. -/
def dot (k : Nat) (l : List UInt8) : Out := if tookB l 46 = true then D (.top (k + 1)) (tookL l 46) else F (skipL l)
theorem dot_skip (k : Nat) (l : List UInt8) : dot k (skipL l) = dot k l := by unfold dot; rw [tookB_skip, tookL_skip, skipL_skip]
theorem D_dot (k : Nat) (x : Option Nat) (l : List UInt8) (h : match x with | none => tookB l 58 = false | some j => (3 ≤ j ∨ tookB l 44 = false)) : D (.atom k x) l = dot k l := by
  rw [D_skip _ (by intro c hc; simp [dl, hc])]
  unfold dot
  have hb := skip_blank l
  cases h46 : tookB l 46
  · rw [if_neg (by simp)]
    apply D_no
    · have h46' := took_no l 46 h46
      simp only [dl, hb, dAtom, h46', Bool.false_eq_true, if_false]
      cases x with
      | none => have h' := took_no l 58 h; simp only [h', Bool.false_eq_true, if_false]
      | some j =>
        rcases h with h | h
        · simp only [show ¬ j < 3 by omega, decide_false, Bool.and_false, Bool.false_eq_true, if_false]
        · have h' := took_no l 44 h; simp only [h', Bool.false_and, Bool.false_eq_true, if_false]
    · rfl
  · rw [if_pos rfl]
    obtain ⟨c, r, hs, hc, ht⟩ := took_cons l 46 (by decide) h46
    rw [hs, ht, D]
    have : dl (.atom k x) (c.toNat : Int) = some (.top (k + 1)) := by rw [hc]; rfl
    rw [this]
/- The terms. -/
theorem D_opened (k : Nat) (x : Option Nat) (t : Nat) (l : List UInt8) : D (.opened k x t) l = if termB l = false then F (skipL l) else D (.termed k x t) (termL l) := by
  rw [D_skip _ (by intro c hc; simp [dl, hc])]
  have hb := skip_blank l
  unfold termB termL termN
  generalize skipL l = m at *
  cases h1 : small (hd m)
  · cases h2 : great (hd m)
    · simp only [Bool.or_self, if_true]
      exact D_no _ _ (by simp [dl, hb, h1, h2]) rfl
    · simp only [Bool.false_or, Bool.true_eq_false, if_false, if_true, Bool.false_eq_true]
      cases m with
      | nil => simp [hd, great] at h2
      | cons c r =>
        have h1' : small (c.toNat : Int) = false := h1
        have h2' : great (c.toNat : Int) = true := h2
        have hb' : blank (c.toNat : Int) = false := hb
        have e : wlen letterDig 12 (c :: r) = wlen letterDig 11 r + 1 := by rw [wlen, if_pos (great_fits _ h2').1]
        rw [D]
        simp only [dl, hb', h1', h2', Bool.false_eq_true, if_false, if_true]
        rw [D_term k x t true 11 1 rfl, e, List.drop_succ_cons]
        rfl
  · simp only [Bool.true_or, Bool.true_eq_false, if_false, if_true]
    cases m with
    | nil => simp [hd, small] at h1
    | cons c r =>
      have h1' : small (c.toNat : Int) = true := h1
      have hb' : blank (c.toNat : Int) = false := hb
      have e : wlen smallDig 12 (c :: r) = wlen smallDig 11 r + 1 := by rw [wlen, if_pos (small_fits _ h1').1]
      rw [D]
      simp only [dl, hb', h1', Bool.false_eq_true, if_false, if_true]
      rw [D_term k x t false 11 1 rfl, e, List.drop_succ_cons]
      rfl
theorem D_termed (k : Nat) (x : Option Nat) (t : Nat) (l : List UInt8) : D (.termed k x t) l = if tookB l 41 = true then D (.atom k x) (tookL l 41) else if (tookB l 44 && decide (t < 2)) = true then D (.opened k x (t + 1)) (tookL l 44) else F (skipL l) := by
  rw [D_skip _ (by intro c hc; simp [dl, dTermed, hc])]
  have hb := skip_blank l
  cases h41 : tookB l 41
  · rw [if_neg (by simp)]
    have h41' := took_no l 41 h41
    cases h44 : tookB l 44
    · rw [Bool.false_and, if_neg (by simp)]
      have h44' := took_no l 44 h44
      exact D_no _ _ (by simp only [dl, dTermed, hb, h41', h44', Bool.false_and, Bool.false_eq_true, if_false]) rfl
    · obtain ⟨c, r, hs, hc, ht⟩ := took_cons l 44 (by decide) h44
      by_cases h2 : t < 2
      · rw [Bool.true_and, if_pos (by simpa using h2), hs, ht, D]
        have : dl (.termed k x t) (c.toNat : Int) = some (.opened k x (t + 1)) := by rw [hc]; simp [dl, dTermed, blank, h2]
        rw [this]
      · rw [Bool.true_and, if_neg (by simpa using h2)]
        exact D_no _ _ (by rw [hs]; show dl _ (c.toNat : Int) = none; rw [hc]; simp [dl, dTermed, blank, h2]) rfl
  · rw [if_pos rfl]
    obtain ⟨c, r, hs, hc, ht⟩ := took_cons l 41 (by decide) h41
    rw [hs, ht, D]
    have : dl (.termed k x t) (c.toNat : Int) = some (.atom k x) := by rw [hc]; rfl
    rw [this]
theorem D_args (s : ByteArray) (nm : List UInt8) (np : Nat) (k : Nat) (x : Option Nat) (f : Nat) (ts : List (List UInt8)) (ps : List Nat) (t : Nat) (ht : t + (f + 1) = 3) (l : List UInt8) :
    D (.opened k x t) l = if (argsR s nm np (f + 1) ts ps l).ok = true then D (.atom k x) (argsR s nm np (f + 1) ts ps l).rest else F (argsR s nm np (f + 1) ts ps l).rest := by
  induction f generalizing ts ps t l with
  | zero =>
    rw [D_opened, argsR]
    cases h1 : termB l
    · simp only [if_true, Bool.false_eq_true, if_false]
      have : termL l = skipL l := by
        unfold termL termN
        unfold termB at h1
        rw [Bool.or_eq_false_iff] at h1
        rw [h1.1, h1.2]
        simp
      rw [this]
    · simp only [Bool.true_eq_false, if_false, if_true]
      rw [D_termed]
      cases h41 : tookB (termL l) 41
      · have h2 : ¬ t < 2 := by omega
        simp only [Bool.false_eq_true, if_false, h2, decide_false, Bool.and_false, tookL_no _ _ h41]
      · simp
  | succ f ih =>
    rw [D_opened, argsR]
    cases h1 : termB l
    · simp only [if_true, Bool.false_eq_true, if_false]
      have : termL l = skipL l := by
        unfold termL termN
        unfold termB at h1
        rw [Bool.or_eq_false_iff] at h1
        rw [h1.1, h1.2]
        simp
      rw [this]
    · simp only [Bool.true_eq_false, if_false, show ¬ f + 1 = 0 by omega]
      rw [D_termed]
      have h2 : t < 2 := by omega
      cases h44 : tookB (termL l) 44
      · simp only [if_true, Bool.false_and, Bool.false_eq_true, if_false, tookL_no _ _ h44, tookB_skip, tookL_skip]
        cases h41 : tookB (termL l) 41
        · simp only [Bool.false_eq_true, if_false, tookL_no _ _ h41]
        · simp
      · have h41 : tookB (termL l) 41 = false := by
          unfold tookB at h44 ⊢
          rw [beq_iff_eq] at h44
          rw [h44]; rfl
        simp only [h41, Bool.false_eq_true, if_false, Bool.true_and, h2, decide_true, if_true, Bool.true_eq_false]
        exact ih _ _ (t + 1) (by omega) _
/-- An atom's own text, from where its name is wanted. -/
theorem D_named (k : Nat) (x : Option Nat) (l : List UInt8) : D (.named k x) l = if tookB l 40 = true then D (.opened k x 0) (tookL l 40) else D (.atom k x) (skipL l) := by
  rw [D_skip _ (by intro c hc; simp [dl, dNamed, hc])]
  have hb := skip_blank l
  cases h40 : tookB l 40
  · rw [if_neg (by simp)]
    have h40' := took_no l 40 h40
    apply D_same
    · simp only [dl, dNamed, hb, h40', Bool.false_eq_true, if_false]
    · rfl
  · rw [if_pos rfl]
    obtain ⟨c, r, hs, hc, ht⟩ := took_cons l 40 (by decide) h40
    rw [hs, ht, D]
    have : dl (.named k x) (c.toNat : Int) = some (.opened k x 0) := by rw [hc]; rfl
    rw [this]
theorem D_atom (s : ByteArray) (st : St) (k : Nat) (x : Option Nat) (l : List UInt8) (hsk : ∀ c, blank c = true → dl st c = some st) (hacc : st.acc = false ∨ skipL l ≠ []) (hyes : ∀ c, small c = true → dl st c = some (.name k x 1)) (hno : small (hd (skipL l)) = false → dl st (hd (skipL l)) = none) :
    D st l = if (atomR s l).ok = true then D (.atom k x) (atomR s l).rest else F (atomR s l).rest := by
  rw [D_skip st hsk]
  unfold atomR
  simp only []
  generalize skipL l = m at *
  cases h1 : small (hd m)
  · simp only [if_true, Bool.false_eq_true, if_false]
    cases m with
    | nil =>
      rcases hacc with h | h
      · exact D_no _ _ (hno h1) h
      · exact absurd rfl h
    | cons c r =>
      have h' : dl st (c.toNat : Int) = none := hno h1
      rw [D, h']; rfl
  · simp only [Bool.true_eq_false, if_false]
    cases m with
    | nil => simp [hd, small] at h1
    | cons c r =>
      have h1' : small (c.toNat : Int) = true := h1
      have e : wlen smallDig 12 (c :: r) = wlen smallDig 11 r + 1 := by rw [wlen, if_pos (small_fits _ h1').1]
      rw [D, hyes _ h1']
      simp only []
      rw [D_name k x 11 1 rfl, e, List.drop_succ_cons, D_named]
      generalize r.drop (wlen smallDig 11 r) = q
      cases h40 : tookB q 40
      · simp only [Bool.false_eq_true, if_false, if_true, tookL_no _ _ h40]
      · simp only [if_true, Bool.true_eq_false, if_false]
        exact D_args s _ _ k x 2 [] [] 0 rfl _
theorem D_lit (s : ByteArray) (k j : Nat) (l : List UInt8) : D (.lit k j) l = if (litAt s l).ok = true then D (.atom k (some j)) (litAt s l).rest else F (litAt s l).rest := by
  unfold litAt
  cases h33 : tookB l 33
  · rw [tookL_no _ _ h33, D_skip _ (by intro c hc; simp [dl, hc])]
    refine D_atom s (.lit k j) k (some j) (skipL l) (by intro c hc; simp [dl, hc]) (.inl rfl) ?_ ?_
    · intro c hc
      obtain ⟨_, f2, f3, _, _⟩ := small_fits c hc
      have : (c == 33) = false := by unfold signB at f3; simp only [Bool.or_eq_false_iff] at f3; exact f3.2
      simp [dl, f2, this, hc]
    · rw [skipL_skip]
      intro hs
      have h33' := took_no l 33 h33
      simp only [dl, skip_blank l, h33', hs, Bool.false_eq_true, if_false]
  · obtain ⟨c, r, hs, hc, ht⟩ := took_cons l 33 (by decide) h33
    rw [ht, D_skip _ (by intro c hc; simp [dl, hc]), hs, D]
    have : dl (.lit k j) (c.toNat : Int) = some (.bang k j) := by rw [hc]; rfl
    rw [this]
    refine D_atom s (.bang k j) k (some j) r (by intro c hc; simp [dl, hc]) (.inl rfl) ?_ ?_
    · intro c hc
      obtain ⟨_, f2, _, _, _⟩ := small_fits c hc
      simp [dl, f2, hc]
    · intro hs
      simp only [dl, skip_blank r, hs, Bool.false_eq_true, if_false]
theorem D_lits (s : ByteArray) (k f : Nat) (j : Nat) (hj : j + (f + 1) = 4) (ls : List LitD) (sp : List SpotD) (l : List UInt8) :
    D (.lit k j) l = if (litsR s (f + 1) ls sp l).ok = true then dot k (litsR s (f + 1) ls sp l).rest else F (litsR s (f + 1) ls sp l).rest := by
  induction f generalizing j ls sp l with
  | zero =>
    rw [D_lit s, litsR]
    cases h1 : (litAt s l).ok
    · simp
    · simp only [if_true, Bool.true_eq_false, if_false]
      exact D_dot k (some j) _ (.inl (by omega))
  | succ f ih =>
    rw [D_lit s, litsR]
    cases h1 : (litAt s l).ok
    · simp
    · simp only [if_true, Bool.true_eq_false, if_false, show ¬ f + 1 = 0 by omega]
      cases h44 : tookB (litAt s l).rest 44
      · simp only [if_true]
        rw [tookL_no _ _ h44, dot_skip]
        exact D_dot k (some j) _ (.inr h44)
      · simp only [Bool.true_eq_false, if_false]
        obtain ⟨c, r, hs, hc, ht⟩ := took_cons (litAt s l).rest 44 (by decide) h44
        rw [D_skip _ (by intro c hc; simp [dl, hc]), hs, D]
        have : dl (.atom k (some j)) (c.toNat : Int) = some (.lit k (j + 1)) := by rw [hc]; simp [dl, dAtom, blank, show j < 3 by omega]
        rw [this, ht]
        exact ih (j + 1) (by omega) _ _ r
theorem dot_eq (k : Nat) (l : List UInt8) : dot k l = if tookB l 46 = true then D (.top (k + 1)) (tookL l 46) else F (tookL l 46) := by
  unfold dot
  cases h : tookB l 46
  · simp [tookL_no _ _ h]
  · simp
theorem D_clause (s : ByteArray) (k : Nat) (hk : k < 40) (l : List UInt8) (hne : skipL l ≠ []) : D (.top k) l = if (clauseR s l).ok = true then D (.top (k + 1)) (clauseR s l).rest else F (clauseR s l).rest := by
  have ha := D_atom s (.top k) k none l (by intro c hc; simp [dl, hc]) (.inr hne) (by intro c hc; obtain ⟨_, f2, _⟩ := small_fits c hc; simp [dl, f2, hc, hk]) (by intro hs; simp [dl, skip_blank l, hs])
  rw [ha]
  unfold clauseR
  cases h1 : (atomR s l).ok
  · simp
  · simp only [if_true, Bool.true_eq_false, if_false]
    generalize (atomR s l).rest = r at *
    cases h58 : tookB r 58
    · simp only [if_true]
      rw [tookL_no _ _ h58, tookB_skip, tookL_skip, D_dot k none r h58, dot_eq]
    · simp only [Bool.true_eq_false, if_false]
      obtain ⟨c, q, hs, hc, ht⟩ := took_cons r 58 (by decide) h58
      rw [D_skip _ (by intro c hc; simp [dl, hc]), hs, D]
      have : dl (.atom k none) (c.toNat : Int) = some (.colon k) := by rw [hc]; rfl
      rw [this, ht]
      simp only []
      unfold bodyR
      cases h45 : (hd q == 45)
      · simp only [if_true, Bool.false_eq_true, if_false]
        exact D_no _ _ (by simp only [dl, h45, Bool.false_eq_true, if_false]) rfl
      · simp only [Bool.true_eq_false, if_false]
        cases q with
        | nil => simp [hd] at h45
        | cons d q =>
          have h45' : ((d.toNat : Int) == 45) = true := h45
          rw [D]
          simp only [dl, h45', if_true, List.tail_cons]
          have hD := D_lits s k 3 0 rfl [] [headSpot s l] q
          rw [show 3 + 1 = 4 from rfl] at hD
          rw [hD]
          by_cases hb : (litsR s 4 [] [headSpot s l] q).ok = true
          · simp only [hb, if_true, Bool.true_eq_false, if_false]
            rw [dot_eq]
          · rw [Bool.not_eq_true] at hb
            simp [hb]
theorem D_prog (s : ByteArray) (f k : Nat) (hk : k + f = 40) (ds : List ClD) (l : List UInt8) : D (.top k) l = if (progR s f ds l).ok = true then Out.fin true else F (progR s f ds l).rest := by
  induction f generalizing k ds l with
  | zero =>
    rw [progR]
    rcases skipL_head l with hs | ⟨c, r, hs, hb⟩
    · rw [D_skip _ (by intro c hc; simp [dl, hc]), hs]; rfl
    · rw [D_skip _ (by intro c hc; simp [dl, hc]), hs]
      have : dl (.top k) (c.toNat : Int) = none := by simp [dl, hb, show ¬ k < 40 by omega]
      rw [D, this]
      simp [F]
  | succ f ih =>
    rw [progR]
    rcases skipL_head l with hs | ⟨c, r, hs, hb⟩
    · rw [D_skip _ (by intro c hc; simp [dl, hc]), hs]; rfl
    · have he : (skipL l).isEmpty = false := by rw [hs]; rfl
      rw [D_skip _ (by intro c hc; simp [dl, hc]), D_clause s k (by omega) (skipL l) (by rw [skipL_skip, hs]; simp)]
      simp only [he, Bool.false_eq_true, if_false]
      cases h1 : (clauseR s (skipL l)).ok
      · simp
      · simp only [if_true, Bool.true_eq_false, if_false]
        exact ih (k + 1) (by omega) _ _
theorem D_program (s : ByteArray) : D (.top 0) s.data.toList = if (programR s).ok = true then Out.fin true else F (programR s).rest := D_prog s 40 0 rfl [] _

/- Where a text may go on. -/
def run : St → List UInt8 → Option St
  | st, [] => some st
  | st, c :: l => match dl st (c.toNat : Int) with
    | none => none
    | some st' => run st' l
theorem D_run (st : St) (u l : List UInt8) : D st (u ++ l) = match run st u with | some st' => D st' l | none => D st (u ++ l) := by
  induction u generalizing st with
  | nil => rfl
  | cons c u ih =>
    rw [List.cons_append, run]
    cases h : dl st (c.toNat : Int) with
    | none => rfl
    | some st' =>
      simp only []
      rw [D, h]
      simp only []
      have := ih st'
      cases hr : run st' u with
      | none => rfl
      | some q => rw [hr] at this; simp only [] at this ⊢; exact this
theorem run_none (st : St) (u l : List UInt8) (h : run st u = none) : ∃ r, D st (u ++ l) = Out.dead (r ++ l) ∧ r ≠ [] := by
  induction u generalizing st with
  | nil => simp [run] at h
  | cons c u ih =>
    rw [run] at h
    cases hd' : dl st (c.toNat : Int) with
    | none => exact ⟨c :: u, by rw [List.cons_append, D, hd'], by simp⟩
    | some st' =>
      rw [hd'] at h
      obtain ⟨r, h1, h2⟩ := ih st' h
      exact ⟨r, by rw [List.cons_append, D, hd']; exact h1, h2⟩
theorem dl_tag (st st' : St) (c : Int) (h : dl st c = some st') : st'.tag < 10 := by
  unfold dl dNamed dTermed dAtom at h
  repeat' split at h
  all_goals first
    | (simp at h; done)
    | (simp at h; subst h; simp)
theorem run_tag (st st' : St) (u : List UInt8) (hs : st.tag < 10) (h : run st u = some st') : st'.tag < 10 := by
  induction u generalizing st with
  | nil => simp [run] at h; rw [← h]; exact hs
  | cons c u ih =>
    rw [run] at h
    cases hd' : dl st (c.toNat : Int) with
    | none => rw [hd'] at h; simp at h
    | some q => rw [hd'] at h; exact ih q (dl_tag _ _ _ hd') h
def endsP : List (List UInt8) := [[], [46], [97, 46], [97, 41, 46], [41, 46], [45, 97, 46], [97], [97, 41], [41]]
theorem may_end (st : St) (h : st.tag < 10) : ∃ e ∈ endsP, D st e = Out.fin true := by
  obtain ⟨tag, k, x, t, v, w⟩ := st
  simp only [] at h
  have hc : tag = 0 ∨ tag = 1 ∨ tag = 2 ∨ tag = 3 ∨ tag = 4 ∨ tag = 5 ∨ tag = 6 ∨ tag = 7 ∨ tag = 8 ∨ tag = 9 := by omega
  rcases hc with rfl | rfl | rfl | rfl | rfl | rfl | rfl | rfl | rfl | rfl
  · exact ⟨[], by simp [endsP], rfl⟩
  · exact ⟨[46], by simp [endsP], rfl⟩
  · exact ⟨[46], by simp [endsP], rfl⟩
  · exact ⟨[46], by simp [endsP], rfl⟩
  · exact ⟨[97, 41, 46], by simp [endsP], rfl⟩
  · refine ⟨[41, 46], by simp [endsP], ?_⟩
    cases v <;> rfl
  · exact ⟨[41, 46], by simp [endsP], rfl⟩
  · exact ⟨[45, 97, 46], by simp [endsP], rfl⟩
  · exact ⟨[97, 46], by simp [endsP], rfl⟩
  · exact ⟨[97, 46], by simp [endsP], rfl⟩

end Go.Proofs.YtpbfiffgcgnidaaDoor
