/-
  OUR OWN. The reader and the document's own way: clauses, programs. No code here.
-/
import Derived.Test.YtpbfiffgcgnidaaGreatDoorXK1
namespace Go.Proofs.YtpbfiffgcgnidaaGreatDoor
def clauseQ (ps : List Pc) : Option (RC × List Pc) :=
  (atomP ps).bind fun x => if x.1.neg = true then none else (BP [] x.2).bind (dotP fun b r => some (⟨x.1, b⟩, r))
theorem clauseP_Q (ps : List Pc) : clauseP ps = clauseQ ps := by
  unfold clauseP clauseQ BP
  congr 1
theorem bind_dot {A B : Type} (C : List RA → List Pc → Option A) (F : A → Option B) (x : List RA × List Pc) : (dotP C x).bind F = dotP (fun b r => (C b r).bind F) x := by
  unfold dotP
  split
  · rfl
  · split <;> rfl
def clauseT (n : Nat) (l : List UInt8) : Option (RC × List UInt8) :=
  (atomT n false 0 l).bind fun x =>
    if tookB x.2 58 = false then (if tookB (tookL x.2 58) 46 = true then some (⟨x.1, []⟩, tookL (tookL x.2 58) 46) else none)
    else if (hd (tookL x.2 58) == 45) = false then none
    else (litsT n 4 [] (tookL x.2 58).tail).bind fun y => if tookB y.2 46 = true then some (⟨x.1, y.1⟩, tookL y.2 46) else none
theorem atomT_neg (n : Nat) (neg : Bool) (bang : Nat) (l : List UInt8) (a : RA) (r : List UInt8) (h : atomT n neg bang l = some (a, r)) : a.neg = neg := by
  unfold atomT at h
  split at h
  · simp at h
  · split at h
    · simp at h; rw [← h.1]
    · rw [Option.map_eq_some_iff] at h
      obtain ⟨x, _, hx⟩ := h
      simp at hx
      rw [← hx.1]
theorem clause_sim {A : Type} (n : Nat) (l : List UInt8) (K : RC → List Pc → Option A) :
    (T n l).bind (fun q => (clauseP q).bind (fun x => K x.1 x.2)) = (clauseT n l).bind (fun x => (T n x.2).bind (K x.1)) := by
  have e : (fun q => (clauseP q).bind (fun x => K x.1 x.2)) = (fun q => (atomP q).bind fun x => (fun (a : RA) (ps : List Pc) => if a.neg = true then none else (BP [] ps).bind (dotP fun b r => K ⟨a, b⟩ r)) x.1 x.2) := by
    funext q
    rw [clauseP_Q, clauseQ, Option.bind_assoc]
    congr 1
    funext x
    simp only []
    split
    · rfl
    · rw [Option.bind_assoc]
      congr 1
      funext y
      rw [bind_dot]
      rfl
  refine (congrArg (Option.bind (T n l)) e).trans ((lit_sim n l (fun (a : RA) (ps : List Pc) => if a.neg = true then none else (BP [] ps).bind (dotP fun b r => K ⟨a, b⟩ r)) (by
    intro a p r h
    split
    · rfl
    · exact BP_word _ _ p r h)).trans ?_)
  unfold litT clauseT
  cases h33 : tookB l 33
  · rw [if_neg (by simp)]
    cases ha : atomT n false 0 l with
    | none => rfl
    | some x =>
      obtain ⟨a, r⟩ := x
      have hneg := atomT_neg n false 0 l a r ha
      rw [Option.bind_some, Option.bind_some]
      simp only [hneg, Bool.false_eq_true, if_false]
      rw [show (fun ps => (BP [] ps).bind (dotP fun b r => K ⟨a, b⟩ r)) = _ from funext (BP_front0 _), T_colon_front]
      cases h58 : tookB r 58
      · rw [if_neg (by simp), if_pos rfl, dot_sim n r _ [] (by simp), tookL_no _ _ h58, tookB_skip, tookL_skip]
        split <;> rfl
      · cases h45 : (hd (tookL r 58) == 45)
        · rfl
        · simp only [if_true, Bool.true_eq_false, if_false]
          have hl := lits_sim n (fun b r => K ⟨a, b⟩ r) 3 [] (tookL r 58).tail rfl
          simp only [List.nil_append] at hl
          rw [hl, Option.bind_assoc]
          congr 1
          funext y
          unfold dotT
          split <;> rfl
  · rw [if_pos rfl]
    have h0 : atomT n false 0 l = none := by
      unfold atomT
      unfold tookB at h33
      rw [beq_iff_eq] at h33
      rw [h33, if_pos (by decide)]
    rw [h0]
    cases ha : atomT n true (n - (skipL l).length) (tookL l 33) with
    | none => rfl
    | some x =>
      obtain ⟨a, r⟩ := x
      have hneg := atomT_neg n true _ _ a r ha
      rw [Option.bind_some]
      simp only [hneg, if_true, none_bind]
      rfl
/- The program. -/
theorem clauseP_len (ps : List Pc) (c : RC) (r : List Pc) (h : clauseP ps = some (c, r)) : r.length < ps.length := by
  unfold clauseP at h
  rw [Option.bind_eq_some_iff] at h
  obtain ⟨⟨a, r1⟩, h1, h2⟩ := h
  have l1 := atomP_len _ _ _ h1
  simp only [] at h2
  split at h2
  · simp at h2
  · rw [Option.bind_eq_some_iff] at h2
    obtain ⟨⟨b, r2⟩, h3, h4⟩ := h2
    have l2 : r2.length ≤ r1.length := by
      have key : ∀ (f : Nat) (acc : List RA) (ps : List Pc), bodyP f acc ps = some (b, r2) → r2.length ≤ ps.length := by
        intro f
        induction f with
        | zero => intro acc ps h; simp [bodyP] at h; rw [h.2]; exact Nat.le_refl _
        | succ f ih =>
          intro acc ps h
          cases ps with
          | nil => simp [bodyP] at h; rw [h.2]; exact Nat.le_refl _
          | cons p ps =>
            rw [bodyP] at h
            split at h
            · rw [Option.bind_eq_some_iff] at h
              obtain ⟨⟨a', r3⟩, h5, h6⟩ := h
              have l3 := atomP_len _ _ _ h5
              have := ih _ _ h6
              simp only [] at this
              simp; omega
            · simp at h; rw [← h.2]; exact Nat.le_refl _
      exact key _ _ _ h3
    cases r2 with
    | nil => simp at h4
    | cons p r3 =>
      simp only [] at h4
      split at h4
      · simp at h4; rw [← h4.2]; simp at l2; omega
      · simp at h4
theorem progP_fuel (f : Nat) : ∀ (g : Nat) (acc : List RC) (ps : List Pc), ps.length ≤ f → ps.length ≤ g → progP f acc ps = progP g acc ps := by
  induction f with
  | zero =>
    intro g acc ps h1 h2
    cases ps with
    | nil => cases g <;> rfl
    | cons p r => simp at h1
  | succ f ih =>
    intro g acc ps h1 h2
    cases ps with
    | nil => cases g <;> rfl
    | cons p r =>
      cases g with
      | zero => simp at h2
      | succ g =>
        unfold progP
        cases hq : clauseP (p :: r) with
        | none => rfl
        | some x =>
          obtain ⟨b, r'⟩ := x
          have := clauseP_len _ _ _ hq
          simp at h1 h2 this
          rw [Option.bind_some, Option.bind_some]
          simp only []
          split
          · rfl
          · exact ih g _ _ (by omega) (by omega)
def PP (acc : List RC) (ps : List Pc) : Option (List RC) := progP ps.length acc ps
theorem PP_cons (acc : List RC) (p : Pc) (r : List Pc) : PP acc (p :: r) = (clauseP (p :: r)).bind fun x => if acc.length = 40 then none else PP (acc ++ [x.1]) x.2 := by
  unfold PP
  rw [List.length_cons, progP]
  cases hq : clauseP (p :: r) with
  | none => rfl
  | some x =>
    obtain ⟨b, r'⟩ := x
    have := clauseP_len _ _ _ hq
    simp at this
    rw [Option.bind_some, Option.bind_some]
    simp only []
    split
    · rfl
    · exact progP_fuel _ _ _ _ (by omega) (Nat.le_refl _)
theorem T_some (n : Nat) (l : List UInt8) (c : UInt8) (r : List UInt8) (h : skipL l = c :: r) (hb : blank (c.toNat : Int) = false) (qs : List Pc) (hq : T n l = some qs) : ∃ p q, qs = p :: q := by
  rw [← T_skip, h, T_cons] at hq
  cases hp : pc1 (n - (c :: r).length) c r with
  | none => rw [hp] at hq; simp at hq
  | some x =>
    obtain ⟨ps, k⟩ := x
    rw [hp] at hq
    simp only [] at hq
    rw [Option.map_eq_some_iff] at hq
    obtain ⟨q, _, rfl⟩ := hq
    have : ps ≠ [] := by
      unfold pc1 at hp
      rw [if_neg (by simp [hb])] at hp
      repeat' split at hp
      all_goals simp at hp
      all_goals (rw [← hp.1]; simp)
    cases ps with
    | nil => exact absurd rfl this
    | cons p ps => exact ⟨p, ps ++ q, rfl⟩
def progT (n : Nat) : Nat → List RC → List UInt8 → Option (List RC)
  | 0, acc, l => if (skipL l).isEmpty = true then some acc else none
  | f + 1, acc, l => if (skipL l).isEmpty = true then some acc else (clauseT n (skipL l)).bind fun x => progT n f (acc ++ [x.1]) x.2
theorem prog_sim (n f : Nat) (acc : List RC) (l : List UInt8) (h : acc.length + f = 40) : (T n l).bind (PP acc) = progT n f acc l := by
  induction f generalizing acc l with
  | zero =>
    rw [progT]
    rcases skipL_head l with hs | ⟨c, r, hs, hb⟩
    · rw [hs, ← T_skip, hs, T_nil]; rfl
    · rw [hs, if_neg (by simp)]
      cases hq : T n l with
      | none => rfl
      | some qs =>
        obtain ⟨p, q, rfl⟩ := T_some n l c r hs hb qs hq
        rw [Option.bind_some, PP_cons]
        simp only [show acc.length = 40 by omega, if_true]
        exact none_bind _
  | succ f ih =>
    rw [progT]
    rcases skipL_head l with hs | ⟨c, r, hs, hb⟩
    · rw [hs, ← T_skip, hs, T_nil]; rfl
    · rw [if_neg (by rw [hs]; simp)]
      have h1 : (T n l).bind (PP acc) = (T n l).bind (fun q => (clauseP q).bind (fun x => (fun (c : RC) (ps : List Pc) => PP (acc ++ [c]) ps) x.1 x.2)) := by
        cases hq : T n l with
        | none => rfl
        | some qs =>
          obtain ⟨p, q, rfl⟩ := T_some n l c r hs hb qs hq
          rw [Option.bind_some, Option.bind_some, PP_cons]
          simp only [show ¬ acc.length = 40 by omega, if_false]
      rw [h1, T_sk]
      refine (clause_sim n (skipL l) (fun c ps => PP (acc ++ [c]) ps)).trans ?_
      congr 1
      funext x
      exact ih _ _ (by simp; omega)
def RA.lit (a : RA) : LitD := ⟨a.name, a.ts.map RT.s, a.neg⟩
def RA.spot (a : RA) : SpotD := ⟨a.bang, a.pl, a.ts.map RT.pl⟩
def RC.d (c : RC) : ClD := ⟨c.head.name, c.head.ts.map RT.s, c.body.map RA.lit, ⟨0, c.head.pl, c.head.ts.map RT.pl⟩ :: c.body.map RA.spot⟩
theorem atomR_T (s : ByteArray) (neg : Bool) (bang : Nat) (l : List UInt8) :
    match atomT s.size neg bang l with
    | none => (atomR s l).ok = false
    | some (a, r) => atomR s l = ⟨true, a.name, a.ts.map RT.s, a.pl, a.ts.map RT.pl, r⟩ ∧ a.bang = bang ∧ a.neg = neg := by
  unfold atomT atomR
  simp only []
  cases h1 : small (hd (skipL l))
  · simp
  · cases h2 : tookB ((skipL l).drop (wlen smallDig 12 (skipL l))) 40
    · simp [posOf]
    · simp only [Bool.true_eq_false, if_false]
      have h := argsR_T s ((skipL l).take (wlen smallDig 12 (skipL l))) (posOf s (skipL l)) 2 [] (tookL ((skipL l).drop (wlen smallDig 12 (skipL l))) 40)
      cases hq : argsT s.size (2 + 1) [] (tookL ((skipL l).drop (wlen smallDig 12 (skipL l))) 40) with
      | none => rw [hq] at h; exact h
      | some x =>
        obtain ⟨ts, r⟩ := x
        rw [hq] at h
        exact ⟨h, rfl, rfl⟩
theorem litR_T (s : ByteArray) (l : List UInt8) :
    match litT s.size l with
    | none => (litAt s l).ok = false
    | some (a, r) => (litAt s l).ok = true ∧ (litAt s l).rest = r ∧ litD s l = a.lit ∧ spotD s l = a.spot := by
  unfold litT litD spotD litAt litNeg litMark
  cases h33 : tookB l 33
  · rw [if_neg (by simp), tookL_no _ _ h33]
    have h := atomR_T s false 0 (skipL l)
    have e : atomT s.size false 0 (skipL l) = atomT s.size false 0 l := by unfold atomT; rw [skipL_skip]
    rw [e] at h
    cases hq : atomT s.size false 0 l with
    | none => rw [hq] at h; exact h
    | some x =>
      obtain ⟨a, r⟩ := x
      rw [hq] at h
      obtain ⟨h1, h2, h3⟩ := h
      rw [h1]
      exact ⟨rfl, rfl, by rw [RA.lit, h3], by rw [RA.spot, h2]; rfl⟩
  · rw [if_pos rfl]
    have h := atomR_T s true (s.size - (skipL l).length) (tookL l 33)
    cases hq : atomT s.size true (s.size - (skipL l).length) (tookL l 33) with
    | none => rw [hq] at h; exact h
    | some x =>
      obtain ⟨a, r⟩ := x
      rw [hq] at h
      obtain ⟨h1, h2, h3⟩ := h
      rw [h1]
      refine ⟨rfl, rfl, by rw [RA.lit, h3], ?_⟩
      rw [RA.spot, h2, if_pos rfl]
      congr 1
      have ht : tookL l 33 = (skipL l).tail := by unfold tookL; rw [h33, if_pos rfl]
      have hne : 1 ≤ (skipL l).length := by
        unfold tookB at h33
        cases hs : skipL l with
        | nil => rw [hs] at h33; simp [hd] at h33
        | cons c r => simp
      rw [ht, posOf, List.length_tail]
      omega
theorem litsR_T (s : ByteArray) (f : Nat) (acc : List RA) (sp : List SpotD) (l : List UInt8) :
    match litsT s.size (f + 1) acc l with
    | none => (litsR s (f + 1) (acc.map RA.lit) (sp ++ acc.map RA.spot) l).ok = false
    | some (b, r) => litsR s (f + 1) (acc.map RA.lit) (sp ++ acc.map RA.spot) l = ⟨true, b.map RA.lit, sp ++ b.map RA.spot, r⟩ := by
  induction f generalizing acc l with
  | zero =>
    rw [litsT, litsR]
    have h := litR_T s l
    cases hq : litT s.size l with
    | none => rw [hq] at h; simp [h]
    | some x =>
      obtain ⟨a, r⟩ := x
      rw [hq] at h
      obtain ⟨h1, h2, h3, h4⟩ := h
      simp [h1, h2, h3, h4]
  | succ f ih =>
    rw [litsT, litsR]
    have h := litR_T s l
    cases hq : litT s.size l with
    | none => rw [hq] at h; simp [h]
    | some x =>
      obtain ⟨a, r⟩ := x
      rw [hq] at h
      obtain ⟨h1, h2, h3, h4⟩ := h
      cases h44 : tookB r 44
      · simp [h1, h2, h3, h4, h44]
      · have := ih (acc ++ [a]) (tookL r 44)
        simpa [h1, h2, h3, h4, h44] using this
theorem clauseR_T (s : ByteArray) (l : List UInt8) :
    match clauseT s.size l with
    | none => (clauseR s l).ok = false
    | some (c, r) => (clauseR s l).ok = true ∧ (clauseR s l).d = c.d ∧ (clauseR s l).rest = r := by
  unfold clauseT clauseR
  have h := atomR_T s false 0 l
  cases hq : atomT s.size false 0 l with
  | none => rw [hq] at h; simp [h]
  | some x =>
    obtain ⟨a, r⟩ := x
    rw [hq] at h
    obtain ⟨h1, h2, h3⟩ := h
    simp only [Option.bind_some, h1, headSpot, Bool.true_eq_false, if_false]
    cases h58 : tookB r 58
    · cases h46 : tookB (tookL r 58) 46
      · simp
      · simp [ClR.d, RC.d]
    · simp only [Bool.true_eq_false, if_false]
      cases h45 : (hd (tookL r 58) == 45)
      · simp [bodyR, h45]
      · have hl := litsR_T s 3 [] [⟨0, a.pl, a.ts.map RT.pl⟩] (tookL r 58).tail
        simp only [Bool.true_eq_false, if_false, bodyR, h45]
        cases hb : litsT s.size 4 [] (tookL r 58).tail with
        | none =>
          rw [hb] at hl
          simp only [List.map_nil, List.append_nil] at hl
          simp [hl]
        | some y =>
          obtain ⟨b, r2⟩ := y
          rw [hb] at hl
          simp only [List.map_nil, List.append_nil] at hl
          rw [hl]
          simp only [Option.bind_some]
          cases h46 : tookB r2 46
          · simp
          · simp [ClR.d, RC.d]
theorem progR_T (s : ByteArray) (f : Nat) (acc : List RC) (l : List UInt8) :
    match progT s.size f acc l with
    | none => (progR s f (acc.map RC.d) l).ok = false
    | some cs => (progR s f (acc.map RC.d) l).ok = true ∧ (progR s f (acc.map RC.d) l).cls = cs.map RC.d := by
  induction f generalizing acc l with
  | zero =>
    rw [progT, progR]
    cases he : (skipL l).isEmpty <;> simp
  | succ f ih =>
    rw [progT, progR]
    cases he : (skipL l).isEmpty
    · simp only [Bool.false_eq_true, if_false]
      have h := clauseR_T s (skipL l)
      cases hq : clauseT s.size (skipL l) with
      | none => rw [hq] at h; simp [h]
      | some x =>
        obtain ⟨c, r⟩ := x
        rw [hq] at h
        obtain ⟨h1, h2, h3⟩ := h
        simp only [Option.bind_some, h1, h2, h3, Bool.true_eq_false, if_false]
        have := ih (acc ++ [c]) r
        simpa using this
    · simp
/-- The document's parser and the reader. -/
theorem program_same (s : ByteArray) : match (T s.size s.data.toList).bind (PP []) with
    | none => (programR s).ok = false
    | some cs => (programR s).ok = true ∧ (programR s).cls = cs.map RC.d := by
  rw [prog_sim s.size 40 [] _ rfl]
  exact progR_T s 40 [] s.data.toList

end Go.Proofs.YtpbfiffgcgnidaaGreatDoor

namespace Go.Proofs.YtpbfiffgcgnidaaGreatDoor
/-- Where a text stands, byte by byte: between clauses; in a name; behind one; behind an atom; where a term is wanted; in a term; behind one; behind a colon; where a literal is wanted; behind its bang. x: in the head (none), or in the body's literal j. -/
structure St where
  tag : Nat
  k : Nat
  x : Option Nat
  t : Nat
  v : Bool
  w : Nat
abbrev St.top (k : Nat) : St := ⟨0, k, none, 0, false, 0⟩
abbrev St.name (k : Nat) (x : Option Nat) (w : Nat) : St := ⟨1, k, x, 0, false, w⟩
abbrev St.named (k : Nat) (x : Option Nat) : St := ⟨2, k, x, 0, false, 0⟩
abbrev St.atom (k : Nat) (x : Option Nat) : St := ⟨3, k, x, 0, false, 0⟩
abbrev St.opened (k : Nat) (x : Option Nat) (t : Nat) : St := ⟨4, k, x, t, false, 0⟩
abbrev St.term (k : Nat) (x : Option Nat) (t : Nat) (v : Bool) (w : Nat) : St := ⟨5, k, x, t, v, w⟩
abbrev St.termed (k : Nat) (x : Option Nat) (t : Nat) : St := ⟨6, k, x, t, false, 0⟩
abbrev St.colon (k : Nat) : St := ⟨7, k, none, 0, false, 0⟩
abbrev St.lit (k j : Nat) : St := ⟨8, k, none, j, false, 0⟩
abbrev St.bang (k j : Nat) : St := ⟨9, k, none, j, false, 0⟩
def dAtom (k : Nat) (x : Option Nat) (c : Int) : Option St :=
  if c == 46 then some (.top (k + 1))
  else match x with
    | none => if c == 58 then some (.colon k) else none
    | some j => if c == 44 && decide (j < 3) then some (.lit k (j + 1)) else none
def dNamed (k : Nat) (x : Option Nat) (c : Int) : Option St :=
  if blank c then some (.named k x) else if c == 40 then some (.opened k x 0) else dAtom k x c
def dTermed (k : Nat) (x : Option Nat) (t : Nat) (c : Int) : Option St :=
  if blank c then some (.termed k x t) else if c == 41 then some (.atom k x) else if c == 44 && decide (t < 2) then some (.opened k x (t + 1)) else none
def fitsV (v : Bool) (c : Int) : Bool := if v then letterDig c else smallDig c
def dl (st : St) (c : Int) : Option St :=
  match st.tag with
  | 0 => if blank c then some (.top st.k) else if small c && decide (st.k < 40) then some (.name st.k none 1) else none
  | 1 => if smallDig c && decide (st.w < 12) then some (.name st.k st.x (st.w + 1)) else dNamed st.k st.x c
  | 2 => dNamed st.k st.x c
  | 3 => if blank c then some (.atom st.k st.x) else dAtom st.k st.x c
  | 4 => if blank c then some (.opened st.k st.x st.t) else if small c then some (.term st.k st.x st.t false 1) else if great c then some (.term st.k st.x st.t true 1) else none
  | 5 => if fitsV st.v c && decide (st.w < 12) then some (.term st.k st.x st.t st.v (st.w + 1)) else dTermed st.k st.x st.t c
  | 6 => dTermed st.k st.x st.t c
  | 7 => if c == 45 then some (.lit st.k 0) else none
  | 8 => if blank c then some (.lit st.k st.t) else if c == 33 then some (.bang st.k st.t) else if small c then some (.name st.k (some st.t) 1) else none
  | 9 => if blank c then some (.bang st.k st.t) else if small c then some (.name st.k (some st.t) 1) else none
  | _ => none
def St.acc (st : St) : Bool := st.tag == 0
abbrev Out := List UInt8 ⊕ Bool
abbrev Out.dead (rest : List UInt8) : Out := .inl rest
abbrev Out.fin (acc : Bool) : Out := .inr acc
def D : St → List UInt8 → Out
  | st, [] => Out.fin st.acc
  | st, c :: l => match dl st (c.toNat : Int) with
    | none => Out.dead (c :: l)
    | some st' => D st' l
/-- No way on. -/
def F (l : List UInt8) : Out := match l with
  | [] => Out.fin false
  | c :: r => Out.dead (c :: r)
theorem D_no (st : St) (l : List UInt8) (h : dl st (hd l) = none) (hf : st.acc = false) : D st l = F l := by
  cases l with
  | nil => simp [D, F, hf]
  | cons c l =>
    have h' : dl st (c.toNat : Int) = none := h
    rw [D, h']; rfl
theorem D_yes (st st' : St) (l : List UInt8) (h : dl st (hd l) = some st') (hl : l ≠ []) : D st l = D st' l.tail := by
  cases l with
  | nil => exact absurd rfl hl
  | cons c l =>
    have h' : dl st (c.toNat : Int) = some st' := h
    rw [D, h']; rfl
theorem D_skip (st : St) (h : ∀ c, blank c = true → dl st c = some st) (l : List UInt8) : D st l = D st (skipL l) := by
  induction l with
  | nil => rfl
  | cons c l ih =>
    unfold skipL
    split
    · rename_i hb; rw [D, h _ hb]; exact ih
    · rfl
/-- Two places that go the same way on. -/
theorem D_same (st st' : St) (l : List UInt8) (h : dl st (hd l) = dl st' (hd l)) (hf : st.acc = st'.acc) : D st l = D st' l := by
  cases l with
  | nil => simp [D, hf]
  | cons c l =>
    have h' : dl st (c.toNat : Int) = dl st' (c.toNat : Int) := h
    rw [D, D, h']
theorem D_name (k : Nat) (x : Option Nat) (n w : Nat) (hn : n + w = 12) (l : List UInt8) : D (.name k x w) l = D (.named k x) (l.drop (wlen smallDig n l)) := by
  induction n generalizing w l with
  | zero =>
    have : wlen smallDig 0 l = 0 := by unfold wlen; rfl
    rw [this, List.drop_zero]
    apply D_same
    · simp only [dl, show ¬ w < 12 by omega, decide_false, Bool.and_false]; rfl
    · rfl
  | succ n ih =>
    cases l with
    | nil => rfl
    | cons c l =>
      unfold wlen
      cases hc : smallDig (c.toNat : Int)
      · simp only [Bool.false_eq_true, if_false, List.drop_zero]
        apply D_same
        · simp only [dl, hd, hc, Bool.false_and]; rfl
        · rfl
      · simp only [if_true, List.drop_succ_cons]
        rw [D]
        simp only [dl, hc, Bool.true_and, show w < 12 by omega, decide_true, if_true]
        exact ih (w + 1) (by omega) l
theorem D_term (k : Nat) (x : Option Nat) (t : Nat) (v : Bool) (n w : Nat) (hn : n + w = 12) (l : List UInt8) : D (.term k x t v w) l = D (.termed k x t) (l.drop (wlen (fitsV v) n l)) := by
  induction n generalizing w l with
  | zero =>
    have : wlen (fitsV v) 0 l = 0 := by unfold wlen; rfl
    rw [this, List.drop_zero]
    apply D_same
    · simp only [dl, show ¬ w < 12 by omega, decide_false, Bool.and_false]; rfl
    · rfl
  | succ n ih =>
    cases l with
    | nil => rfl
    | cons c l =>
      unfold wlen
      cases hc : fitsV v (c.toNat : Int)
      · simp only [Bool.false_eq_true, if_false, List.drop_zero]
        apply D_same
        · simp only [dl, hd, hc, Bool.false_and]; rfl
        · rfl
      · simp only [if_true, List.drop_succ_cons]
        rw [D]
        simp only [dl, hc, Bool.true_and, show w < 12 by omega, decide_true, if_true]
        exact ih (w + 1) (by omega) l
theorem took_cons (l : List UInt8) (m : Int) (hm : m ≠ 0) (h : tookB l m = true) : ∃ c r, skipL l = c :: r ∧ (c.toNat : Int) = m ∧ tookL l m = r := by
  unfold tookL
  rw [h, if_pos rfl]
  unfold tookB at h
  rw [beq_iff_eq] at h
  cases hs : skipL l with
  | nil => rw [hs] at h; exact absurd h.symm hm
  | cons c r => rw [hs] at h; exact ⟨c, r, rfl, h, rfl⟩
theorem took_no (l : List UInt8) (m : Int) (h : tookB l m = false) : (hd (skipL l) == m) = false := h
/-- The atom's end: behind a clause's last atom. -/
def dot (k : Nat) (l : List UInt8) : Out := if tookB l 46 = true then D (.top (k + 1)) (tookL l 46) else F (skipL l)
theorem dot_skip (k : Nat) (l : List UInt8) : dot k (skipL l) = dot k l := by unfold dot; rw [tookB_skip, tookL_skip, skipL_skip]
theorem D_dot (k : Nat) (x : Option Nat) (l : List UInt8) (h : match x with | none => tookB l 58 = false | some j => (3 ≤ j ∨ tookB l 44 = false)) : D (.atom k x) l = dot k l := by
  rw [D_skip _ (by intro c hc; simp [dl, hc])]
  unfold dot
  have hb := skip_blank l
  cases h46 : tookB l 46
  · rw [if_neg (by simp)]
    apply D_no
    · have h46' := took_no l 46 h46
      simp only [dl, hb, dAtom, h46', Bool.false_eq_true, if_false]
      cases x with
      | none => have h' := took_no l 58 h; simp only [h', Bool.false_eq_true, if_false]
      | some j =>
        rcases h with h | h
        · simp only [show ¬ j < 3 by omega, decide_false, Bool.and_false, Bool.false_eq_true, if_false]
        · have h' := took_no l 44 h; simp only [h', Bool.false_and, Bool.false_eq_true, if_false]
    · rfl
  · rw [if_pos rfl]
    obtain ⟨c, r, hs, hc, ht⟩ := took_cons l 46 (by decide) h46
    rw [hs, ht, D]
    have : dl (.atom k x) (c.toNat : Int) = some (.top (k + 1)) := by rw [hc]; rfl
    rw [this]
/- The terms. -/
theorem D_opened (k : Nat) (x : Option Nat) (t : Nat) (l : List UInt8) : D (.opened k x t) l = if termB l = false then F (skipL l) else D (.termed k x t) (termL l) := by
  rw [D_skip _ (by intro c hc; simp [dl, hc])]
  have hb := skip_blank l
  unfold termB termL termN
  generalize skipL l = m at *
  cases h1 : small (hd m)
  · cases h2 : great (hd m)
    · simp only [Bool.or_self, if_true]
      exact D_no _ _ (by simp [dl, hb, h1, h2]) rfl
    · simp only [Bool.false_or, Bool.true_eq_false, if_false, if_true, Bool.false_eq_true]
      cases m with
      | nil => simp [hd, great] at h2
      | cons c r =>
        have h1' : small (c.toNat : Int) = false := h1
        have h2' : great (c.toNat : Int) = true := h2
        have hb' : blank (c.toNat : Int) = false := hb
        have e : wlen letterDig 12 (c :: r) = wlen letterDig 11 r + 1 := by rw [wlen, if_pos (great_fits _ h2').1]
        rw [D]
        simp only [dl, hb', h1', h2', Bool.false_eq_true, if_false, if_true]
        rw [D_term k x t true 11 1 rfl, e, List.drop_succ_cons]
        rfl
  · simp only [Bool.true_or, Bool.true_eq_false, if_false, if_true]
    cases m with
    | nil => simp [hd, small] at h1
    | cons c r =>
      have h1' : small (c.toNat : Int) = true := h1
      have hb' : blank (c.toNat : Int) = false := hb
      have e : wlen smallDig 12 (c :: r) = wlen smallDig 11 r + 1 := by rw [wlen, if_pos (small_fits _ h1').1]
      rw [D]
      simp only [dl, hb', h1', Bool.false_eq_true, if_false, if_true]
      rw [D_term k x t false 11 1 rfl, e, List.drop_succ_cons]
      rfl
theorem D_termed (k : Nat) (x : Option Nat) (t : Nat) (l : List UInt8) : D (.termed k x t) l = if tookB l 41 = true then D (.atom k x) (tookL l 41) else if (tookB l 44 && decide (t < 2)) = true then D (.opened k x (t + 1)) (tookL l 44) else F (skipL l) := by
  rw [D_skip _ (by intro c hc; simp [dl, dTermed, hc])]
  have hb := skip_blank l
  cases h41 : tookB l 41
  · rw [if_neg (by simp)]
    have h41' := took_no l 41 h41
    cases h44 : tookB l 44
    · rw [Bool.false_and, if_neg (by simp)]
      have h44' := took_no l 44 h44
      exact D_no _ _ (by simp only [dl, dTermed, hb, h41', h44', Bool.false_and, Bool.false_eq_true, if_false]) rfl
    · obtain ⟨c, r, hs, hc, ht⟩ := took_cons l 44 (by decide) h44
      by_cases h2 : t < 2
      · rw [Bool.true_and, if_pos (by simpa using h2), hs, ht, D]
        have : dl (.termed k x t) (c.toNat : Int) = some (.opened k x (t + 1)) := by rw [hc]; simp [dl, dTermed, blank, h2]
        rw [this]
      · rw [Bool.true_and, if_neg (by simpa using h2)]
        exact D_no _ _ (by rw [hs]; show dl _ (c.toNat : Int) = none; rw [hc]; simp [dl, dTermed, blank, h2]) rfl
  · rw [if_pos rfl]
    obtain ⟨c, r, hs, hc, ht⟩ := took_cons l 41 (by decide) h41
    rw [hs, ht, D]
    have : dl (.termed k x t) (c.toNat : Int) = some (.atom k x) := by rw [hc]; rfl
    rw [this]
theorem D_args (s : ByteArray) (nm : List UInt8) (np : Nat) (k : Nat) (x : Option Nat) (f : Nat) (ts : List (List UInt8)) (ps : List Nat) (t : Nat) (ht : t + (f + 1) = 3) (l : List UInt8) :
    D (.opened k x t) l = if (argsR s nm np (f + 1) ts ps l).ok = true then D (.atom k x) (argsR s nm np (f + 1) ts ps l).rest else F (argsR s nm np (f + 1) ts ps l).rest := by
  induction f generalizing ts ps t l with
  | zero =>
    rw [D_opened, argsR]
    cases h1 : termB l
    · simp only [if_true, Bool.false_eq_true, if_false]
      have : termL l = skipL l := by
        unfold termL termN
        unfold termB at h1
        rw [Bool.or_eq_false_iff] at h1
        rw [h1.1, h1.2]
        simp
      rw [this]
    · simp only [Bool.true_eq_false, if_false, if_true]
      rw [D_termed]
      cases h41 : tookB (termL l) 41
      · have h2 : ¬ t < 2 := by omega
        simp only [Bool.false_eq_true, if_false, h2, decide_false, Bool.and_false, tookL_no _ _ h41]
      · simp
  | succ f ih =>
    rw [D_opened, argsR]
    cases h1 : termB l
    · simp only [if_true, Bool.false_eq_true, if_false]
      have : termL l = skipL l := by
        unfold termL termN
        unfold termB at h1
        rw [Bool.or_eq_false_iff] at h1
        rw [h1.1, h1.2]
        simp
      rw [this]
    · simp only [Bool.true_eq_false, if_false, show ¬ f + 1 = 0 by omega]
      rw [D_termed]
      have h2 : t < 2 := by omega
      cases h44 : tookB (termL l) 44
      · simp only [if_true, Bool.false_and, Bool.false_eq_true, if_false, tookL_no _ _ h44, tookB_skip, tookL_skip]
        cases h41 : tookB (termL l) 41
        · simp only [Bool.false_eq_true, if_false, tookL_no _ _ h41]
        · simp
      · have h41 : tookB (termL l) 41 = false := by
          unfold tookB at h44 ⊢
          rw [beq_iff_eq] at h44
          rw [h44]; rfl
        simp only [h41, Bool.false_eq_true, if_false, Bool.true_and, h2, decide_true, if_true, Bool.true_eq_false]
        exact ih _ _ (t + 1) (by omega) _
/-- An atom's own text, from where its name is wanted. -/
theorem D_named (k : Nat) (x : Option Nat) (l : List UInt8) : D (.named k x) l = if tookB l 40 = true then D (.opened k x 0) (tookL l 40) else D (.atom k x) (skipL l) := by
  rw [D_skip _ (by intro c hc; simp [dl, dNamed, hc])]
  have hb := skip_blank l
  cases h40 : tookB l 40
  · rw [if_neg (by simp)]
    have h40' := took_no l 40 h40
    apply D_same
    · simp only [dl, dNamed, hb, h40', Bool.false_eq_true, if_false]
    · rfl
  · rw [if_pos rfl]
    obtain ⟨c, r, hs, hc, ht⟩ := took_cons l 40 (by decide) h40
    rw [hs, ht, D]
    have : dl (.named k x) (c.toNat : Int) = some (.opened k x 0) := by rw [hc]; rfl
    rw [this]
theorem D_atom (s : ByteArray) (st : St) (k : Nat) (x : Option Nat) (l : List UInt8) (hsk : ∀ c, blank c = true → dl st c = some st) (hacc : st.acc = false ∨ skipL l ≠ []) (hyes : ∀ c, small c = true → dl st c = some (.name k x 1)) (hno : small (hd (skipL l)) = false → dl st (hd (skipL l)) = none) :
    D st l = if (atomR s l).ok = true then D (.atom k x) (atomR s l).rest else F (atomR s l).rest := by
  rw [D_skip st hsk]
  unfold atomR
  simp only []
  generalize skipL l = m at *
  cases h1 : small (hd m)
  · simp only [if_true, Bool.false_eq_true, if_false]
    cases m with
    | nil =>
      rcases hacc with h | h
      · exact D_no _ _ (hno h1) h
      · exact absurd rfl h
    | cons c r =>
      have h' : dl st (c.toNat : Int) = none := hno h1
      rw [D, h']; rfl
  · simp only [Bool.true_eq_false, if_false]
    cases m with
    | nil => simp [hd, small] at h1
    | cons c r =>
      have h1' : small (c.toNat : Int) = true := h1
      have e : wlen smallDig 12 (c :: r) = wlen smallDig 11 r + 1 := by rw [wlen, if_pos (small_fits _ h1').1]
      rw [D, hyes _ h1']
      simp only []
      rw [D_name k x 11 1 rfl, e, List.drop_succ_cons, D_named]
      generalize r.drop (wlen smallDig 11 r) = q
      cases h40 : tookB q 40
      · simp only [Bool.false_eq_true, if_false, if_true, tookL_no _ _ h40]
      · simp only [if_true, Bool.true_eq_false, if_false]
        exact D_args s _ _ k x 2 [] [] 0 rfl _
theorem D_lit (s : ByteArray) (k j : Nat) (l : List UInt8) : D (.lit k j) l = if (litAt s l).ok = true then D (.atom k (some j)) (litAt s l).rest else F (litAt s l).rest := by
  unfold litAt
  cases h33 : tookB l 33
  · rw [tookL_no _ _ h33, D_skip _ (by intro c hc; simp [dl, hc])]
    refine D_atom s (.lit k j) k (some j) (skipL l) (by intro c hc; simp [dl, hc]) (.inl rfl) ?_ ?_
    · intro c hc
      obtain ⟨_, f2, f3, _, _⟩ := small_fits c hc
      have : (c == 33) = false := by unfold signB at f3; simp only [Bool.or_eq_false_iff] at f3; exact f3.2
      simp [dl, f2, this, hc]
    · rw [skipL_skip]
      intro hs
      have h33' := took_no l 33 h33
      simp only [dl, skip_blank l, h33', hs, Bool.false_eq_true, if_false]
  · obtain ⟨c, r, hs, hc, ht⟩ := took_cons l 33 (by decide) h33
    rw [ht, D_skip _ (by intro c hc; simp [dl, hc]), hs, D]
    have : dl (.lit k j) (c.toNat : Int) = some (.bang k j) := by rw [hc]; rfl
    rw [this]
    refine D_atom s (.bang k j) k (some j) r (by intro c hc; simp [dl, hc]) (.inl rfl) ?_ ?_
    · intro c hc
      obtain ⟨_, f2, _, _, _⟩ := small_fits c hc
      simp [dl, f2, hc]
    · intro hs
      simp only [dl, skip_blank r, hs, Bool.false_eq_true, if_false]
theorem D_lits (s : ByteArray) (k f : Nat) (j : Nat) (hj : j + (f + 1) = 4) (ls : List LitD) (sp : List SpotD) (l : List UInt8) :
    D (.lit k j) l = if (litsR s (f + 1) ls sp l).ok = true then dot k (litsR s (f + 1) ls sp l).rest else F (litsR s (f + 1) ls sp l).rest := by
  induction f generalizing j ls sp l with
  | zero =>
    rw [D_lit s, litsR]
    cases h1 : (litAt s l).ok
    · simp
    · simp only [if_true, Bool.true_eq_false, if_false]
      exact D_dot k (some j) _ (.inl (by omega))
  | succ f ih =>
    rw [D_lit s, litsR]
    cases h1 : (litAt s l).ok
    · simp
    · simp only [if_true, Bool.true_eq_false, if_false, show ¬ f + 1 = 0 by omega]
      cases h44 : tookB (litAt s l).rest 44
      · simp only [if_true]
        rw [tookL_no _ _ h44, dot_skip]
        exact D_dot k (some j) _ (.inr h44)
      · simp only [Bool.true_eq_false, if_false]
        obtain ⟨c, r, hs, hc, ht⟩ := took_cons (litAt s l).rest 44 (by decide) h44
        rw [D_skip _ (by intro c hc; simp [dl, hc]), hs, D]
        have : dl (.atom k (some j)) (c.toNat : Int) = some (.lit k (j + 1)) := by rw [hc]; simp [dl, dAtom, blank, show j < 3 by omega]
        rw [this, ht]
        exact ih (j + 1) (by omega) _ _ r
theorem dot_eq (k : Nat) (l : List UInt8) : dot k l = if tookB l 46 = true then D (.top (k + 1)) (tookL l 46) else F (tookL l 46) := by
  unfold dot
  cases h : tookB l 46
  · simp [tookL_no _ _ h]
  · simp
theorem D_clause (s : ByteArray) (k : Nat) (hk : k < 40) (l : List UInt8) (hne : skipL l ≠ []) : D (.top k) l = if (clauseR s l).ok = true then D (.top (k + 1)) (clauseR s l).rest else F (clauseR s l).rest := by
  have ha := D_atom s (.top k) k none l (by intro c hc; simp [dl, hc]) (.inr hne) (by intro c hc; obtain ⟨_, f2, _⟩ := small_fits c hc; simp [dl, f2, hc, hk]) (by intro hs; simp [dl, skip_blank l, hs])
  rw [ha]
  unfold clauseR
  cases h1 : (atomR s l).ok
  · simp
  · simp only [if_true, Bool.true_eq_false, if_false]
    generalize (atomR s l).rest = r at *
    cases h58 : tookB r 58
    · simp only [if_true]
      rw [tookL_no _ _ h58, tookB_skip, tookL_skip, D_dot k none r h58, dot_eq]
    · simp only [Bool.true_eq_false, if_false]
      obtain ⟨c, q, hs, hc, ht⟩ := took_cons r 58 (by decide) h58
      rw [D_skip _ (by intro c hc; simp [dl, hc]), hs, D]
      have : dl (.atom k none) (c.toNat : Int) = some (.colon k) := by rw [hc]; rfl
      rw [this, ht]
      simp only []
      unfold bodyR
      cases h45 : (hd q == 45)
      · simp only [if_true, Bool.false_eq_true, if_false]
        exact D_no _ _ (by simp only [dl, h45, Bool.false_eq_true, if_false]) rfl
      · simp only [Bool.true_eq_false, if_false]
        cases q with
        | nil => simp [hd] at h45
        | cons d q =>
          have h45' : ((d.toNat : Int) == 45) = true := h45
          rw [D]
          simp only [dl, h45', if_true, List.tail_cons]
          have hD := D_lits s k 3 0 rfl [] [headSpot s l] q
          rw [show 3 + 1 = 4 from rfl] at hD
          rw [hD]
          by_cases hb : (litsR s 4 [] [headSpot s l] q).ok = true
          · simp only [hb, if_true, Bool.true_eq_false, if_false]
            rw [dot_eq]
          · rw [Bool.not_eq_true] at hb
            simp [hb]
theorem D_prog (s : ByteArray) (f k : Nat) (hk : k + f = 40) (ds : List ClD) (l : List UInt8) : D (.top k) l = if (progR s f ds l).ok = true then Out.fin true else F (progR s f ds l).rest := by
  induction f generalizing k ds l with
  | zero =>
    rw [progR]
    rcases skipL_head l with hs | ⟨c, r, hs, hb⟩
    · rw [D_skip _ (by intro c hc; simp [dl, hc]), hs]; rfl
    · rw [D_skip _ (by intro c hc; simp [dl, hc]), hs]
      have : dl (.top k) (c.toNat : Int) = none := by simp [dl, hb, show ¬ k < 40 by omega]
      rw [D, this]
      simp [F]
  | succ f ih =>
    rw [progR]
    rcases skipL_head l with hs | ⟨c, r, hs, hb⟩
    · rw [D_skip _ (by intro c hc; simp [dl, hc]), hs]; rfl
    · have he : (skipL l).isEmpty = false := by rw [hs]; rfl
      rw [D_skip _ (by intro c hc; simp [dl, hc]), D_clause s k (by omega) (skipL l) (by rw [skipL_skip, hs]; simp)]
      simp only [he, Bool.false_eq_true, if_false]
      cases h1 : (clauseR s (skipL l)).ok
      · simp
      · simp only [if_true, Bool.true_eq_false, if_false]
        exact ih (k + 1) (by omega) _ _
theorem D_program (s : ByteArray) : D (.top 0) s.data.toList = if (programR s).ok = true then Out.fin true else F (programR s).rest := D_prog s 40 0 rfl [] _

/- Where a text may go on. -/
def run : St → List UInt8 → Option St
  | st, [] => some st
  | st, c :: l => match dl st (c.toNat : Int) with
    | none => none
    | some st' => run st' l
theorem D_run (st : St) (u l : List UInt8) : D st (u ++ l) = match run st u with | some st' => D st' l | none => D st (u ++ l) := by
  induction u generalizing st with
  | nil => rfl
  | cons c u ih =>
    rw [List.cons_append, run]
    cases h : dl st (c.toNat : Int) with
    | none => rfl
    | some st' =>
      simp only []
      rw [D, h]
      simp only []
      have := ih st'
      cases hr : run st' u with
      | none => rfl
      | some q => rw [hr] at this; simp only [] at this ⊢; exact this
theorem run_none (st : St) (u l : List UInt8) (h : run st u = none) : ∃ r, D st (u ++ l) = Out.dead (r ++ l) ∧ r ≠ [] := by
  induction u generalizing st with
  | nil => simp [run] at h
  | cons c u ih =>
    rw [run] at h
    cases hd' : dl st (c.toNat : Int) with
    | none => exact ⟨c :: u, by rw [List.cons_append, D, hd'], by simp⟩
    | some st' =>
      rw [hd'] at h
      obtain ⟨r, h1, h2⟩ := ih st' h
      exact ⟨r, by rw [List.cons_append, D, hd']; exact h1, h2⟩
theorem dl_tag (st st' : St) (c : Int) (h : dl st c = some st') : st'.tag < 10 := by
  unfold dl dNamed dTermed dAtom at h
  repeat' split at h
  all_goals first
    | (simp at h; done)
    | (simp at h; subst h; simp)
theorem run_tag (st st' : St) (u : List UInt8) (hs : st.tag < 10) (h : run st u = some st') : st'.tag < 10 := by
  induction u generalizing st with
  | nil => simp [run] at h; rw [← h]; exact hs
  | cons c u ih =>
    rw [run] at h
    cases hd' : dl st (c.toNat : Int) with
    | none => rw [hd'] at h; simp at h
    | some q => rw [hd'] at h; exact ih q (dl_tag _ _ _ hd') h
def endsP : List (List UInt8) := [[], [46], [97, 46], [97, 41, 46], [41, 46], [45, 97, 46], [97], [97, 41], [41]]
theorem may_end (st : St) (h : st.tag < 10) : ∃ e ∈ endsP, D st e = Out.fin true := by
  obtain ⟨tag, k, x, t, v, w⟩ := st
  simp only [] at h
  have hc : tag = 0 ∨ tag = 1 ∨ tag = 2 ∨ tag = 3 ∨ tag = 4 ∨ tag = 5 ∨ tag = 6 ∨ tag = 7 ∨ tag = 8 ∨ tag = 9 := by omega
  rcases hc with rfl | rfl | rfl | rfl | rfl | rfl | rfl | rfl | rfl | rfl
  · exact ⟨[], by simp [endsP], rfl⟩
  · exact ⟨[46], by simp [endsP], rfl⟩
  · exact ⟨[46], by simp [endsP], rfl⟩
  · exact ⟨[46], by simp [endsP], rfl⟩
  · exact ⟨[97, 41, 46], by simp [endsP], rfl⟩
  · refine ⟨[41, 46], by simp [endsP], ?_⟩
    cases v <;> rfl
  · exact ⟨[41, 46], by simp [endsP], rfl⟩
  · exact ⟨[45, 97, 46], by simp [endsP], rfl⟩
  · exact ⟨[97, 46], by simp [endsP], rfl⟩
  · exact ⟨[97, 46], by simp [endsP], rfl⟩

end Go.Proofs.YtpbfiffgcgnidaaGreatDoor

namespace Go.Proofs.YtpbfiffgcgnidaaGreatDoor
theorem bs_dat (l : List UInt8) : (bs l).data.toList = l := by simp [bs]
/-- Has a text the form of a program? -/
def formB (l : List UInt8) : Bool := (programR (bs l)).ok
theorem formB_D (l : List UInt8) : formB l = true ↔ D (.top 0) l = Out.fin true := by
  have h := D_program (bs l)
  rw [bs_dat] at h
  unfold formB
  rw [h]
  cases hok : (programR (bs l)).ok
  · simp only [Bool.false_eq_true, if_false, false_iff]
    unfold F
    split <;> simp [Out.fin, Out.dead]
  · simp
/-- May the text begin a program? -/
def mayB (l : List UInt8) : Bool := endsP.any fun e => formB (l ++ e)
theorem mayB_run (l : List UInt8) : mayB l = (run (.top 0) l).isSome := by
  unfold mayB
  cases hr : run (.top 0) l with
  | some st =>
    obtain ⟨e, he, hD⟩ := may_end st (run_tag _ _ _ (by decide) hr)
    have : formB (l ++ e) = true := by
      rw [formB_D, D_run, hr]
      exact hD
    simp only [Option.isSome_some, List.any_eq_true]
    exact ⟨e, he, this⟩
  | none =>
    simp only [Option.isSome_none, List.any_eq_false]
    intro e _ hf
    rw [formB_D] at hf
    obtain ⟨r, h1, _⟩ := run_none _ _ e hr
    rw [h1] at hf
    simp [Out.fin, Out.dead] at hf
/-- The first byte with which no program begins, from place i on. -/
def wrongGo (s : List UInt8) : Nat → Nat → Nat
  | 0, i => i
  | f + 1, i => if mayB (s.take (i + 1)) = true then wrongGo s f (i + 1) else i
def wrongR (s : List UInt8) : Nat := wrongGo s s.length 0
theorem run_app (st : St) (u l : List UInt8) : run st (u ++ l) = (run st u).bind fun st' => run st' l := by
  induction u generalizing st with
  | nil => rfl
  | cons c u ih =>
    rw [List.cons_append, run, run]
    cases dl st (c.toNat : Int) with
    | none => rfl
    | some st' => exact ih st'
theorem wrong_dead (s : List UInt8) (rest : List UInt8) (u : List UInt8) (hs : s = u ++ rest) (h1 : (run (.top 0) u).isSome = true) (h2 : ∀ c r, rest = c :: r → run (.top 0) (u ++ [c]) = none) : wrongR s = u.length := by
  have key : ∀ f i, f + i = s.length → i ≤ u.length → wrongGo s f i = u.length := by
    intro f
    induction f with
    | zero =>
      intro i hf hi
      have : s.length = u.length + rest.length := by rw [hs]; simp
      simp only [wrongGo]; omega
    | succ f ih =>
      intro i hf hi
      rw [wrongGo]
      by_cases hlt : i < u.length
      · have : mayB (s.take (i + 1)) = true := by
          rw [mayB_run, hs, List.take_append_of_le_length (by omega)]
          have hsplit : u = u.take (i + 1) ++ u.drop (i + 1) := (List.take_append_drop _ _).symm
          rw [hsplit, run_app] at h1
          cases hq : run (.top 0) (u.take (i + 1)) with
          | none => rw [hq] at h1; simp at h1
          | some st => rfl
        rw [if_pos this]
        exact ih (i + 1) (by omega) (by omega)
      · have hie : i = u.length := by omega
        subst hie
        cases hr : rest with
        | nil => rw [hs, hr] at hf; simp at hf
        | cons c r =>
          have hn := h2 c r hr
          have : mayB (s.take (u.length + 1)) = false := by
            rw [mayB_run, hs, hr]
            have : (u ++ c :: r).take (u.length + 1) = u ++ [c] := by
              rw [List.take_append, List.take_of_length_le (by omega)]
              simp
            rw [this, hn]; rfl
          rw [this, if_neg (by simp)]
  exact key s.length 0 (by omega) (by omega)
/-- Where a text dies, or that it comes to its end. -/
theorem D_dead (st : St) (l rest : List UInt8) (h : D st l = Out.dead rest) : ∃ u c r, rest = c :: r ∧ l = u ++ rest ∧ ∃ st', run st u = some st' ∧ dl st' (c.toNat : Int) = none := by
  induction l generalizing st with
  | nil => simp [D, Out.fin, Out.dead] at h
  | cons c l ih =>
    rw [D] at h
    cases hd' : dl st (c.toNat : Int) with
    | none =>
      rw [hd'] at h
      simp only [Out.dead, Sum.inl.injEq] at h
      exact ⟨[], c, l, h.symm, by rw [h]; rfl, st, rfl, hd'⟩
    | some st' =>
      rw [hd'] at h
      obtain ⟨u, c', r, h1, h2, st2, h3, h4⟩ := ih st' h
      exact ⟨c :: u, c', r, h1, by rw [h2]; rfl, st2, by rw [run, hd']; exact h3, h4⟩
theorem D_fin (st : St) (l : List UInt8) (b : Bool) (h : D st l = Out.fin b) : (run st l).isSome = true := by
  induction l generalizing st with
  | nil => rfl
  | cons c l ih =>
    rw [D] at h
    rw [run]
    cases hd' : dl st (c.toNat : Int) with
    | none => rw [hd'] at h; simp [Out.fin, Out.dead] at h
    | some st' => rw [hd'] at h; exact ih st' h
/-- Where no program begins: the reader's place. -/
theorem wrong_place (s : ByteArray) (h : (programR s).ok = false) : wrongR s.data.toList = posOf s (programR s).rest := by
  have hD := D_program s
  rw [h, if_neg (by simp)] at hD
  have hsz : s.size = s.data.toList.length := by simp
  unfold posOf
  rw [hsz]
  generalize s.data.toList = l at *
  generalize (programR s).rest = rest at *
  cases rest with
  | nil =>
    have := wrong_dead l [] l (by simp) (D_fin _ _ false hD) (by intro c r e; simp at e)
    simpa using this
  | cons c r =>
    obtain ⟨u, c', r', h1, h2, st', h3, h4⟩ := D_dead _ _ _ hD
    injection h1 with h1 h1'
    subst h1 h1'
    have := wrong_dead l (c :: r) u h2 (by rw [h3]; rfl) (by
      intro c2 r2 e
      injection e with e e'
      subst e e'
      rw [run_app, h3]
      simp only [Option.bind_some, run, h4])
    rw [this, h2]
    simp

end Go.Proofs.YtpbfiffgcgnidaaGreatDoor
