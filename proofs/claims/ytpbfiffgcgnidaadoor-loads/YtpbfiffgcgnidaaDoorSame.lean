/-
  OUR OWN. The reader and the document's own way: clauses, programs. No code here.
-/
import Derived.Test.YtpbfiffgcgnidaaDoorSim
namespace Go.Proofs.YtpbfiffgcgnidaaDoor
def clauseQ (ps : List Pc) : Option (RC × List Pc) :=
  (atomP ps).bind fun x => if x.1.neg = true then none else (BP [] x.2).bind (dotP fun b r => some (⟨x.1, b⟩, r))
theorem clauseP_Q (ps : List Pc) : clauseP ps = clauseQ ps := by
  unfold clauseP clauseQ BP
  congr 1
theorem bind_dot {A B : Type} (C : List RA → List Pc → Option A) (F : A → Option B) (x : List RA × List Pc) : (dotP C x).bind F = dotP (fun b r => (C b r).bind F) x := by
  unfold dotP
  split
  · rfl
  · split <;> rfl
def clauseT (n : Nat) (l : List UInt8) : Option (RC × List UInt8) :=
  (atomT n false 0 l).bind fun x =>
    if tookB x.2 58 = false then (if tookB (tookL x.2 58) 46 = true then some (⟨x.1, []⟩, tookL (tookL x.2 58) 46) else none)
    else if (hd (tookL x.2 58) == 45) = false then none
    else (litsT n 4 [] (tookL x.2 58).tail).bind fun y => if tookB y.2 46 = true then some (⟨x.1, y.1⟩, tookL y.2 46) else none
theorem atomT_neg (n : Nat) (neg : Bool) (bang : Nat) (l : List UInt8) (a : RA) (r : List UInt8) (h : atomT n neg bang l = some (a, r)) : a.neg = neg := by
  unfold atomT at h
  split at h
  · simp at h
  · split at h
    · simp at h; rw [← h.1]
    · rw [Option.map_eq_some_iff] at h
      obtain ⟨x, _, hx⟩ := h
      simp at hx
      rw [← hx.1]
theorem clause_sim {A : Type} (n : Nat) (l : List UInt8) (K : RC → List Pc → Option A) :
    (T n l).bind (fun q => (clauseP q).bind (fun x => K x.1 x.2)) = (clauseT n l).bind (fun x => (T n x.2).bind (K x.1)) := by
  have e : (fun q => (clauseP q).bind (fun x => K x.1 x.2)) = (fun q => (atomP q).bind fun x => (fun (a : RA) (ps : List Pc) => if a.neg = true then none else (BP [] ps).bind (dotP fun b r => K ⟨a, b⟩ r)) x.1 x.2) := by
    funext q
    rw [clauseP_Q, clauseQ, Option.bind_assoc]
    congr 1
    funext x
    simp only []
    split
    · rfl
    · rw [Option.bind_assoc]
      congr 1
      funext y
      rw [bind_dot]
      rfl
  refine (congrArg (Option.bind (T n l)) e).trans ((lit_sim n l (fun (a : RA) (ps : List Pc) => if a.neg = true then none else (BP [] ps).bind (dotP fun b r => K ⟨a, b⟩ r)) (by
    intro a p r h
    split
    · rfl
    · exact BP_word _ _ p r h)).trans ?_)
  unfold litT clauseT
  cases h33 : tookB l 33
  · rw [if_neg (by simp)]
    cases ha : atomT n false 0 l with
    | none => rfl
    | some x =>
      obtain ⟨a, r⟩ := x
      have hneg := atomT_neg n false 0 l a r ha
      rw [Option.bind_some, Option.bind_some]
      simp only [hneg, Bool.false_eq_true, if_false]
      rw [show (fun ps => (BP [] ps).bind (dotP fun b r => K ⟨a, b⟩ r)) = _ from funext (BP_front0 _), T_colon_front]
      cases h58 : tookB r 58
      · rw [if_neg (by simp), if_pos rfl, dot_sim n r _ [] (by simp), tookL_no _ _ h58, tookB_skip, tookL_skip]
        split <;> rfl
      · cases h45 : (hd (tookL r 58) == 45)
        · rfl
        · simp only [if_true, Bool.true_eq_false, if_false]
          have hl := lits_sim n (fun b r => K ⟨a, b⟩ r) 3 [] (tookL r 58).tail rfl
          simp only [List.nil_append] at hl
          rw [hl, Option.bind_assoc]
          congr 1
          funext y
          unfold dotT
          split <;> rfl
  · rw [if_pos rfl]
    have h0 : atomT n false 0 l = none := by
      unfold atomT
      unfold tookB at h33
      rw [beq_iff_eq] at h33
      rw [h33, if_pos (by decide)]
    rw [h0]
    cases ha : atomT n true (n - (skipL l).length) (tookL l 33) with
    | none => rfl
    | some x =>
      obtain ⟨a, r⟩ := x
      have hneg := atomT_neg n true _ _ a r ha
      rw [Option.bind_some]
      simp only [hneg, if_true, none_bind]
      rfl
/- The program. -/
theorem clauseP_len (ps : List Pc) (c : RC) (r : List Pc) (h : clauseP ps = some (c, r)) : r.length < ps.length := by
  unfold clauseP at h
  rw [Option.bind_eq_some_iff] at h
  obtain ⟨⟨a, r1⟩, h1, h2⟩ := h
  have l1 := atomP_len _ _ _ h1
  simp only [] at h2
  split at h2
  · simp at h2
  · rw [Option.bind_eq_some_iff] at h2
    obtain ⟨⟨b, r2⟩, h3, h4⟩ := h2
    have l2 : r2.length ≤ r1.length := by
      have key : ∀ (f : Nat) (acc : List RA) (ps : List Pc), bodyP f acc ps = some (b, r2) → r2.length ≤ ps.length := by
        intro f
        induction f with
        | zero => intro acc ps h; simp [bodyP] at h; rw [h.2]; exact Nat.le_refl _
        | succ f ih =>
          intro acc ps h
          cases ps with
          | nil => simp [bodyP] at h; rw [h.2]; exact Nat.le_refl _
          | cons p ps =>
            rw [bodyP] at h
            split at h
            · rw [Option.bind_eq_some_iff] at h
              obtain ⟨⟨a', r3⟩, h5, h6⟩ := h
              have l3 := atomP_len _ _ _ h5
              have := ih _ _ h6
              simp only [] at this
              simp; omega
            · simp at h; rw [← h.2]; exact Nat.le_refl _
      exact key _ _ _ h3
    cases r2 with
    | nil => simp at h4
    | cons p r3 =>
      simp only [] at h4
      split at h4
      · simp at h4; rw [← h4.2]; simp at l2; omega
      · simp at h4
theorem progP_fuel (f : Nat) : ∀ (g : Nat) (acc : List RC) (ps : List Pc), ps.length ≤ f → ps.length ≤ g → progP f acc ps = progP g acc ps := by
  induction f with
  | zero =>
    intro g acc ps h1 h2
    cases ps with
    | nil => cases g <;> rfl
    | cons p r => simp at h1
  | succ f ih =>
    intro g acc ps h1 h2
    cases ps with
    | nil => cases g <;> rfl
    | cons p r =>
      cases g with
      | zero => simp at h2
      | succ g =>
        unfold progP
        cases hq : clauseP (p :: r) with
        | none => rfl
        | some x =>
          obtain ⟨b, r'⟩ := x
          have := clauseP_len _ _ _ hq
          simp at h1 h2 this
          rw [Option.bind_some, Option.bind_some]
          simp only []
          split
          · rfl
          · exact ih g _ _ (by omega) (by omega)
def PP (acc : List RC) (ps : List Pc) : Option (List RC) := progP ps.length acc ps
theorem PP_cons (acc : List RC) (p : Pc) (r : List Pc) : PP acc (p :: r) = (clauseP (p :: r)).bind fun x => if acc.length = 40 then none else PP (acc ++ [x.1]) x.2 := by
  unfold PP
  rw [List.length_cons, progP]
  cases hq : clauseP (p :: r) with
  | none => rfl
  | some x =>
    obtain ⟨b, r'⟩ := x
    have := clauseP_len _ _ _ hq
    simp at this
    rw [Option.bind_some, Option.bind_some]
    simp only []
    split
    · rfl
    · exact progP_fuel _ _ _ _ (by omega) (Nat.le_refl _)
theorem T_some (n : Nat) (l : List UInt8) (c : UInt8) (r : List UInt8) (h : skipL l = c :: r) (hb : blank (c.toNat : Int) = false) (qs : List Pc) (hq : T n l = some qs) : ∃ p q, qs = p :: q := by
  rw [← T_skip, h, T_cons] at hq
  cases hp : pc1 (n - (c :: r).length) c r with
  | none => rw [hp] at hq; simp at hq
  | some x =>
    obtain ⟨ps, k⟩ := x
    rw [hp] at hq
    simp only [] at hq
    rw [Option.map_eq_some_iff] at hq
    obtain ⟨q, _, rfl⟩ := hq
    have : ps ≠ [] := by
      unfold pc1 at hp
      rw [if_neg (by simp [hb])] at hp
      repeat' split at hp
      all_goals simp at hp
      all_goals (rw [← hp.1]; simp)
    cases ps with
    | nil => exact absurd rfl this
    | cons p ps => exact ⟨p, ps ++ q, rfl⟩
def progT (n : Nat) : Nat → List RC → List UInt8 → Option (List RC)
  | 0, acc, l => if (skipL l).isEmpty = true then some acc else none
  | f + 1, acc, l => if (skipL l).isEmpty = true then some acc else (clauseT n (skipL l)).bind fun x => progT n f (acc ++ [x.1]) x.2
theorem prog_sim (n f : Nat) (acc : List RC) (l : List UInt8) (h : acc.length + f = 40) : (T n l).bind (PP acc) = progT n f acc l := by
  induction f generalizing acc l with
  | zero =>
    rw [progT]
    rcases skipL_head l with hs | ⟨c, r, hs, hb⟩
    · rw [hs, ← T_skip, hs, T_nil]; rfl
    · rw [hs, if_neg (by simp)]
      cases hq : T n l with
      | none => rfl
      | some qs =>
        obtain ⟨p, q, rfl⟩ := T_some n l c r hs hb qs hq
        rw [Option.bind_some, PP_cons]
        simp only [show acc.length = 40 by omega, if_true]
        exact none_bind _
  | succ f ih =>
    rw [progT]
    rcases skipL_head l with hs | ⟨c, r, hs, hb⟩
    · rw [hs, ← T_skip, hs, T_nil]; rfl
    · rw [if_neg (by rw [hs]; simp)]
      have h1 : (T n l).bind (PP acc) = (T n l).bind (fun q => (clauseP q).bind (fun x => (fun (c : RC) (ps : List Pc) => PP (acc ++ [c]) ps) x.1 x.2)) := by
        cases hq : T n l with
        | none => rfl
        | some qs =>
          obtain ⟨p, q, rfl⟩ := T_some n l c r hs hb qs hq
          rw [Option.bind_some, Option.bind_some, PP_cons]
          simp only [show ¬ acc.length = 40 by omega, if_false]
      rw [h1, T_sk]
      refine (clause_sim n (skipL l) (fun c ps => PP (acc ++ [c]) ps)).trans ?_
      congr 1
      funext x
      exact ih _ _ (by simp; omega)
def RA.lit (a : RA) : LitD := ⟨a.name, a.ts.map RT.s, a.neg⟩
def RA.spot (a : RA) : SpotD := ⟨a.bang, a.pl, a.ts.map RT.pl⟩
def RC.d (c : RC) : ClD := ⟨c.head.name, c.head.ts.map RT.s, c.body.map RA.lit, ⟨0, c.head.pl, c.head.ts.map RT.pl⟩ :: c.body.map RA.spot⟩
theorem atomR_T (s : ByteArray) (neg : Bool) (bang : Nat) (l : List UInt8) :
    match atomT s.size neg bang l with
    | none => (atomR s l).ok = false
    | some (a, r) => atomR s l = ⟨true, a.name, a.ts.map RT.s, a.pl, a.ts.map RT.pl, r⟩ ∧ a.bang = bang ∧ a.neg = neg := by
  unfold atomT atomR
  simp only []
  cases h1 : small (hd (skipL l))
  · simp
  · cases h2 : tookB ((skipL l).drop (wlen smallDig 12 (skipL l))) 40
    · simp [posOf]
    · simp only [Bool.true_eq_false, if_false]
      have h := argsR_T s ((skipL l).take (wlen smallDig 12 (skipL l))) (posOf s (skipL l)) 2 [] (tookL ((skipL l).drop (wlen smallDig 12 (skipL l))) 40)
      cases hq : argsT s.size (2 + 1) [] (tookL ((skipL l).drop (wlen smallDig 12 (skipL l))) 40) with
      | none => rw [hq] at h; exact h
      | some x =>
        obtain ⟨ts, r⟩ := x
        rw [hq] at h
        exact ⟨h, rfl, rfl⟩
theorem litR_T (s : ByteArray) (l : List UInt8) :
    match litT s.size l with
    | none => (litAt s l).ok = false
    | some (a, r) => (litAt s l).ok = true ∧ (litAt s l).rest = r ∧ litD s l = a.lit ∧ spotD s l = a.spot := by
  unfold litT litD spotD litAt litNeg litMark
  cases h33 : tookB l 33
  · rw [if_neg (by simp), tookL_no _ _ h33]
    have h := atomR_T s false 0 (skipL l)
    have e : atomT s.size false 0 (skipL l) = atomT s.size false 0 l := by unfold atomT; rw [skipL_skip]
    rw [e] at h
    cases hq : atomT s.size false 0 l with
    | none => rw [hq] at h; exact h
    | some x =>
      obtain ⟨a, r⟩ := x
      rw [hq] at h
      obtain ⟨h1, h2, h3⟩ := h
      rw [h1]
      exact ⟨rfl, rfl, by rw [RA.lit, h3], by rw [RA.spot, h2]; rfl⟩
  · rw [if_pos rfl]
    have h := atomR_T s true (s.size - (skipL l).length) (tookL l 33)
    cases hq : atomT s.size true (s.size - (skipL l).length) (tookL l 33) with
    | none => rw [hq] at h; exact h
    | some x =>
      obtain ⟨a, r⟩ := x
      rw [hq] at h
      obtain ⟨h1, h2, h3⟩ := h
      rw [h1]
      refine ⟨rfl, rfl, by rw [RA.lit, h3], ?_⟩
      rw [RA.spot, h2, if_pos rfl]
      congr 1
      have ht : tookL l 33 = (skipL l).tail := by unfold tookL; rw [h33, if_pos rfl]
      have hne : 1 ≤ (skipL l).length := by
        unfold tookB at h33
        cases hs : skipL l with
        | nil => rw [hs] at h33; simp [hd] at h33
        | cons c r => simp
      rw [ht, posOf, List.length_tail]
      omega
theorem litsR_T (s : ByteArray) (f : Nat) (acc : List RA) (sp : List SpotD) (l : List UInt8) :
    match litsT s.size (f + 1) acc l with
    | none => (litsR s (f + 1) (acc.map RA.lit) (sp ++ acc.map RA.spot) l).ok = false
    | some (b, r) => litsR s (f + 1) (acc.map RA.lit) (sp ++ acc.map RA.spot) l = ⟨true, b.map RA.lit, sp ++ b.map RA.spot, r⟩ := by
  induction f generalizing acc l with
  | zero =>
    rw [litsT, litsR]
    have h := litR_T s l
    cases hq : litT s.size l with
    | none => rw [hq] at h; simp [h]
    | some x =>
      obtain ⟨a, r⟩ := x
      rw [hq] at h
      obtain ⟨h1, h2, h3, h4⟩ := h
      simp [h1, h2, h3, h4]
  | succ f ih =>
    rw [litsT, litsR]
    have h := litR_T s l
    cases hq : litT s.size l with
    | none => rw [hq] at h; simp [h]
    | some x =>
      obtain ⟨a, r⟩ := x
      rw [hq] at h
      obtain ⟨h1, h2, h3, h4⟩ := h
      cases h44 : tookB r 44
      · simp [h1, h2, h3, h4, h44]
      · have := ih (acc ++ [a]) (tookL r 44)
        simpa [h1, h2, h3, h4, h44] using this
theorem clauseR_T (s : ByteArray) (l : List UInt8) :
    match clauseT s.size l with
    | none => (clauseR s l).ok = false
    | some (c, r) => (clauseR s l).ok = true ∧ (clauseR s l).d = c.d ∧ (clauseR s l).rest = r := by
  unfold clauseT clauseR
  have h := atomR_T s false 0 l
  cases hq : atomT s.size false 0 l with
  | none => rw [hq] at h; simp [h]
  | some x =>
    obtain ⟨a, r⟩ := x
    rw [hq] at h
    obtain ⟨h1, h2, h3⟩ := h
    simp only [Option.bind_some, h1, headSpot, Bool.true_eq_false, if_false]
    cases h58 : tookB r 58
    · cases h46 : tookB (tookL r 58) 46
      · simp
      · simp [ClR.d, RC.d]
    · simp only [Bool.true_eq_false, if_false]
      cases h45 : (hd (tookL r 58) == 45)
      · simp [bodyR, h45]
      · have hl := litsR_T s 3 [] [⟨0, a.pl, a.ts.map RT.pl⟩] (tookL r 58).tail
        simp only [Bool.true_eq_false, if_false, bodyR, h45]
        cases hb : litsT s.size 4 [] (tookL r 58).tail with
        | none =>
          rw [hb] at hl
          simp only [List.map_nil, List.append_nil] at hl
          simp [hl]
        | some y =>
          obtain ⟨b, r2⟩ := y
          rw [hb] at hl
          simp only [List.map_nil, List.append_nil] at hl
          rw [hl]
          simp only [Option.bind_some]
          cases h46 : tookB r2 46
          · simp
          · simp [ClR.d, RC.d]
theorem progR_T (s : ByteArray) (f : Nat) (acc : List RC) (l : List UInt8) :
    match progT s.size f acc l with
    | none => (progR s f (acc.map RC.d) l).ok = false
    | some cs => (progR s f (acc.map RC.d) l).ok = true ∧ (progR s f (acc.map RC.d) l).cls = cs.map RC.d := by
  induction f generalizing acc l with
  | zero =>
    rw [progT, progR]
    cases he : (skipL l).isEmpty <;> simp
  | succ f ih =>
    rw [progT, progR]
    cases he : (skipL l).isEmpty
    · simp only [Bool.false_eq_true, if_false]
      have h := clauseR_T s (skipL l)
      cases hq : clauseT s.size (skipL l) with
      | none => rw [hq] at h; simp [h]
      | some x =>
        obtain ⟨c, r⟩ := x
        rw [hq] at h
        obtain ⟨h1, h2, h3⟩ := h
        simp only [Option.bind_some, h1, h2, h3, Bool.true_eq_false, if_false]
        have := ih (acc ++ [c]) r
        simpa using this
    · simp
/-- The document's parser and the reader. -/
theorem program_same (s : ByteArray) : match (T s.size s.data.toList).bind (PP []) with
    | none => (programR s).ok = false
    | some cs => (programR s).ok = true ∧ (programR s).cls = cs.map RC.d := by
  rw [prog_sim s.size 40 [] _ rfl]
  exact progR_T s 40 [] s.data.toList

end Go.Proofs.YtpbfiffgcgnidaaDoor
