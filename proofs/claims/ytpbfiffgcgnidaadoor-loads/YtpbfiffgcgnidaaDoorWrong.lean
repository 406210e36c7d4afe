/-
  OUR OWN. The first byte with which no program begins. No code here.
-/
import Derived.Test.YtpbfiffgcgnidaaDoorAuto
namespace Go.Proofs.YtpbfiffgcgnidaaDoor
theorem bs_dat (l : List UInt8) : (bs l).data.toList = l := by simp [bs]
/-- Has a text the form of a program? -/
def formB (l : List UInt8) : Bool := (programR (bs l)).ok
theorem formB_D (l : List UInt8) : formB l = true ↔ D (.top 0) l = Out.fin true := by
  have h := D_program (bs l)
  rw [bs_dat] at h
  unfold formB
  rw [h]
  cases hok : (programR (bs l)).ok
  · simp only [Bool.false_eq_true, if_false, false_iff]
    unfold F
    split <;> simp [Out.fin, Out.dead]
  · simp
/-- May the text begin a program? -/
def mayB (l : List UInt8) : Bool := endsP.any fun e => formB (l ++ e)
theorem mayB_run (l : List UInt8) : mayB l = (run (.top 0) l).isSome := by
  unfold mayB
  cases hr : run (.top 0) l with
  | some st =>
    obtain ⟨e, he, hD⟩ := may_end st (run_tag _ _ _ (by decide) hr)
    have : formB (l ++ e) = true := by
      rw [formB_D, D_run, hr]
      exact hD
    simp only [Option.isSome_some, List.any_eq_true]
    exact ⟨e, he, this⟩
  | none =>
    simp only [Option.isSome_none, List.any_eq_false]
    intro e _ hf
    rw [formB_D] at hf
    obtain ⟨r, h1, _⟩ := run_none _ _ e hr
    rw [h1] at hf
    simp [Out.fin, Out.dead] at hf
/-- The first byte with which no program begins, from place i on. -/
def wrongGo (s : List UInt8) : Nat → Nat → Nat
  | 0, i => i
  | f + 1, i => if mayB (s.take (i + 1)) = true then wrongGo s f (i + 1) else i
def wrongR (s : List UInt8) : Nat := wrongGo s s.length 0
theorem run_app (st : St) (u l : List UInt8) : run st (u ++ l) = (run st u).bind fun st' => run st' l := by
  induction u generalizing st with
  | nil => rfl
  | cons c u ih =>
    rw [List.cons_append, run, run]
    cases dl st (c.toNat : Int) with
    | none => rfl
    | some st' => exact ih st'
theorem wrong_dead (s : List UInt8) (rest : List UInt8) (u : List UInt8) (hs : s = u ++ rest) (h1 : (run (.top 0) u).isSome = true) (h2 : ∀ c r, rest = c :: r → run (.top 0) (u ++ [c]) = none) : wrongR s = u.length := by
  have key : ∀ f i, f + i = s.length → i ≤ u.length → wrongGo s f i = u.length := by
    intro f
    induction f with
    | zero =>
      intro i hf hi
      have : s.length = u.length + rest.length := by rw [hs]; simp
      simp only [wrongGo]; omega
    | succ f ih =>
      intro i hf hi
      rw [wrongGo]
      by_cases hlt : i < u.length
      · have : mayB (s.take (i + 1)) = true := by
          rw [mayB_run, hs, List.take_append_of_le_length (by omega)]
          have hsplit : u = u.take (i + 1) ++ u.drop (i + 1) := (List.take_append_drop _ _).symm
          rw [hsplit, run_app] at h1
          cases hq : run (.top 0) (u.take (i + 1)) with
          | none => rw [hq] at h1; simp at h1
          | some st => rfl
        rw [if_pos this]
        exact ih (i + 1) (by omega) (by omega)
      · have hie : i = u.length := by omega
        subst hie
        cases hr : rest with
        | nil => rw [hs, hr] at hf; simp at hf
        | cons c r =>
          have hn := h2 c r hr
          have : mayB (s.take (u.length + 1)) = false := by
            rw [mayB_run, hs, hr]
            have : (u ++ c :: r).take (u.length + 1) = u ++ [c] := by
              rw [List.take_append, List.take_of_length_le (by omega)]
              simp
            rw [this, hn]; rfl
          rw [this, if_neg (by simp)]
  exact key s.length 0 (by omega) (by omega)
/-- Where a text dies, or that it comes to its end. -/
theorem D_dead (st : St) (l rest : List UInt8) (h : D st l = Out.dead rest) : ∃ u c r, rest = c :: r ∧ l = u ++ rest ∧ ∃ st', run st u = some st' ∧ dl st' (c.toNat : Int) = none := by
  induction l generalizing st with
  | nil => simp [D, Out.fin, Out.dead] at h
  | cons c l ih =>
    rw [D] at h
    cases hd' : dl st (c.toNat : Int) with
    | none =>
      rw [hd'] at h
      simp only [Out.dead, Sum.inl.injEq] at h
      exact ⟨[], c, l, h.symm, by rw [h]; rfl, st, rfl, hd'⟩
    | some st' =>
      rw [hd'] at h
      obtain ⟨u, c', r, h1, h2, st2, h3, h4⟩ := ih st' h
      exact ⟨c :: u, c', r, h1, by rw [h2]; rfl, st2, by rw [run, hd']; exact h3, h4⟩
theorem D_fin (st : St) (l : List UInt8) (b : Bool) (h : D st l = Out.fin b) : (run st l).isSome = true := by
  induction l generalizing st with
  | nil => rfl
  | cons c l ih =>
    rw [D] at h
    rw [run]
    cases hd' : dl st (c.toNat : Int) with
    | none => rw [hd'] at h; simp [Out.fin, Out.dead] at h
    | some st' => rw [hd'] at h; exact ih st' h
/-- Where no program begins: the reader's place. -/
theorem wrong_place (s : ByteArray) (h : (programR s).ok = false) : wrongR s.data.toList = posOf s (programR s).rest := by
  have hD := D_program s
  rw [h, if_neg (by simp)] at hD
  have hsz : s.size = s.data.toList.length := by simp
  unfold posOf
  rw [hsz]
  generalize s.data.toList = l at *
  generalize (programR s).rest = rest at *
  cases rest with
  | nil =>
    have := wrong_dead l [] l (by simp) (D_fin _ _ false hD) (by intro c r e; simp at e)
    simpa using this
  | cons c r =>
    obtain ⟨u, c', r', h1, h2, st', h3, h4⟩ := D_dead _ _ _ hD
    injection h1 with h1 h1'
    subst h1 h1'
    have := wrong_dead l (c :: r) u h2 (by rw [h3]; rfl) (by
      intro c2 r2 e
      injection e with e e'
      subst e e'
      rw [run_app, h3]
      simp only [Option.bind_some, run, h4])
    rw [this, h2]
    simp

end Go.Proofs.YtpbfiffgcgnidaaDoor
