/-
  OUR OWN. The document's answer: an atom, whatever the pieces.
-/
import Derived.Test.YtpbfiffgcgnidaaDoorRef4
import Derived.Test.YtpbfiffgcgnidaaDoorRef4n
namespace Go.Proofs.YtpbfiffgcgnidaaDoor

theorem termsP_at (ps : List Pc) : ∀ (n : Nat) (acc : List RT) (q : Nat), ps.length - q ≤ n → ∀ ts r, termsP acc (ps.drop q) = some (ts, r) → ∃ k, k ≤ ps.length ∧ r = ps.drop k := by
  intro n
  induction n with
  | zero =>
    intro acc q hn ts r h
    rw [List.drop_eq_nil_of_le (by omega)] at h
    exact absurd h (by simp [termsP])
  | succ n ih =>
    intro acc q hn ts r h
    by_cases hq : q < ps.length
    · rw [List.drop_eq_getElem_cons hq] at h
      by_cases hq1 : q + 1 < ps.length
      · rw [List.drop_eq_getElem_cons hq1] at h
        unfold termsP at h
        split at h
        · split at h
          · rename_i hc
            simp at hc
            omega
          · rename_i p r' hc
            simp only [List.cons.injEq] at hc
            obtain ⟨h1, h2⟩ := hc
            split at h
            · rw [← h2] at h
              exact ih _ (q + 2) (by omega) ts r h
            · simp only [Option.some.injEq, Prod.mk.injEq] at h
              refine ⟨q + 1, by omega, ?_⟩
              rw [← h.2, List.drop_eq_getElem_cons hq1, h1, h2]
        · exact absurd h (by simp)
      · rw [List.drop_eq_nil_of_le (by omega : ps.length ≤ q + 1)] at h
        unfold termsP at h
        split at h
        · simp only [Option.some.injEq, Prod.mk.injEq] at h
          exact ⟨ps.length, Nat.le_refl _, by rw [← h.2, List.drop_length]⟩
        · exact absurd h (by simp)
    · rw [List.drop_eq_nil_of_le (by omega)] at h
      exact absurd h (by simp [termsP])
theorem coreP_at (ps : List Pc) (neg : Bool) (bang q : Nat) (a : RA) (r : List Pc) (h : coreP neg bang (ps.drop q) = some (a, r)) : ∃ k, k ≤ ps.length ∧ r = ps.drop k := by
  by_cases hq : q < ps.length
  · rw [List.drop_eq_getElem_cons hq] at h
    cases h110 : (ps[q].mark == 110)
    · rw [coreP_no _ _ _ _ h110] at h; exact absurd h (by simp)
    · by_cases hq1 : q + 1 < ps.length
      · rw [List.drop_eq_getElem_cons hq1] at h
        cases h40 : (ps[q + 1].mark == 40)
        · rw [coreP_bare _ _ _ _ _ h110 h40] at h
          simp only [Option.some.injEq, Prod.mk.injEq] at h
          exact ⟨q + 1, by omega, by rw [← h.2, List.drop_eq_getElem_cons hq1]⟩
        · rw [coreP_open _ _ _ _ _ h110 h40] at h
          cases ht : termsP [] (ps.drop (q + 1 + 1)) with
          | none => rw [ht] at h; exact absurd h (by simp)
          | some x =>
            obtain ⟨ts, r'⟩ := x
            obtain ⟨k, hk, rfl⟩ := termsP_at ps _ [] _ (Nat.le_refl _) ts r' ht
            rw [ht, Option.bind_some] at h
            unfold closeP at h
            by_cases hkl : k < ps.length
            · rw [List.drop_eq_getElem_cons hkl] at h
              simp only [] at h
              split at h
              · simp only [Option.some.injEq, Prod.mk.injEq] at h
                exact ⟨k + 1, by omega, h.2.symm⟩
              · exact absurd h (by simp)
            · rw [List.drop_eq_nil_of_le (by omega)] at h
              exact absurd h (by simp)
      · rw [List.drop_eq_nil_of_le (by omega : ps.length ≤ q + 1), coreP_end _ _ _ h110] at h
        simp only [Option.some.injEq, Prod.mk.injEq] at h
        exact ⟨ps.length, Nat.le_refl _, by rw [← h.2, List.drop_length]⟩
  · rw [List.drop_eq_nil_of_le (by omega)] at h
    exact absurd h (by simp [coreP])
theorem atomP_at (ps : List Pc) (q : Nat) (a : RA) (r : List Pc) (h : atomP (ps.drop q) = some (a, r)) : ∃ k, k ≤ ps.length ∧ r = ps.drop k := by
  by_cases hq : q < ps.length
  · cases hb : (ps[q].mark == 33)
    · rw [List.drop_eq_getElem_cons hq, atomP_plain _ _ hb, ← List.drop_eq_getElem_cons hq] at h
      exact coreP_at ps _ _ q a r h
    · rw [List.drop_eq_getElem_cons hq, atomP, if_pos hb] at h
      exact coreP_at ps _ _ (q + 1) a r h
  · rw [List.drop_eq_nil_of_le (by omega)] at h
    exact absurd h (by simp [atomP])

theorem atom_c (w : World) (base : Nat) (ao : Option Addr) (cap : Nat) (ps : List Pc) (hP : Pieces w base ao cap ps) (hn : ps.length ≤ 3000) (i : Nat) (hi : i ≤ ps.length) :
    Calls Tryd.prog 39 #[.slice ao ps.length cap, .int .i64 (i : Nat)] w fun e w' => AtomPost w ps i e w' := by
  by_cases hlt : i < ps.length
  · obtain ⟨g, rfl, -⟩ := piece_at hP i hlt
    cases hb : (ps[i].mark == 33)
    · by_cases h : ∃ h1 : i + 1 < ps.length, (ps[i].mark == 110) = true ∧ (ps[i + 1].mark == 40) = true
      · obtain ⟨h1, h2, h3⟩ := h
        exact atom_open w base g cap ps hP hn i h1 h2 h3
      · refine atom_short w base _ cap ps hP hn i hi ?_ ?_
        · intro p r hd
          rw [List.drop_eq_getElem_cons hlt] at hd
          rw [← (List.cons.inj hd).1]; exact hb
        · intro p q r hd hp
          rw [List.drop_eq_getElem_cons hlt] at hd
          obtain ⟨rfl, hd2⟩ := List.cons.inj hd
          by_cases h1 : i + 1 < ps.length
          · rw [List.drop_eq_getElem_cons h1] at hd2
            obtain ⟨rfl, -⟩ := List.cons.inj hd2
            cases h40 : (ps[i + 1].mark == 40)
            · rfl
            · exact absurd ⟨h1, hp, h40⟩ h
          · rw [List.drop_eq_nil_of_le (by omega)] at hd2
            exact absurd hd2 (by simp)
    · by_cases h : ∃ h1 : i + 2 < ps.length, (ps[i + 1].mark == 110) = true ∧ (ps[i + 2].mark == 40) = true
      · obtain ⟨h1, h2, h3⟩ := h
        exact atom_openn w base g cap ps hP hn i h1 hb h2 h3
      · refine atom_shortn w base g cap ps hP hn i hlt hb ?_
        intro p q r hd hp
        by_cases h0 : i + 1 < ps.length
        · rw [List.drop_eq_getElem_cons h0] at hd
          obtain ⟨rfl, hd2⟩ := List.cons.inj hd
          by_cases h1 : i + 2 < ps.length
          · rw [List.drop_eq_getElem_cons h1] at hd2
            obtain ⟨rfl, -⟩ := List.cons.inj hd2
            cases h40 : (ps[i + 2].mark == 40)
            · rfl
            · exact absurd ⟨h1, hp, h40⟩ h
          · rw [List.drop_eq_nil_of_le (by omega)] at hd2
            exact absurd hd2 (by simp)
        · rw [List.drop_eq_nil_of_le (by omega)] at hd
          exact absurd hd (by simp)
  · refine atom_short w base ao cap ps hP hn i hi ?_ ?_
    · intro p r hd
      rw [List.drop_eq_nil_of_le (by omega)] at hd
      exact absurd hd (by simp)
    · intro p q r hd
      rw [List.drop_eq_nil_of_le (by omega)] at hd
      exact absurd hd (by simp)

end Go.Proofs.YtpbfiffgcgnidaaDoor
