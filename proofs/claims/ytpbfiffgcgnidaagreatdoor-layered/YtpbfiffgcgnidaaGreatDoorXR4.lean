/-
  OUR OWN. The document's answer: an atom, whatever the pieces.
-/
import Derived.Test.YtpbfiffgcgnidaaGreatDoorXRef4
import Derived.Test.YtpbfiffgcgnidaaGreatDoorXRef4n
import Derived.Test.YtpbfiffgcgnidaaGreatDoorXK2
namespace Go.Proofs.YtpbfiffgcgnidaaGreatDoor

theorem termsP_at (ps : List Pc) : ∀ (n : Nat) (acc : List RT) (q : Nat), ps.length - q ≤ n → ∀ ts r, termsP acc (ps.drop q) = some (ts, r) → ∃ k, k ≤ ps.length ∧ r = ps.drop k := by
  intro n
  induction n with
  | zero =>
    intro acc q hn ts r h
    rw [List.drop_eq_nil_of_le (by omega)] at h
    exact absurd h (by simp [termsP])
  | succ n ih =>
    intro acc q hn ts r h
    by_cases hq : q < ps.length
    · rw [List.drop_eq_getElem_cons hq] at h
      by_cases hq1 : q + 1 < ps.length
      · rw [List.drop_eq_getElem_cons hq1] at h
        unfold termsP at h
        split at h
        · split at h
          · rename_i hc
            simp at hc
            omega
          · rename_i p r' hc
            simp only [List.cons.injEq] at hc
            obtain ⟨h1, h2⟩ := hc
            split at h
            · rw [← h2] at h
              exact ih _ (q + 2) (by omega) ts r h
            · simp only [Option.some.injEq, Prod.mk.injEq] at h
              refine ⟨q + 1, by omega, ?_⟩
              rw [← h.2, List.drop_eq_getElem_cons hq1, h1, h2]
        · exact absurd h (by simp)
      · rw [List.drop_eq_nil_of_le (by omega : ps.length ≤ q + 1)] at h
        unfold termsP at h
        split at h
        · simp only [Option.some.injEq, Prod.mk.injEq] at h
          exact ⟨ps.length, Nat.le_refl _, by rw [← h.2, List.drop_length]⟩
        · exact absurd h (by simp)
    · rw [List.drop_eq_nil_of_le (by omega)] at h
      exact absurd h (by simp [termsP])
theorem coreP_at (ps : List Pc) (neg : Bool) (bang q : Nat) (a : RA) (r : List Pc) (h : coreP neg bang (ps.drop q) = some (a, r)) : ∃ k, k ≤ ps.length ∧ r = ps.drop k := by
  by_cases hq : q < ps.length
  · rw [List.drop_eq_getElem_cons hq] at h
    cases h110 : (ps[q].mark == 110)
    · rw [coreP_no _ _ _ _ h110] at h; exact absurd h (by simp)
    · by_cases hq1 : q + 1 < ps.length
      · rw [List.drop_eq_getElem_cons hq1] at h
        cases h40 : (ps[q + 1].mark == 40)
        · rw [coreP_bare _ _ _ _ _ h110 h40] at h
          simp only [Option.some.injEq, Prod.mk.injEq] at h
          exact ⟨q + 1, by omega, by rw [← h.2, List.drop_eq_getElem_cons hq1]⟩
        · rw [coreP_open _ _ _ _ _ h110 h40] at h
          cases ht : termsP [] (ps.drop (q + 1 + 1)) with
          | none => rw [ht] at h; exact absurd h (by simp)
          | some x =>
            obtain ⟨ts, r'⟩ := x
            obtain ⟨k, hk, rfl⟩ := termsP_at ps _ [] _ (Nat.le_refl _) ts r' ht
            rw [ht, Option.bind_some] at h
            unfold closeP at h
            by_cases hkl : k < ps.length
            · rw [List.drop_eq_getElem_cons hkl] at h
              simp only [] at h
              split at h
              · simp only [Option.some.injEq, Prod.mk.injEq] at h
                exact ⟨k + 1, by omega, h.2.symm⟩
              · exact absurd h (by simp)
            · rw [List.drop_eq_nil_of_le (by omega)] at h
              exact absurd h (by simp)
      · rw [List.drop_eq_nil_of_le (by omega : ps.length ≤ q + 1), coreP_end _ _ _ h110] at h
        simp only [Option.some.injEq, Prod.mk.injEq] at h
        exact ⟨ps.length, Nat.le_refl _, by rw [← h.2, List.drop_length]⟩
  · rw [List.drop_eq_nil_of_le (by omega)] at h
    exact absurd h (by simp [coreP])
theorem atomP_at (ps : List Pc) (q : Nat) (a : RA) (r : List Pc) (h : atomP (ps.drop q) = some (a, r)) : ∃ k, k ≤ ps.length ∧ r = ps.drop k := by
  by_cases hq : q < ps.length
  · cases hb : (ps[q].mark == 33)
    · rw [List.drop_eq_getElem_cons hq, atomP_plain _ _ hb, ← List.drop_eq_getElem_cons hq] at h
      exact coreP_at ps _ _ q a r h
    · rw [List.drop_eq_getElem_cons hq, atomP, if_pos hb] at h
      exact coreP_at ps _ _ (q + 1) a r h
  · rw [List.drop_eq_nil_of_le (by omega)] at h
    exact absurd h (by simp [atomP])

theorem atom_c (w : World) (base : Nat) (ao : Option Addr) (cap : Nat) (ps : List Pc) (hP : Pieces w base ao cap ps) (hn : ps.length ≤ 3000) (i : Nat) (hi : i ≤ ps.length) :
    Calls Tryz.prog 100 #[.slice ao ps.length cap, .int .i64 (i : Nat)] w fun e w' => AtomPost w ps i e w' := by
  by_cases hlt : i < ps.length
  · obtain ⟨g, rfl, -⟩ := piece_at hP i hlt
    cases hb : (ps[i].mark == 33)
    · by_cases h : ∃ h1 : i + 1 < ps.length, (ps[i].mark == 110) = true ∧ (ps[i + 1].mark == 40) = true
      · obtain ⟨h1, h2, h3⟩ := h
        exact atom_open w base g cap ps hP hn i h1 h2 h3
      · refine atom_short w base _ cap ps hP hn i hi ?_ ?_
        · intro p r hd
          rw [List.drop_eq_getElem_cons hlt] at hd
          rw [← (List.cons.inj hd).1]; exact hb
        · intro p q r hd hp
          rw [List.drop_eq_getElem_cons hlt] at hd
          obtain ⟨rfl, hd2⟩ := List.cons.inj hd
          by_cases h1 : i + 1 < ps.length
          · rw [List.drop_eq_getElem_cons h1] at hd2
            obtain ⟨rfl, -⟩ := List.cons.inj hd2
            cases h40 : (ps[i + 1].mark == 40)
            · rfl
            · exact absurd ⟨h1, hp, h40⟩ h
          · rw [List.drop_eq_nil_of_le (by omega)] at hd2
            exact absurd hd2 (by simp)
    · by_cases h : ∃ h1 : i + 2 < ps.length, (ps[i + 1].mark == 110) = true ∧ (ps[i + 2].mark == 40) = true
      · obtain ⟨h1, h2, h3⟩ := h
        exact atom_openn w base g cap ps hP hn i h1 hb h2 h3
      · refine atom_shortn w base g cap ps hP hn i hlt hb ?_
        intro p q r hd hp
        by_cases h0 : i + 1 < ps.length
        · rw [List.drop_eq_getElem_cons h0] at hd
          obtain ⟨rfl, hd2⟩ := List.cons.inj hd
          by_cases h1 : i + 2 < ps.length
          · rw [List.drop_eq_getElem_cons h1] at hd2
            obtain ⟨rfl, -⟩ := List.cons.inj hd2
            cases h40 : (ps[i + 2].mark == 40)
            · rfl
            · exact absurd ⟨h1, hp, h40⟩ h
          · rw [List.drop_eq_nil_of_le (by omega)] at hd2
            exact absurd hd2 (by simp)
        · rw [List.drop_eq_nil_of_le (by omega)] at hd
          exact absurd hd (by simp)
  · refine atom_short w base ao cap ps hP hn i hi ?_ ?_
    · intro p r hd
      rw [List.drop_eq_nil_of_le (by omega)] at hd
      exact absurd hd (by simp)
    · intro p q r hd
      rw [List.drop_eq_nil_of_le (by omega)] at hd
      exact absurd hd (by simp)

end Go.Proofs.YtpbfiffgcgnidaaGreatDoor

namespace Go.Proofs.YtpbfiffgcgnidaaGreatDoor
/- A term's kind is its first letter's. -/
def RA.fit (a : RA) : Prop := ∀ t ∈ a.ts, t.var = isVar t.s
def RC.fit (c : RC) : Prop := c.head.fit ∧ ∀ a ∈ c.body, a.fit
theorem argsT_fit (n f : Nat) (acc : List RT) (l : List UInt8) (ts : List RT) (r : List UInt8) (h : argsT n f acc l = some (ts, r)) (ha : ∀ t ∈ acc, t.var = isVar t.s) : ∀ t ∈ ts, t.var = isVar t.s := by
  induction f generalizing acc l with
  | zero => simp [argsT] at h
  | succ f ih =>
    have ha' : ∀ t ∈ acc ++ [⟨termW l, isVar (termW l), n - (skipL l).length⟩], t.var = isVar t.s := by
      intro t ht
      rw [List.mem_append, List.mem_singleton] at ht
      rcases ht with h | rfl
      · exact ha t h
      · rfl
    rw [argsT] at h
    split at h
    · simp at h
    · split at h
      · split at h
        · simp at h; rw [← h.1]; exact ha'
        · simp at h
      · split at h
        · split at h
          · simp at h; rw [← h.1]; exact ha'
          · simp at h
        · exact ih _ _ h ha'
theorem atomT_fit (n : Nat) (neg : Bool) (bang : Nat) (l : List UInt8) (a : RA) (r : List UInt8) (h : atomT n neg bang l = some (a, r)) : a.fit := by
  unfold atomT at h
  split at h
  · simp at h
  · split at h
    · simp at h; rw [← h.1]; intro t ht; simp at ht
    · rw [Option.map_eq_some_iff] at h
      obtain ⟨⟨ts, r'⟩, h1, h2⟩ := h
      simp at h2
      rw [← h2.1]
      exact argsT_fit _ _ _ _ _ _ h1 (by simp)
theorem litT_fit (n : Nat) (l : List UInt8) (a : RA) (r : List UInt8) (h : litT n l = some (a, r)) : a.fit := by
  unfold litT at h
  split at h <;> exact atomT_fit _ _ _ _ _ _ h
theorem litsT_fit (n f : Nat) (acc : List RA) (l : List UInt8) (b : List RA) (r : List UInt8) (h : litsT n f acc l = some (b, r)) (ha : ∀ a ∈ acc, a.fit) : ∀ a ∈ b, a.fit := by
  induction f generalizing acc l with
  | zero => simp [litsT] at h
  | succ f ih =>
    rw [litsT, Option.bind_eq_some_iff] at h
    obtain ⟨⟨a, r'⟩, h1, h2⟩ := h
    have ha' : ∀ x ∈ acc ++ [a], x.fit := by
      intro x hx
      rw [List.mem_append, List.mem_singleton] at hx
      rcases hx with h | rfl
      · exact ha x h
      · exact litT_fit _ _ _ _ h1
    simp only [] at h2
    split at h2
    · simp at h2; rw [← h2.1]; exact ha'
    · split at h2
      · simp at h2; rw [← h2.1]; exact ha'
      · exact ih _ _ h2 ha'
theorem clauseT_fit (n : Nat) (l : List UInt8) (c : RC) (r : List UInt8) (h : clauseT n l = some (c, r)) : c.fit := by
  unfold clauseT at h
  rw [Option.bind_eq_some_iff] at h
  obtain ⟨⟨a, r'⟩, h1, h2⟩ := h
  have hf := atomT_fit _ _ _ _ _ _ h1
  simp only [] at h2
  split at h2
  · split at h2
    · simp at h2; rw [← h2.1]; exact ⟨hf, by simp⟩
    · simp at h2
  · split at h2
    · simp at h2
    · rw [Option.bind_eq_some_iff] at h2
      obtain ⟨⟨b, r2⟩, h3, h4⟩ := h2
      simp only [] at h4
      split at h4
      · simp at h4; rw [← h4.1]; exact ⟨hf, litsT_fit _ _ _ _ _ _ h3 (by simp)⟩
      · simp at h4
theorem progT_fit (n f : Nat) (acc : List RC) (l : List UInt8) (cs : List RC) (h : progT n f acc l = some cs) (ha : ∀ c ∈ acc, c.fit) : ∀ c ∈ cs, c.fit := by
  induction f generalizing acc l with
  | zero =>
    rw [progT] at h
    split at h
    · simp at h; rw [← h]; exact ha
    · simp at h
  | succ f ih =>
    rw [progT] at h
    split at h
    · simp at h; rw [← h]; exact ha
    · rw [Option.bind_eq_some_iff] at h
      obtain ⟨⟨c, r⟩, h1, h2⟩ := h
      refine ih _ _ h2 ?_
      intro x hx
      rw [List.mem_append, List.mem_singleton] at hx
      rcases hx with h | rfl
      · exact ha x h
      · exact clauseT_fit _ _ _ _ h1
theorem prog_fit (s : ByteArray) (cs : List RC) (h : (T s.size s.data.toList).bind (PP []) = some cs) : ∀ c ∈ cs, c.fit := by
  rw [prog_sim s.size 40 [] _ rfl] at h
  exact progT_fit _ _ _ _ _ h (by simp)

/- Arity. -/
def atomsC (cs : List RC) : List RA := cs.flatMap fun c => c.head :: c.body
/-- A name's number of terms where it stands first; -1: nowhere. -/
def arityC (all : List RA) (nm : List UInt8) : Int := match all.find? (fun a => decide (a.name = nm)) with
  | none => -1
  | some a => (a.ts.length : Nat)
def refArity (all : List RA) : List RA → Option Nat
  | [] => none
  | a :: r => if arityC all a.name = ((a.ts.length : Nat) : Int) then refArity all r else some a.pl
def RA.item (a : RA) : List UInt8 × Nat × Nat := (a.name, a.ts.length, a.pl)
theorem zip_item (b : List RA) : ((b.map RA.lit).map fun l => (l.name, l.ts)).zip (b.map RA.spot) = b.map fun a => ((a.name, a.ts.map RT.s), a.spot) := by
  induction b with
  | nil => rfl
  | cons a b ih => simp only [List.map_cons, List.zip_cons_cons, ih]; rfl
theorem items_d (c : RC) : c.d.items = (c.head :: c.body).map RA.item := by
  unfold ClD.items ClD.atoms RC.d
  simp only [List.zip_cons_cons, List.map_cons]
  rw [zip_item, List.map_map]
  congr 1
  · simp [RA.item]
  · apply List.map_congr_left
    intro a _
    simp [RA.item, RA.spot]
theorem items_all (cs : List RC) : (cs.map RC.d).flatMap ClD.items = (atomsC cs).map RA.item := by
  unfold atomsC
  rw [List.flatMap_map, List.map_flatMap]
  congr 1
  funext c
  exact items_d c
/-- What the counts know of what was seen. -/
def Seen (xs : List (List UInt8)) (ns : List Nat) (done : List RA) : Prop := xs.length = ns.length ∧ ∀ k, (hasW xs k = true → arityC done k = ((ns.getD (posIn xs k) 0 : Nat) : Int)) ∧ (hasW xs k = false → ∀ a ∈ done, a.name ≠ k)
theorem arityC_old (done rest : List RA) (k : List UInt8) (n : Nat) (h : arityC done k = (n : Int)) : arityC (done ++ rest) k = (n : Int) := by
  unfold arityC at *
  rw [List.find?_append]
  cases hf : done.find? (fun a => decide (a.name = k)) with
  | none => rw [hf] at h; simp at h
  | some a => rw [hf] at h; exact h
theorem arityC_new (done rest : List RA) (a : RA) (h : ∀ x ∈ done, x.name ≠ a.name) : arityC (done ++ a :: rest) a.name = ((a.ts.length : Nat) : Int) := by
  unfold arityC
  have : done.find? (fun x => decide (x.name = a.name)) = none := by
    rw [List.find?_eq_none]
    intro x hx
    simpa using h x hx
  rw [List.find?_append, this]
  simp
theorem posIn_app (xs : List (List UInt8)) (k j : List UInt8) (hj : j ∈ xs) : posIn (xs ++ [k]) j = posIn xs j := by
  simp [posIn, hj, List.idxOf_append]
theorem posIn_new (xs : List (List UInt8)) (k : List UInt8) (hx : k ∉ xs) : posIn (xs ++ [k]) k = xs.length := by
  simp [posIn, List.idxOf_append, hx]
theorem arity_same (all done rest : List RA) (hall : all = done ++ rest) (xs : List (List UInt8)) (ns : List Nat) (hS : Seen xs ns done) : arityGo xs ns (rest.map RA.item) = refArity all rest := by
  induction rest generalizing done xs ns with
  | nil => rfl
  | cons a r ih =>
    rw [List.map_cons, refArity]
    show arityGo xs ns ((a.name, a.ts.length, a.pl) :: r.map RA.item) = _
    rw [arityGo]
    obtain ⟨hl, hS⟩ := hS
    have hk := hS a.name
    cases hh : hasW xs a.name
    · rw [if_neg (by simp)]
      have hn := hk.2 hh
      have hx : a.name ∉ xs := by simpa [hasW] using hh
      rw [hall, arityC_new done r a hn, if_pos rfl, ← hall]
      refine ih (done ++ [a]) (by rw [hall]; simp) _ _ ⟨by simp [hl], ?_⟩
      intro k
      by_cases hka : k = a.name
      · subst hka
        constructor
        · intro _
          rw [posIn_new xs _ hx, hl]
          have := arityC_new done [] a hn
          rw [this]; simp
        · intro h; simp [hasW] at h
      · have hkk := hS k
        constructor
        · intro h
          have hkx : k ∈ xs := by
            have : k ∈ xs ++ [a.name] := by simpa [hasW] using h
            simpa [hka] using this
          rw [posIn_app xs _ _ hkx]
          have hlt : posIn xs k < ns.length := by
            rw [posIn, if_pos hkx, ← hl]
            exact List.idxOf_lt_length_iff.2 hkx
          have h1 := hkk.1 (by simpa [hasW] using hkx)
          have e : (ns ++ [a.ts.length]).getD (posIn xs k) 0 = ns.getD (posIn xs k) 0 := by
            simp [List.getD_eq_getElem?_getD, List.getElem?_append_left hlt]
          rw [e]
          exact arityC_old _ _ _ _ h1
        · intro h x hx'
          rw [List.mem_append, List.mem_singleton] at hx'
          rcases hx' with h' | rfl
          · refine hkk.2 ?_ x h'
            have : k ∉ xs ++ [a.name] := by simpa [hasW] using h
            have hkx : k ∉ xs := fun e => this (by simp [e])
            simpa [hasW] using hkx
          · exact fun e => hka e.symm
    · rw [if_pos rfl]
      have h1 := arityC_old done (a :: r) a.name _ (hk.1 hh)
      rw [← hall] at h1
      rw [h1]
      by_cases hn : ns.getD (posIn xs a.name) 0 = a.ts.length
      · rw [if_pos hn, if_pos (by rw [hn])]
        refine ih (done ++ [a]) (by rw [hall]; simp) xs ns ⟨hl, ?_⟩
        intro k
        have hkk := hS k
        constructor
        · intro h; exact arityC_old _ _ _ _ (hkk.1 h)
        · intro h x hx'
          rw [List.mem_append, List.mem_singleton] at hx'
          rcases hx' with h' | rfl
          · exact hkk.2 h x h'
          · intro e; rw [e] at hh; rw [hh] at h; simp at h
      · rw [if_neg hn, if_neg (by omega)]
theorem arityR_ref (cs : List RC) : arityR (cs.map RC.d) = refArity (atomsC cs) (atomsC cs) := by
  unfold arityR
  rw [items_all]
  exact arity_same _ [] _ rfl [] [] ⟨rfl, by intro k; constructor <;> simp [hasW]⟩
/- Safety. -/
def boundC (c : RC) (v : List UInt8) : Bool := c.body.any fun a => !a.neg && a.ts.any fun t => t.var && decide (t.s = v)
def looseT (c : RC) (ts : List RT) : Option Nat := (ts.find? fun t => t.var && !boundC c t.s).map RT.pl
def looseB (c : RC) : List RA → Option Nat
  | [] => none
  | a :: r => (if a.neg = true then looseT c a.ts else none).or (looseB c r)
def looseC (c : RC) : Option Nat := (looseT c c.head.ts).or (looseB c c.body)
def refOpen : List RC → Option Nat
  | [] => none
  | c :: r => (looseC c).or (refOpen r)
theorem unTerms_ref (safe : List (List UInt8)) (pre ts : List RT) : unTerms safe ((pre ++ ts).map RT.pl) pre.length (ts.map RT.s) = (ts.find? fun t => isVar t.s && !hasW safe t.s).map RT.pl := by
  induction ts generalizing pre with
  | nil => rfl
  | cons t r ih =>
    rw [List.map_cons, unTerms, List.find?_cons]
    cases h : (isVar t.s && !hasW safe t.s)
    · rw [if_neg (by simp)]
      have := ih (pre ++ [t])
      rw [List.length_append, List.length_singleton, List.append_assoc] at this
      exact this
    · rw [if_pos rfl]
      simp
theorem hasW_addW (xs : List (List UInt8)) (k v : List UInt8) : hasW (addW xs k) v = (hasW xs v || decide (v = k)) := by
  unfold addW
  cases h : hasW xs k
  · rw [if_neg (by simp)]
    unfold hasW
    by_cases hv : v = k
    · simp [hv]
    · simp [hv]
  · rw [if_pos rfl]
    by_cases hv : v = k
    · subst hv; simp [h]
    · simp [hv]
theorem hasW_fold (ts xs : List (List UInt8)) (v : List UInt8) : hasW (ts.foldl addW xs) v = (hasW xs v || ts.contains v) := by
  induction ts generalizing xs with
  | nil => simp
  | cons t r ih =>
    rw [List.foldl_cons, ih, hasW_addW, List.contains_cons, Bool.or_assoc]
    congr 2
    by_cases h : v = t <;> simp [h]
theorem hasW_pos (ls : List LitD) (xs : List (List UInt8)) (v : List UInt8) : hasW (ls.foldl posStep xs) v = (hasW xs v || ls.any fun l => !l.neg && l.ts.contains v) := by
  induction ls generalizing xs with
  | nil => simp
  | cons l r ih =>
    rw [List.foldl_cons, ih, List.any_cons]
    unfold posStep
    cases hn : l.neg
    · rw [if_neg (by simp), hasW_fold, Bool.or_assoc]; rfl
    · rw [if_pos rfl]; rfl
theorem any_congr {A : Type} (l : List A) (p q : A → Bool) (h : ∀ a ∈ l, p a = q a) : l.any p = l.any q := by
  induction l with
  | nil => rfl
  | cons a r ih => rw [List.any_cons, List.any_cons, h a (by simp), ih (fun x hx => h x (by simp [hx]))]
theorem contains_any (ts : List RT) (v : List UInt8) : (ts.map RT.s).contains v = ts.any fun t => decide (t.s = v) := by
  induction ts with
  | nil => rfl
  | cons t r ih =>
    rw [List.map_cons, List.contains_cons, List.any_cons, ih]
    congr 1
    by_cases h : t.s = v
    · simp [h]
    · simp [h, show ¬ v = t.s from fun e => h e.symm]
theorem safe_bound (c : RC) (hf : c.fit) (v : List UInt8) (hv : isVar v = true) : hasW (posT c.d.lits) v = boundC c v := by
  unfold posT
  rw [hasW_pos]
  unfold boundC RC.d
  rw [List.any_map]
  simp only [hasW, List.contains_nil, Bool.false_or]
  apply any_congr
  intro a ha
  show (!a.lit.neg && a.lit.ts.contains v) = _
  unfold RA.lit
  simp only []
  congr 1
  rw [contains_any]
  apply any_congr
  intro t ht
  by_cases h : t.s = v
  · rw [hf.2 a ha t ht, h, hv]; simp
  · simp [h]
theorem find_congr {A : Type} (l : List A) (p q : A → Bool) (h : ∀ a ∈ l, p a = q a) : l.find? p = l.find? q := by
  induction l with
  | nil => rfl
  | cons a r ih =>
    rw [List.find?_cons, List.find?_cons, h a (by simp), ih (fun x hx => h x (by simp [hx]))]
theorem terms_ref (c : RC) (hf : c.fit) (ts : List RT) (ht : ∀ t ∈ ts, t.var = isVar t.s) : unTerms (posT c.d.lits) (ts.map RT.pl) 0 (ts.map RT.s) = looseT c ts := by
  have h := unTerms_ref (posT c.d.lits) [] ts
  rw [List.nil_append, List.length_nil] at h
  rw [h]
  unfold looseT
  congr 1
  apply find_congr
  intro t hm
  rw [ht t hm]
  cases hv : isVar t.s
  · rfl
  · rw [safe_bound c hf t.s hv]
theorem bound_pos (c : RC) (a : RA) (ha : a ∈ c.body) (hn : a.neg = false) : looseT c a.ts = none := by
  unfold looseT
  rw [Option.map_eq_none_iff, List.find?_eq_none]
  intro t ht
  cases hv : t.var
  · simp
  · have : boundC c t.s = true := by
      unfold boundC
      rw [List.any_eq_true]
      refine ⟨a, ha, ?_⟩
      rw [hn]
      simp only [Bool.not_false, Bool.true_and, List.any_eq_true]
      exact ⟨t, ht, by simp [hv]⟩
    simp [this]
theorem body_ref (c : RC) (hf : c.fit) (b : List RA) (hb : ∀ a ∈ b, a ∈ c.body) : unAtoms (posT c.d.lits) (b.map fun a => ((a.name, a.ts.map RT.s), a.spot)) = looseB c b := by
  induction b with
  | nil => rfl
  | cons a r ih =>
    rw [List.map_cons, unAtoms, looseB, ih (fun x hx => hb x (by simp [hx]))]
    congr 1
    have ha := hb a (by simp)
    have h := terms_ref c hf a.ts (hf.2 a ha)
    show unTerms (posT c.d.lits) (a.ts.map RT.pl) 0 (a.ts.map RT.s) = _
    rw [h]
    cases hn : a.neg
    · rw [if_neg (by simp)]; exact bound_pos c a ha hn
    · rw [if_pos rfl]
theorem openR_ref (cs : List RC) (hf : ∀ c ∈ cs, c.fit) : openR (cs.map RC.d) = refOpen cs := by
  induction cs with
  | nil => rfl
  | cons c r ih =>
    rw [List.map_cons, openR, refOpen, ih (fun x hx => hf x (by simp [hx]))]
    congr 1
    have hc := hf c (by simp)
    have h1 := terms_ref c hc c.head.ts hc.1
    have h2 := body_ref c hc c.body (fun a h => h)
    have e : c.d.atoms.zip c.d.spots = ((c.head.name, c.head.ts.map RT.s), (⟨0, c.head.pl, c.head.ts.map RT.pl⟩ : SpotD)) :: c.body.map fun a => ((a.name, a.ts.map RT.s), a.spot) := by
      unfold ClD.atoms RC.d
      simp only [List.zip_cons_cons]
      rw [zip_item]
    rw [e, unAtoms, h2]
    unfold looseC
    congr 1
/- Layers. -/
/-- What a name depends on: closed, and nothing else. -/
structure Deps (cs : List RC) (p : List UInt8) (out : List (List UInt8)) : Prop where
  closed : ∀ c ∈ cs, (c.head.name = p ∨ c.head.name ∈ out) → ∀ b ∈ c.body, b.name ∈ out
  least : ∀ P : List UInt8 → Prop, (∀ c ∈ cs, (c.head.name = p ∨ P c.head.name) → ∀ b ∈ c.body, P b.name) → ∀ x ∈ out, P x
theorem mem_addNames (ls : List LitD) (xs : List (List UInt8)) (v : List UInt8) : v ∈ addNames xs ls ↔ (v ∈ xs ∨ ∃ l ∈ ls, l.name = v) := by
  induction ls generalizing xs with
  | nil => simp [addNames]
  | cons l r ih =>
    unfold addNames at *
    rw [List.foldl_cons, ih]
    have : v ∈ addW xs l.name ↔ (v ∈ xs ∨ v = l.name) := by
      have h := hasW_addW xs l.name v
      unfold hasW at h
      have h1 : (addW xs l.name).contains v = true ↔ (xs.contains v || decide (v = l.name)) = true := by rw [h]
      simpa using h1
    rw [this]
    constructor
    · rintro ((h | h) | ⟨l', h1, h2⟩)
      · exact .inl h
      · exact .inr ⟨l, by simp, h.symm⟩
      · exact .inr ⟨l', by simp [h1], h2⟩
    · rintro (h | ⟨l', h1, h2⟩)
      · exact .inl (.inl h)
      · rw [List.mem_cons] at h1
        rcases h1 with rfl | h1
        · exact .inl (.inr h2.symm)
        · exact .inr ⟨l', h1, h2⟩
theorem mem_needStep (ds : List ClD) (nm : List UInt8) (xs : List (List UInt8)) (v : List UInt8) : v ∈ needStep ds nm xs ↔ (v ∈ xs ∨ ∃ d ∈ ds, d.name = nm ∧ ∃ l ∈ d.lits, l.name = v) := by
  induction ds generalizing xs with
  | nil => simp [needStep]
  | cons d r ih =>
    unfold needStep at *
    rw [List.foldl_cons, ih]
    by_cases hd : d.name = nm
    · rw [if_pos hd, mem_addNames]
      constructor
      · rintro ((h | ⟨l, h1, h2⟩) | ⟨d', h1, h2⟩)
        · exact .inl h
        · exact .inr ⟨d, by simp, hd, l, h1, h2⟩
        · exact .inr ⟨d', by simp [h1], h2⟩
      · rintro (h | ⟨d', h1, h2, h3⟩)
        · exact .inl (.inl h)
        · rw [List.mem_cons] at h1
          rcases h1 with rfl | h1
          · exact .inl (.inr h3)
          · exact .inr ⟨d', h1, h2, h3⟩
    · rw [if_neg hd]
      constructor
      · rintro (h | ⟨d', h1, h2⟩)
        · exact .inl h
        · exact .inr ⟨d', by simp [h1], h2⟩
      · rintro (h | ⟨d', h1, h2, h3⟩)
        · exact .inl h
        · rw [List.mem_cons] at h1
          rcases h1 with rfl | h1
          · exact absurd h2 hd
          · exact .inr ⟨d', h1, h2, h3⟩
/-- Steps of need. -/
def stepsTo (ds : List ClD) (x y : List UInt8) : Prop := ∃ d ∈ ds, d.name = x ∧ ∃ l ∈ d.lits, l.name = y
theorem needGo_min (ds : List ClD) (P : List UInt8 → Prop) (hP : ∀ x y, P x → stepsTo ds x y → P y) (f i : Nat) (xs : List (List UInt8)) (h : ∀ x ∈ xs, P x) : ∀ x ∈ needGo ds f i xs, P x := by
  induction f generalizing i xs with
  | zero => exact h
  | succ f ih =>
    rw [needGo]
    split
    · rename_i hi
      apply ih
      intro x hx
      rw [mem_needStep] at hx
      rcases hx with hx | hs
      · exact h x hx
      · have hm : xs.getD i [] ∈ xs := by
          rw [List.getD_eq_getElem?_getD, List.getElem?_eq_getElem hi]
          exact List.getElem_mem hi
        exact hP _ x (h _ hm) hs
    · exact h
theorem needGo_sub (ds : List ClD) (f i : Nat) (xs : List (List UInt8)) : ∀ x ∈ xs, x ∈ needGo ds f i xs := by
  induction f generalizing i xs with
  | zero => exact fun x h => h
  | succ f ih =>
    rw [needGo]
    split
    · intro x hx
      exact ih _ _ x ((mem_needStep _ _ _ _).2 (.inl hx))
    · exact fun x h => h
theorem needGo_closed (ds : List ClD) (U : List (List UInt8)) (hU : ∀ d ∈ ds, ∀ l ∈ d.lits, l.name ∈ U) (f i : Nat) (hf : f + i = U.length) (xs : List (List UInt8)) (hx : xs.Nodup ∧ ∀ x ∈ xs, x ∈ U)
    (hi : ∀ j, j < i → ∀ y, stepsTo ds (xs.getD j []) y → y ∈ xs) : ∀ x ∈ needGo ds f i xs, ∀ y, stepsTo ds x y → y ∈ needGo ds f i xs := by
  induction f generalizing i xs with
  | zero =>
    rw [needGo]
    intro x hx' y hs
    obtain ⟨j, hj, rfl⟩ := List.getElem_of_mem hx'
    have hl := sub_len hx.1 hx.2
    have := hi j (by omega) y
    rw [List.getD_eq_getElem?_getD, List.getElem?_eq_getElem hj] at this
    exact this hs
  | succ f ih =>
    rw [needGo]
    split
    · rename_i hlt
      have hinv := needStep_inv U ds (xs.getD i []) xs hU hx
      refine ih (i + 1) (by omega) _ hinv.1 ?_
      intro j hj y hs
      obtain ⟨t, ht⟩ := hinv.2
      have hjl : j < xs.length := by omega
      have e : (needStep ds (xs.getD i []) xs).getD j [] = xs.getD j [] := by
        rw [← ht, List.getD_eq_getElem?_getD, List.getD_eq_getElem?_getD, List.getElem?_append_left hjl]
      rw [e] at hs
      rw [mem_needStep]
      by_cases hji : j < i
      · exact .inl (hi j hji y hs)
      · have : j = i := by omega
        subst this
        exact .inr hs
    · rename_i hlt
      intro x hx' y hs
      obtain ⟨j, hj, rfl⟩ := List.getElem_of_mem hx'
      have := hi j (by omega) y
      rw [List.getD_eq_getElem?_getD, List.getElem?_eq_getElem hj] at this
      exact this hs
theorem needs_deps (cs : List RC) (p : List UInt8) (out : List (List UInt8)) (hD : Deps cs p out) (h : List UInt8) : (hasW out h || decide (p = h)) = hasW (needsR (cs.map RC.d) p) h := by
  have hst : ∀ x y, stepsTo (cs.map RC.d) x y ↔ ∃ c ∈ cs, c.head.name = x ∧ ∃ b ∈ c.body, b.name = y := by
    intro x y
    constructor
    · rintro ⟨d, hd, h1, l, hl, h2⟩
      rw [List.mem_map] at hd
      obtain ⟨c, hc, rfl⟩ := hd
      have hl' : l ∈ c.body.map RA.lit := hl
      rw [List.mem_map] at hl'
      obtain ⟨b, hb, rfl⟩ := hl'
      exact ⟨c, hc, h1, b, hb, h2⟩
    · rintro ⟨c, hc, h1, b, hb, h2⟩
      exact ⟨c.d, List.mem_map.2 ⟨c, hc, rfl⟩, h1, b.lit, List.mem_map.2 ⟨b, hb, rfl⟩, h2⟩
  have hU : ∀ d ∈ cs.map RC.d, ∀ l ∈ d.lits, l.name ∈ allNames (cs.map RC.d) p := by
    intro d hd l hl
    unfold allNames
    rw [List.mem_cons, List.mem_flatMap]
    exact .inr ⟨d, hd, List.mem_map.2 ⟨l, hl, rfl⟩⟩
  have hcl := needGo_closed (cs.map RC.d) (allNames (cs.map RC.d) p) hU (allNames (cs.map RC.d) p).length 0 (by omega) [p] ⟨by simp, by simp [allNames]⟩ (by intro j hj; omega)
  have hp : p ∈ needsR (cs.map RC.d) p := needGo_sub _ _ _ _ p (by simp)
  have key : (h ∈ out ∨ p = h) ↔ h ∈ needsR (cs.map RC.d) p := by
    constructor
    · rintro (ho | rfl)
      · refine hD.least (fun x => x ∈ needsR (cs.map RC.d) p) ?_ h ho
        intro c hc hor b hb
        rcases hor with e | hm
        · exact hcl _ hp _ ((hst _ _).2 ⟨c, hc, e, b, hb, rfl⟩)
        · exact hcl _ hm _ ((hst _ _).2 ⟨c, hc, rfl, b, hb, rfl⟩)
      · exact hp
    · intro hn
      refine needGo_min (cs.map RC.d) (fun x => x ∈ out ∨ p = x) ?_ _ _ _ (by simp) h hn
      intro x y hx hs
      rw [hst] at hs
      obtain ⟨c, hc, h1, b, hb, rfl⟩ := hs
      rcases hx with hx | rfl
      · exact .inl (hD.closed c hc (.inr (h1 ▸ hx)) b hb)
      · exact .inl (hD.closed c hc (.inl h1) b hb)
  unfold hasW
  rw [Bool.eq_iff_iff]
  simp only [Bool.or_eq_true, List.contains_iff_mem, decide_eq_true_eq]
  exact key
def refLits (cs : List RC) (c : RC) : List RA → Option Nat
  | [] => none
  | b :: r => if (b.neg && hasW (needsR (cs.map RC.d) b.name) c.head.name) = true then some b.bang else refLits cs c r
def refLay (cs : List RC) : List RC → Option Nat
  | [] => none
  | c :: r => (refLits cs c c.body).or (refLay cs r)
theorem layLits_ref (cs : List RC) (c : RC) (pre b : List RA) (hb : c.body = pre ++ b) : layLits (cs.map RC.d) c.d pre.length (b.map RA.lit) = refLits cs c b := by
  induction b generalizing pre with
  | nil => rfl
  | cons a r ih =>
    rw [List.map_cons, layLits, refLits]
    have e : (a.lit.neg && hasW (needsR (cs.map RC.d) a.lit.name) c.d.name) = (a.neg && hasW (needsR (cs.map RC.d) a.name) c.head.name) := rfl
    rw [e]
    split
    · unfold RC.d
      simp only [List.map_cons, List.map_map, hb]
      rw [show 1 + pre.length = pre.length + 1 by omega, List.getD_cons_succ, List.getD_eq_getElem?_getD, List.map_append, List.getElem?_append_right (by simp)]
      simp [RA.spot]
    · have := ih (pre ++ [a]) (by rw [hb]; simp)
      rw [List.length_append, List.length_singleton] at this
      exact this
theorem layersR_ref (cs : List RC) : layersR (cs.map RC.d) = refLay cs cs := by
  unfold layersR
  have key : ∀ l : List RC, layGo (cs.map RC.d) (l.map RC.d) = refLay cs l := by
    intro l
    induction l with
    | nil => rfl
    | cons c r ih =>
      rw [List.map_cons, layGo, refLay, ih]
      congr 1
      exact layLits_ref cs c [] c.body rfl
  exact key cs
/-- What the document's Load answers, out of the text alone. -/
def refE (s : ByteArray) : Nat × Nat :=
  if 2000 < s.size then (1, 0)
  else match (T s.size s.data.toList).bind (PP []) with
    | none => (2, wrongR s.data.toList)
    | some cs => match refArity (atomsC cs) (atomsC cs) with
      | some p => (3, p)
      | none => match refOpen cs with
        | some p => (4, p)
        | none => match refLay cs cs with
          | some p => (5, p)
          | none => (0, 0)
theorem load_ref (s : ByteArray) : loadE s = refE s := by
  unfold loadE refE
  split
  · rfl
  · have h := program_same s
    cases hq : (T s.size s.data.toList).bind (PP []) with
    | none =>
      rw [hq] at h
      simp only [] at h ⊢
      rw [h, if_pos rfl, wrong_place s h]
    | some cs =>
      rw [hq] at h
      obtain ⟨h1, h2⟩ := h
      simp only []
      rw [h1, if_neg (by simp), h2]
      unfold faultR
      rw [arityR_ref, openR_ref cs (prog_fit s cs hq), layersR_ref]
      rfl

end Go.Proofs.YtpbfiffgcgnidaaGreatDoor
