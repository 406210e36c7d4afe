/-
  OUR OWN. What the statements' own texts are read as, and printed as. No code here.
-/
import Derived.Test.YtpbfiffgcgnidaaPlain1
import Derived.KernelRfl
namespace Go.Proofs.Ytpbfiffgcgnidaa

abbrev Core := List UInt8 × List (List UInt8) × List LitD × Nat
def edgeB : List UInt8 := [101, 100, 103, 101]
def factC (p : Nat × Nat) : ClD := ⟨edgeB, [nodeB p.1, nodeB p.2], [], [⟨0, 0, [0, 0]⟩]⟩
def Small (ps : List (Nat × Nat)) : Prop := ∀ p ∈ ps, p.1 < 4 ∧ p.2 < 4
theorem Small.tail {p : Nat × Nat} {ps : List (Nat × Nat)} (h : Small (p :: ps)) : Small ps := fun x hx => h x (by simp [hx])
/-- Sixteen pairs. -/
theorem small_cases {P : Nat → Nat → Prop} (h : P 0 0 ∧ P 0 1 ∧ P 0 2 ∧ P 0 3 ∧ P 1 0 ∧ P 1 1 ∧ P 1 2 ∧ P 1 3 ∧ P 2 0 ∧ P 2 1 ∧ P 2 2 ∧ P 2 3 ∧ P 3 0 ∧ P 3 1 ∧ P 3 2 ∧ P 3 3) (i k : Nat) (hi : i < 4) (hk : k < 4) : P i k := by
  have h1 : i = 0 ∨ i = 1 ∨ i = 2 ∨ i = 3 := by omega
  have h2 : k = 0 ∨ k = 1 ∨ k = 2 ∨ k = 3 := by omega
  obtain ⟨a, b, c, d, e, f, g, j, l, m, n, o, p, q, r, s⟩ := h
  rcases h1 with rfl | rfl | rfl | rfl <;> rcases h2 with rfl | rfl | rfl | rfl <;> assumption
theorem fact_clause (rest : List UInt8) (i k : Nat) (hi : i < 4) (hk : k < 4) : (clauseR s0 (factB i k ++ 46 :: rest)).core = (true, (factC (i, k)).core, rest) :=
  small_cases (P := fun i k => (clauseR s0 (factB i k ++ 46 :: rest)).core = (true, (factC (i, k)).core, rest)) (by refine ⟨?_, ?_, ?_, ?_, ?_, ?_, ?_, ?_, ?_, ?_, ?_, ?_, ?_, ?_, ?_, ?_⟩ <;> kernel_rfl) i k hi hk
theorem prog_blank (s : ByteArray) (f : Nat) (ds : List ClD) (c : UInt8) (l : List UInt8) (h : blank (c.toNat : Int) = true) : progR s f ds (c :: l) = progR s f ds l := by
  have : skipL (c :: l) = skipL l := by simp [skipL, h]
  cases f <;> simp [progR, this]
def factsW (sep : UInt8) (ps : List (Nat × Nat)) : List UInt8 := ps.flatMap fun p => factB p.1 p.2 ++ [46, sep]
theorem prog_facts (sep : UInt8) (hs : blank (sep.toNat : Int) = true) (ps : List (Nat × Nat)) (hp : Small ps) (f : Nat) (ds : List ClD) (l : List UInt8) :
    ∃ ds', ds'.map ClD.core = ds.map ClD.core ++ (ps.map factC).map ClD.core ∧ progR s0 (f + ps.length) ds (factsW sep ps ++ l) = progR s0 f ds' l := by
  induction ps generalizing ds with
  | nil => exact ⟨ds, by simp, rfl⟩
  | cons p ps ih =>
    obtain ⟨i, k⟩ := p
    have hik := hp (i, k) (by simp)
    have e1 : factsW sep ((i, k) :: ps) ++ l = factB i k ++ 46 :: (sep :: (factsW sep ps ++ l)) := by simp [factsW]
    have hc := fact_clause (sep :: (factsW sep ps ++ l)) i k hik.1 hik.2
    simp only [ClR.core, Prod.mk.injEq] at hc
    obtain ⟨c1, c2, c3⟩ := hc
    have hk : skipL (factB i k ++ 46 :: (sep :: (factsW sep ps ++ l))) = factB i k ++ 46 :: (sep :: (factsW sep ps ++ l)) := rfl
    obtain ⟨ds', h1, h2⟩ := ih hp.tail (ds ++ [(clauseR s0 (factB i k ++ 46 :: (sep :: (factsW sep ps ++ l)))).d])
    refine ⟨ds', ?_, ?_⟩
    · rw [h1]
      simp [c2]
    · rw [e1, List.length_cons, show f + (ps.length + 1) = (f + ps.length) + 1 by omega]
      rw [progR, hk, if_neg (by simp [factB]), c1, if_neg (by simp), c3, prog_blank _ _ _ _ _ hs, h2]
theorem prog_acc (s : ByteArray) (f : Nat) (ds e : List ClD) (l : List UInt8) : progR s f (ds ++ e) l = ⟨(progR s f e l).ok, ds ++ (progR s f e l).cls, (progR s f e l).rest⟩ := by
  induction f generalizing e l with
  | zero => unfold progR; split <;> rfl
  | succ f ih =>
    unfold progR
    split
    · rfl
    · split
      · rfl
      · rw [List.append_assoc]; exact ih _ _
theorem prog_fuel (s : ByteArray) (f g : Nat) (e : List ClD) (l : List UInt8) (h : (progR s f e l).ok = true) : progR s (f + g) e l = progR s f e l := by
  induction f generalizing e l with
  | zero =>
    cases g with
    | zero => rfl
    | succ g =>
      unfold progR at h
      split at h
      · rename_i h1
        rw [Nat.zero_add]
        unfold progR
        rw [if_pos h1, if_pos h1]
      · simp at h
  | succ f ih =>
    rw [show f + 1 + g = (f + g) + 1 by omega]
    unfold progR at h ⊢
    split
    · rfl
    · rename_i h1
      rw [if_neg h1] at h
      split
      · rfl
      · rename_i h2
        rw [if_neg h2] at h
        exact ih _ _ h

/- The rules. -/
def Ru (v : Nat) : List ClD := (progR s0 24 [] (rulesT v)).cls
def RuP (v : Nat) : List UInt8 := shownAll (Ru v)
theorem four {P : Nat → Prop} (h : P 0 ∧ P 1 ∧ P 2 ∧ P 3) (v : Nat) (hv : v < 4) : P v := by
  have h1 : v = 0 ∨ v = 1 ∨ v = 2 ∨ v = 3 := by omega
  obtain ⟨a, b, c, d⟩ := h
  rcases h1 with rfl | rfl | rfl | rfl <;> assumption
theorem Ru_ok (v : Nat) (hv : v < 4) : (progR s0 24 [] (rulesT v)).ok = true := four (P := fun v => (progR s0 24 [] (rulesT v)).ok = true) (by refine ⟨?_, ?_, ?_, ?_⟩ <;> kernel_rfl) v hv
theorem Ru_again (v : Nat) (hv : v < 4) : (progR s0 24 [] (RuP v)).ok = true ∧ (progR s0 24 [] (RuP v)).cls = Ru v := four (P := fun v => (progR s0 24 [] (RuP v)).ok = true ∧ (progR s0 24 [] (RuP v)).cls = Ru v) (by refine ⟨⟨?_, ?_⟩, ⟨?_, ?_⟩, ⟨?_, ?_⟩, ⟨?_, ?_⟩⟩ <;> kernel_rfl) v hv
def more (v : Nat) : Nat := if v = 3 then 12 else 11
theorem Ru_shown (v : Nat) (hv : v < 4) : (RuP v).all (fun c => c != 32) = true ∧ (RuP v).count 10 = more v ∧ (RuP v).length ≤ 400 ∧ (rulesT v).length ≤ 400 := four (P := fun v => (RuP v).all (fun c => c != 32) = true ∧ (RuP v).count 10 = more v ∧ (RuP v).length ≤ 400 ∧ (rulesT v).length ≤ 400) (by decide +kernel) v hv
def ruSound (R : List ClD) : Bool := (arityN [] [] ((R.map ClD.core).flatMap coreItems) && arityN [edgeB] [2] ((R.map ClD.core).flatMap coreItems)) && ((R.map ClD.core).all coreSafe && (R.map ClD.core).all (layB (needsR R)))
theorem Ru_sound (v : Nat) (hv : v < 4) : ruSound (Ru v) = true := four (P := fun v => ruSound (Ru v) = true) (by decide +kernel) v hv

theorem arityN_facts (n : Nat) (r : List (List UInt8 × Nat)) : arityN [edgeB] [2] (List.replicate n (edgeB, 2) ++ r) = arityN [edgeB] [2] r := by
  induction n with
  | zero => rfl
  | succ n ih => rw [List.replicate_succ, List.cons_append, arityN, if_pos (by decide), if_pos (by decide), ih]
theorem facts_items (ps : List (Nat × Nat)) : ((ps.map factC).map ClD.core).flatMap coreItems = List.replicate ps.length (edgeB, 2) := by
  induction ps with
  | nil => rfl
  | cons p ps ih => simp only [List.map_cons, List.flatMap_cons, ih, List.length_cons, List.replicate_succ]; rfl
theorem facts_safe (ps : List (Nat × Nat)) (h : Small ps) : ((ps.map factC).map ClD.core).all coreSafe = true := by
  induction ps with
  | nil => rfl
  | cons p ps ih =>
    have hp := h p (by simp)
    rw [List.map_cons, List.map_cons, List.all_cons, ih h.tail, Bool.and_true]
    exact small_cases (P := fun i k => coreSafe (factC (i, k)).core = true) (by decide +kernel) p.1 p.2 hp.1 hp.2
theorem facts_lay (N : List UInt8 → List (List UInt8)) (ps : List (Nat × Nat)) : ((ps.map factC).map ClD.core).all (layB N) = true := by
  induction ps with
  | nil => rfl
  | cons p ps ih => rw [List.map_cons, List.map_cons, List.all_cons, ih]; rfl
theorem facts_needs (ps : List (Nat × Nat)) (R : List ClD) : needsR (ps.map factC ++ R) = needsR R := by
  have h1 : needStep (ps.map factC ++ R) = needStep R := by
    funext nm xs
    unfold needStep
    rw [List.foldl_append]
    congr 1
    induction ps generalizing xs with
    | nil => rfl
    | cons p ps ih => rw [List.map_cons, List.foldl_cons, show (if (factC p).name = nm then addNames xs (factC p).lits else xs) = xs by split <;> rfl]; exact ih xs
  have h2 : allNames (ps.map factC ++ R) = allNames R := by
    funext nm
    have e : ∀ ps : List (Nat × Nat), (ps.map factC).flatMap (fun d => d.lits.map fun l => l.name) = [] := by
      intro ps
      induction ps with
      | nil => rfl
      | cons p ps ih => rw [List.map_cons, List.flatMap_cons, ih]; rfl
    unfold allNames
    rw [List.flatMap_append, e, List.nil_append]
  have hg : ∀ f i xs, needGo (ps.map factC ++ R) f i xs = needGo R f i xs := by
    intro f
    induction f with
    | zero => intro i xs; rfl
    | succ f ih => intro i xs; unfold needGo; rw [h1]; split <;> simp [ih]
  funext nm
  unfold needsR
  rw [h2]
  exact hg _ _ _
theorem facts_sound (ps : List (Nat × Nat)) (hp : Small ps) (v : Nat) (hv : v < 4) : sound (ps.map factC ++ Ru v) = true := by
  have h := Ru_sound v hv
  unfold ruSound at h
  simp only [Bool.and_eq_true] at h
  obtain ⟨⟨h1, h2⟩, h3, h4⟩ := h
  unfold sound
  rw [facts_needs, List.map_append, List.flatMap_append, List.all_append, List.all_append, facts_items, facts_safe ps hp, facts_lay, h3, h4]
  simp only [Bool.and_true]
  cases ps with
  | nil => exact h1
  | cons p ps => rw [List.length_cons, List.replicate_succ, List.cons_append, arityN, if_neg (by decide)]; rw [List.nil_append, List.nil_append, arityN_facts]; exact h2
theorem facts_shown (ps : List (Nat × Nat)) (R : List ClD) : shownAll (ps.map factC ++ R) = factsW 10 ps ++ shownAll R := by
  unfold shownAll
  rw [List.flatMap_append]
  congr 1
  induction ps with
  | nil => rfl
  | cons p ps ih => rw [List.map_cons, List.flatMap_cons, ih]; unfold factsW; rw [List.flatMap_cons]; congr 1
theorem factsW_len (sep : UInt8) (ps : List (Nat × Nat)) : (factsW sep ps).length = 11 * ps.length := by
  induction ps with
  | nil => rfl
  | cons p ps ih => unfold factsW at *; rw [List.flatMap_cons, List.length_append, ih, List.length_cons]; simp [factB, nodeB]; omega

/-- A text of facts and rules: what it is read as. -/
theorem read_all (sep : UInt8) (hs : blank (sep.toNat : Int) = true) (ps : List (Nat × Nat)) (hp : Small ps) (hn : ps.length ≤ 16) (v : Nat) (hv : v < 4) (l : List UInt8) (hl : l.length ≤ 400) (hok : (progR s0 24 [] l).ok = true) (hcl : (progR s0 24 [] l).cls = Ru v) :
    loadE (bs (factsW sep ps ++ l)) = (0, 0) ∧ shownAll (programR (bs (factsW sep ps ++ l))).cls = factsW 10 ps ++ RuP v := by
  obtain ⟨ds', h1, h2⟩ := prog_facts sep hs ps hp (40 - ps.length) [] l
  rw [show 40 - ps.length + ps.length = 40 by omega] at h2
  have h3 : progR s0 (40 - ps.length) ds' l = ⟨true, ds' ++ Ru v, (progR s0 24 [] l).rest⟩ := by
    have := prog_acc s0 (40 - ps.length) ds' [] l
    rw [List.append_nil] at this
    rw [this, show 40 - ps.length = 24 + (16 - ps.length) by omega, prog_fuel _ _ _ _ _ hok, hok, hcl]
  rw [h3] at h2
  obtain ⟨k1, k2, k3⟩ := progR_core (bs (factsW sep ps ++ l)) s0 40 [] [] (factsW sep ps ++ l) rfl
  rw [h2] at k1 k2 k3
  have hb : (bs (factsW sep ps ++ l)).data.toList = factsW sep ps ++ l := bs_data _
  have hsz : (bs (factsW sep ps ++ l)).size = (factsW sep ps ++ l).length := bs_size' _
  have hcore : (programR (bs (factsW sep ps ++ l))).cls.map ClD.core = (ps.map factC ++ Ru v).map ClD.core := by
    unfold programR
    rw [hb, k3, List.map_append, h1, List.map_append]
    rfl
  have hok' : (programR (bs (factsW sep ps ++ l))).ok = true := by
    unfold programR
    rw [hb, k1]
  constructor
  · unfold loadE
    rw [if_neg (by rw [hsz, List.length_append, factsW_len]; omega), hok', if_neg (by simp)]
    apply faultR_sound
    rw [sound_core _ _ hcore]
    exact facts_sound ps hp v hv
  · rw [shown_core _ _ hcore, facts_shown]
    rfl

def pairsOf (q : List Bool) : List (Nat × Nat) := ((List.range 16).filter (qAt q)).map fun j => (j / 4, j % 4)
theorem pairs_small (q : List Bool) : Small (pairsOf q) := by
  intro p hp
  unfold pairsOf at hp
  rw [List.mem_map] at hp
  obtain ⟨j, hj, rfl⟩ := hp
  have := (List.mem_filter.1 hj).1
  rw [List.mem_range] at this
  constructor <;> simp only [] <;> omega
theorem pairs_len (q : List Bool) : (pairsOf q).length ≤ 16 := by
  unfold pairsOf
  rw [List.length_map]
  have := List.length_filter_le (qAt q) (List.range 16)
  simpa using this
theorem facts_pairs (q : List Bool) : factsTo q 16 = (pairsOf q).map fun p => factB p.1 p.2 := by
  unfold factsTo pairsOf
  rw [List.map_map]
  rfl
theorem text_pairs (q : List Bool) : textR (factsTo q 16) = factsW 32 (pairsOf q) := by
  rw [facts_pairs]
  unfold textR factsW
  rw [List.flatMap_map]

/-- What Printed prints. -/
def printedP (q : List Bool) (v : Nat) : List UInt8 := factsW 10 (pairsOf q) ++ RuP v
def givenT (q : List Bool) (v : Nat) : List UInt8 := textR (factsTo q 16) ++ rulesT v
theorem given_ok (q : List Bool) (v : Nat) (hv : v < 4) : loadE (bs (givenT q v)) = (0, 0) ∧ shownAll (programR (bs (givenT q v))).cls = printedP q v := by
  unfold givenT
  rw [text_pairs]
  exact read_all 32 (by decide) _ (pairs_small q) (pairs_len q) v hv _ (Ru_shown v hv).2.2.2 (Ru_ok v hv) rfl
theorem printed_ok (q : List Bool) (v : Nat) (hv : v < 4) : loadE (bs (printedP q v)) = (0, 0) ∧ shownAll (programR (bs (printedP q v))).cls = printedP q v :=
  read_all 10 (by decide) _ (pairs_small q) (pairs_len q) v hv _ (Ru_shown v hv).2.2.1 (Ru_again v hv).1 (Ru_again v hv).2
theorem given_len (q : List Bool) (v : Nat) (hv : v < 4) : (givenT q v).length ≤ 2000 := by
  unfold givenT
  have h1 := (Ru_shown v hv).2.2.2
  have h2 := pairs_len q
  rw [text_pairs, List.length_append, factsW_len]
  omega
theorem printed_len (q : List Bool) (v : Nat) (hv : v < 4) : (printedP q v).length ≤ 2000 := by
  unfold printedP
  have h1 := (Ru_shown v hv).2.2.1
  have h2 := pairs_len q
  rw [List.length_append, factsW_len]
  omega
theorem facts_lines (ps : List (Nat × Nat)) (hp : Small ps) : (factsW 10 ps).all (fun c => c != 32) = true ∧ (factsW 10 ps).count 10 = ps.length := by
  induction ps with
  | nil => exact ⟨rfl, rfl⟩
  | cons p ps ih =>
    have h := hp p (by simp)
    obtain ⟨i1, i2⟩ := ih hp.tail
    have e : factsW 10 (p :: ps) = (factB p.1 p.2 ++ [46, 10]) ++ factsW 10 ps := by unfold factsW; rw [List.flatMap_cons]
    have k := small_cases (P := fun i k => (factB i k ++ [46, 10]).all (fun c => c != 32) = true ∧ (factB i k ++ [46, 10]).count 10 = 1) (by decide +kernel) p.1 p.2 h.1 h.2
    rw [e, List.all_append, List.count_append, i1, i2, k.1, k.2, List.length_cons]
    exact ⟨rfl, by omega⟩
theorem printed_lines (q : List Bool) (v : Nat) (hv : v < 4) : (printedP q v).all (fun c => c != 32) = true ∧ (printedP q v).count 10 = (factsTo q 16).length + more v := by
  have h1 := facts_lines (pairsOf q) (pairs_small q)
  have h2 := Ru_shown v hv
  have e : (factsTo q 16).length = (pairsOf q).length := by rw [facts_pairs, List.length_map]
  unfold printedP
  rw [List.all_append, List.count_append, h1.1, h1.2, h2.1, h2.2.1, e]
  exact ⟨rfl, rfl⟩
def beginR (fs : List (List UInt8)) : List UInt8 := fs.flatMap fun f => f ++ [46, 10]
theorem begin_pairs (q : List Bool) : beginR (factsTo q 16) = factsW 10 (pairsOf q) := by
  rw [facts_pairs]
  unfold beginR factsW
  rw [List.flatMap_map]

end Go.Proofs.Ytpbfiffgcgnidaa
