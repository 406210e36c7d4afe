/-
  OUR OWN. One fact more, and it gone again: what is read, counted, found and printed. No code here.
-/
import Derived.Test.YtpbfiffgcgnidaaPlain2
import Derived.Test.YtpbfiffgcgnidaaFact5
namespace Go.Proofs.Ytpbfiffgcgnidaa

/- Found. -/
theorem idxGo_any (an : List UInt8) (ats : List (List UInt8)) (k : Nat) (ds : List ClD) : decide (0 ≤ idxGo an ats k ds) = ds.any (matchB an ats) := by
  induction ds generalizing k with
  | nil => rfl
  | cons d r ih =>
    rw [idxGo, List.any_cons]
    cases hm : matchB an ats d
    · rw [if_neg (by simp), ih]; rfl
    · rw [if_pos rfl]; simp
theorem idx_any (an : List UInt8) (ats : List (List UInt8)) (ds : List ClD) : decide (0 ≤ idx an ats ds) = ds.any (matchB an ats) := idxGo_any an ats 0 ds
theorem idxGo_last (an : List UInt8) (ats : List (List UInt8)) (k : Nat) (ds : List ClD) (d : ClD) (h : ds.any (matchB an ats) = false) (hd : matchB an ats d = true) : idxGo an ats k (ds ++ [d]) = ((k + ds.length : Nat) : Int) := by
  induction ds generalizing k with
  | nil => rw [List.nil_append, idxGo, if_pos hd]; rfl
  | cons e r ih =>
    rw [List.any_cons, Bool.or_eq_false_iff] at h
    rw [List.cons_append, idxGo, if_neg (by simp [h.1]), ih _ h.2, List.length_cons]
    omega
theorem idx_last (an : List UInt8) (ats : List (List UInt8)) (ds : List ClD) (d : ClD) (h : ds.any (matchB an ats) = false) (hd : matchB an ats d = true) : idx an ats (ds ++ [d]) = (ds.length : Nat) := by
  have := idxGo_last an ats 0 ds d h hd
  rwa [Nat.zero_add] at this
theorem any_core (an : List UInt8) (ats : List (List UInt8)) (ds ds' : List ClD) (h : ds.map ClD.core = ds'.map ClD.core) : ds.any (matchB an ats) = ds'.any (matchB an ats) := by
  have key : ∀ ds : List ClD, ds.any (matchB an ats) = (ds.map ClD.core).any (fun c => isFactB c.2.2.1.length c.2.1 && sameB c.1 an c.2.1 ats) := by
    intro ds
    rw [List.any_map]
    rfl
  rw [key, key, h]

/- Counted. -/
theorem counts_core (ds ds' : List ClD) (h : ds.map ClD.core = ds'.map ClD.core) : countsR ds = countsR ds' := by
  have key : ∀ ds : List ClD, ds.flatMap ClD.pairs = (ds.map ClD.core).flatMap (fun c => ((c.1, c.2.1) :: c.2.2.1.map fun l => (l.name, l.ts)).map fun a => (a.1, a.2.length)) := by
    intro ds
    rw [List.flatMap_map]
    rfl
  unfold countsR
  rw [key, key, h]
theorem cntGo_pre (x : List UInt8) (n : Nat) (l : List (List UInt8 × Nat)) (xs : List (List UInt8)) (ns : List Nat) : ∃ ys ms, cntGo (x :: xs, n :: ns) l = (x :: ys, n :: ms) := by
  induction l generalizing xs ns with
  | nil => exact ⟨xs, ns, rfl⟩
  | cons a l ih =>
    rw [cntGo, List.foldl_cons, cntStep]
    split
    · exact ih xs ns
    · exact ih (xs ++ [a.1]) (ns ++ [a.2])
def knows (ds : List ClD) (k : List UInt8) (n : Nat) : Bool := hasW (countsR ds).1 k && decide (nAt (countsR ds).2 (posIn (countsR ds).1 k) = (n : Int))
theorem knows_more (ds : List ClD) (d : ClD) (k : List UInt8) (n : Nat) (hd : d.pairs = [(k, n)]) (h : knows ds k n = true) : knows (ds ++ [d]) k n = true := by
  have hh : hasW (countsR ds).1 k = true := by unfold knows at h; simp only [Bool.and_eq_true] at h; exact h.1
  have e : countsR (ds ++ [d]) = countsR ds := by
    unfold countsR cntGo at *
    rw [List.flatMap_append, List.foldl_append, List.flatMap_singleton, hd, List.foldl_cons, List.foldl_nil, cntStep, if_pos hh]
  unfold knows
  rw [e]
  exact h
theorem Ru_knows (v : Nat) (hv : v < 4) : knows (Ru v) edgeB 2 = true := four (P := fun v => knows (Ru v) edgeB 2 = true) (by decide +kernel) v hv
theorem facts_knows (ps : List (Nat × Nat)) (v : Nat) (hv : v < 4) : knows (ps.map factC ++ Ru v) edgeB 2 = true := by
  cases ps with
  | nil => exact Ru_knows v hv
  | cons p ps =>
    have e : countsR ((p :: ps).map factC ++ Ru v) = cntGo ([edgeB], [2]) ((ps.map factC ++ Ru v).flatMap ClD.pairs) := rfl
    obtain ⟨ys, ms, h⟩ := cntGo_pre edgeB 2 ((ps.map factC ++ Ru v).flatMap ClD.pairs) [] []
    unfold knows
    rw [e, h]
    simp [hasW, posIn, nAt]

/- The facts. -/
theorem node_inj : ∀ i k : Nat, i < 4 → k < 4 → nodeB i = nodeB k → i = k := by
  intro i k hi hk
  exact small_cases (P := fun i k => nodeB i = nodeB k → i = k) (by decide +kernel) i k hi hk
theorem factC_match (p r : Nat × Nat) (hp : p.1 < 4 ∧ p.2 < 4) (hr : r.1 < 4 ∧ r.2 < 4) : matchB edgeB [nodeB p.1, nodeB p.2] (factC r) = decide (r = p) := by
  have h1 : isFactB (factC r).lits.length (factC r).ts = true := small_cases (P := fun i k => isFactB (factC (i, k)).lits.length (factC (i, k)).ts = true) (by decide +kernel) r.1 r.2 hr.1 hr.2
  unfold matchB sameB
  rw [h1, Bool.true_and]
  have h2 : decide ((factC r).name = edgeB) = true := rfl
  rw [h2, Bool.true_and]
  apply decide_eq_decide.2
  constructor
  · intro h
    have h3 : [nodeB r.1, nodeB r.2] = [nodeB p.1, nodeB p.2] := h
    injection h3 with h3 h4
    injection h4 with h4 _
    exact Prod.ext (node_inj _ _ hr.1 hp.1 h3) (node_inj _ _ hr.2 hp.2 h4)
  · intro h; rw [h]; rfl
theorem facts_any (ps : List (Nat × Nat)) (hs : Small ps) (p : Nat × Nat) (hp : p.1 < 4 ∧ p.2 < 4) : (ps.map factC).any (matchB edgeB [nodeB p.1, nodeB p.2]) = decide (p ∈ ps) := by
  induction ps with
  | nil => rfl
  | cons r ps ih =>
    rw [List.map_cons, List.any_cons, ih hs.tail, factC_match p r hp (hs r (by simp))]
    by_cases h1 : r = p
    · simp [h1]
    · by_cases h2 : p ∈ ps
      · simp [h2]
      · simp [h1, h2, show ¬ p = r from fun e => h1 e.symm]
theorem Ru_noedge (v : Nat) (hv : v < 4) : (Ru v).all (fun d => !(isFactB d.lits.length d.ts && decide (d.name = edgeB))) = true := four (P := fun v => (Ru v).all (fun d => !(isFactB d.lits.length d.ts && decide (d.name = edgeB))) = true) (by decide +kernel) v hv
theorem Ru_any (v : Nat) (hv : v < 4) (ats : List (List UInt8)) : (Ru v).any (matchB edgeB ats) = false := by
  rw [List.any_eq_false]
  intro d hd
  have h := List.all_eq_true.1 (Ru_noedge v hv) d hd
  unfold matchB sameB
  cases h1 : isFactB d.lits.length d.ts
  · simp
  · rw [h1] at h
    simp only [Bool.true_and, Bool.not_eq_true', decide_eq_false_iff_not] at h
    simp [h]
theorem Ru_len (v : Nat) (hv : v < 4) : (Ru v).length ≤ 12 := four (P := fun v => (Ru v).length ≤ 12) (by decide +kernel) v hv

theorem pairs_has (q : List Bool) (k : Nat) (hk : k < 16) : decide ((k / 4, k % 4) ∈ pairsOf q) = qAt q k := by
  have : ((k / 4, k % 4) ∈ pairsOf q) ↔ qAt q k = true := by
    unfold pairsOf
    rw [List.mem_map]
    constructor
    · rintro ⟨j, hj, he⟩
      rw [List.mem_filter] at hj
      injection he with h1 h2
      have : j = k := by omega
      rw [← this]; exact hj.2
    · intro h
      exact ⟨k, List.mem_filter.2 ⟨List.mem_range.2 hk, h⟩, rfl⟩
  cases h : qAt q k
  · rw [h] at this; simp [this]
  · rw [h] at this; simp [this]

/-- What a given text is read as, but for the places. -/
theorem given_core (q : List Bool) (v : Nat) (hv : v < 4) : (programR (bs (givenT q v))).cls.map ClD.core = ((pairsOf q).map factC ++ Ru v).map ClD.core := by
  unfold givenT
  rw [text_pairs]
  have hn := pairs_len q
  generalize hps : pairsOf q = ps at *
  have hp : Small ps := by rw [← hps]; exact pairs_small q
  obtain ⟨ds', h1, h2⟩ := prog_facts 32 (by decide) ps hp (40 - ps.length) [] (rulesT v)
  rw [show 40 - ps.length + ps.length = 40 by omega] at h2
  have h3 : progR s0 (40 - ps.length) ds' (rulesT v) = ⟨true, ds' ++ Ru v, (progR s0 24 [] (rulesT v)).rest⟩ := by
    have := prog_acc s0 (40 - ps.length) ds' [] (rulesT v)
    rw [List.append_nil] at this
    rw [this, show 40 - ps.length = 24 + (16 - ps.length) by omega, prog_fuel _ _ _ _ _ (Ru_ok v hv), Ru_ok v hv]
    rfl
  rw [h3] at h2
  obtain ⟨k1, k2, k3⟩ := progR_core (bs (factsW 32 ps ++ rulesT v)) s0 40 [] [] (factsW 32 ps ++ rulesT v) rfl
  rw [h2] at k3
  have hb : (bs (factsW 32 ps ++ rulesT v)).data.toList = factsW 32 ps ++ rulesT v := bs_data _
  unfold programR
  rw [hb, k3, List.map_append, h1, List.map_append]
  rfl

/-- The fact's own text, with blanks around it or not. -/
def padB (b : Bool) (l : List UInt8) : List UInt8 := if b = true then 32 :: (l ++ [32]) else l
def askOk (s : List UInt8) (p : Nat × Nat) : Bool :=
  (atomR s0 s).ok && ((skipL (atomR s0 s).rest).isEmpty && (decide ((atomR s0 s).name = edgeB) && decide ((atomR s0 s).ts = [nodeB p.1, nodeB p.2])))
theorem ask_fact (b : Bool) (i k : Nat) (hi : i < 4) (hk : k < 4) : askOk (padB b (factB i k)) (i, k) = true := by
  cases b
  · exact small_cases (P := fun i k => askOk (padB false (factB i k)) (i, k) = true) (by decide +kernel) i k hi hk
  · exact small_cases (P := fun i k => askOk (padB true (factB i k)) (i, k) = true) (by decide +kernel) i k hi hk
theorem q_fact (b : Bool) (i k : Nat) (hi : i < 4) (hk : k < 4) : (qAtom (bs (padB b (factB i k)))).ok = true ∧ (skipL (qAtom (bs (padB b (factB i k)))).rest).isEmpty = true ∧ (qAtom (bs (padB b (factB i k)))).name = edgeB ∧ (qAtom (bs (padB b (factB i k)))).ts = [nodeB i, nodeB k] := by
  have h := ask_fact b i k hi hk
  unfold askOk at h
  simp only [Bool.and_eq_true, decide_eq_true_eq] at h
  unfold qAtom
  rw [bs_data, atomR_ok _ s0, atomR_rest _ s0, atomR_name _ s0, atomR_ts _ s0]
  exact ⟨h.1, h.2.1, h.2.2.1, h.2.2.2⟩
theorem fv_nodes (i k : Nat) (hi : i < 4) (hk : k < 4) : fv [nodeB i, nodeB k] = -1 := small_cases (P := fun i k => fv [nodeB i, nodeB k] = -1) (by decide +kernel) i k hi hk

/-- What Undone needs of the base. -/
structure Undo (q : List Bool) (k : Nat) (D : List ClD) (P : List UInt8) : Prop where
  few : D.length ≤ 30
  wf : ∀ d ∈ D, d.WF
  knows : knows D edgeB 2 = true
  found : D.any (matchB edgeB [nodeB (k / 4), nodeB (k % 4)]) = qAt q k
  shown : shownAll D = P
theorem undo (q : List Bool) (v k : Nat) (hv : v < 4) (hk : k < 16) : Undo q k (programR (bs (givenT q v))).cls (printedP q v) := by
  have hc := given_core q v hv
  refine ⟨?_, (programR_wf _).2, ?_, ?_, (given_ok q v hv).2⟩
  · have h1 := congrArg List.length hc
    have h2 := pairs_len q
    have h3 := Ru_len v hv
    simp at h1
    omega
  · unfold knows
    rw [counts_core _ _ hc]
    exact facts_knows (pairsOf q) v hv
  · rw [any_core _ _ _ _ hc, List.any_append, Ru_any v hv, Bool.or_false]
    have h4 : (k / 4, k % 4).1 < 4 ∧ (k / 4, k % 4).2 < 4 := by constructor <;> simp only [] <;> omega
    rw [facts_any (pairsOf q) (pairs_small q) (k / 4, k % 4) h4]
    exact pairs_has q k hk
theorem factC_wf (p : Nat × Nat) : (factC p).WF := by
  refine ⟨rfl, Nat.zero_le _, ?_, ?_⟩
  · intro a ha
    simp [ClD.atoms, factC] at ha
    subst ha
    simp [edgeB, nodeB]
  · intro x hx
    simp [factC] at hx
    subst hx
    decide
theorem shown_more (D : List ClD) (p : Nat × Nat) : shownAll (D ++ [factC p]) = shownAll D ++ (factB p.1 p.2 ++ [46, 10]) := by
  unfold shownAll
  rw [List.flatMap_append, List.flatMap_singleton]
  congr 1

end Go.Proofs.Ytpbfiffgcgnidaa
