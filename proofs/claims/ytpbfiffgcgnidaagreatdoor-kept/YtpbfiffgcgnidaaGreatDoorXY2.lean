/-
  OUR OWN. Layers, no code: the document's steps all at once, the program's edge by edge: the same, where no ring goes through a negative literal.
-/
import Derived.Test.YtpbfiffgcgnidaaGreatDoorXR5
import Derived.Test.YtpbfiffgcgnidaaGreatDoorXPf5
namespace Go.Proofs.YtpbfiffgcgnidaaGreatDoor

/-- An edge: the head's name, the literal's, is it negative. -/
structure Edge where
  h : List UInt8
  b : List UInt8
  n : Bool
def Edge.w (e : Edge) : Nat := if e.n then 1 else 0
/-- One step of the document: the greatest over the edges of a name. -/
def jacGo (f : List UInt8 → Nat) (p : List UInt8) : Nat → List Edge → Nat
  | m, [] => m
  | m, e :: es => jacGo f p (if e.h = p ∧ m < f e.b + e.w then f e.b + e.w else m) es
def jac (E : List Edge) (f : List UInt8 → Nat) (p : List UInt8) : Nat := jacGo f p 0 E
def jacN (E : List Edge) : Nat → List UInt8 → Nat
  | 0 => fun _ => 0
  | k + 1 => jac E (jacN E k)
theorem jacGo_le (f : List UInt8 → Nat) (p : List UInt8) (m : Nat) (E : List Edge) : m ≤ jacGo f p m E := by
  induction E generalizing m with
  | nil => exact Nat.le_refl _
  | cons e es ih =>
    rw [jacGo]
    refine Nat.le_trans ?_ (ih _)
    split <;> omega
theorem jacGo_edge (f : List UInt8 → Nat) (p : List UInt8) (m : Nat) (E : List Edge) (e : Edge) (he : e ∈ E) (hp : e.h = p) : f e.b + e.w ≤ jacGo f p m E := by
  induction E generalizing m with
  | nil => simp at he
  | cons x es ih =>
    rw [jacGo]
    rcases List.mem_cons.1 he with rfl | h
    · refine Nat.le_trans ?_ (jacGo_le _ _ _ _)
      by_cases hm : m < f e.b + e.w
      · rw [if_pos ⟨hp, hm⟩]; exact Nat.le_refl _
      · rw [if_neg (fun h => hm h.2)]; omega
    · exact ih _ h
theorem jacGo_from (f : List UInt8 → Nat) (p : List UInt8) (m : Nat) (E : List Edge) : jacGo f p m E = m ∨ ∃ e ∈ E, e.h = p ∧ jacGo f p m E = f e.b + e.w := by
  induction E generalizing m with
  | nil => exact .inl rfl
  | cons x es ih =>
    rw [jacGo]
    by_cases hx : x.h = p ∧ m < f x.b + x.w
    · rw [if_pos hx]
      rcases ih (f x.b + x.w) with h | ⟨e, he, h1, h2⟩
      · exact .inr ⟨x, by simp, hx.1, h⟩
      · exact .inr ⟨e, by simp [he], h1, h2⟩
    · rw [if_neg hx]
      rcases ih m with h | ⟨e, he, h1, h2⟩
      · exact .inl h
      · exact .inr ⟨e, by simp [he], h1, h2⟩
theorem jac_le (E : List Edge) (f g : List UInt8 → Nat) (h : ∀ p, f p ≤ g p) (p : List UInt8) : jac E f p ≤ jac E g p := by
  rcases jacGo_from f p 0 E with h1 | ⟨e, he, h1, h2⟩
  · unfold jac; rw [h1]; exact Nat.zero_le _
  · have := jacGo_edge g p 0 E e he h1
    have := h e.b
    unfold jac; omega
theorem jacN_up (E : List Edge) (k : Nat) : ∀ p, jacN E k p ≤ jacN E (k + 1) p := by
  induction k with
  | zero => intro p; exact Nat.zero_le _
  | succ k ih => intro p; exact jac_le E _ _ ih p
theorem jacN_mono (E : List Edge) {j k : Nat} (h : j ≤ k) (p : List UInt8) : jacN E j p ≤ jacN E k p := by
  induction k with
  | zero => have : j = 0 := by omega
            subst this; exact Nat.le_refl _
  | succ k ih =>
    by_cases hj : j = k + 1
    · subst hj; exact Nat.le_refl _
    · exact Nat.le_trans (ih (by omega)) (jacN_up E k p)
/-- A way along k edges, the negative ones counted. -/
def WayN (E : List Edge) : Nat → List UInt8 → List UInt8 → Nat → Prop
  | 0, p, q, n => p = q ∧ n = 0
  | k + 1, p, q, n => ∃ e ∈ E, ∃ m, e.h = p ∧ n = m + e.w ∧ WayN E k e.b q m
def Way (E : List Edge) (p q : List UInt8) (n : Nat) : Prop := ∃ k, WayN E k p q n
theorem Way.nil {E : List Edge} (p : List UInt8) : Way E p p 0 := ⟨0, rfl, rfl⟩
theorem Way.cons {E : List Edge} (e : Edge) (he : e ∈ E) (q : List UInt8) (n : Nat) (h : Way E e.b q n) : Way E e.h q (n + e.w) := by
  obtain ⟨k, hk⟩ := h
  exact ⟨k + 1, e, he, n, rfl, rfl, hk⟩
theorem Way.trans {E : List Edge} {p q r : List UInt8} {n m : Nat} (h : Way E p q n) (h' : Way E q r m) : Way E p r (m + n) := by
  obtain ⟨k, hk⟩ := h
  induction k generalizing p n with
  | zero =>
    obtain ⟨rfl, rfl⟩ := hk
    exact h'
  | succ k ih =>
    obtain ⟨e, he, x, rfl, rfl, hx⟩ := hk
    have h2 := Way.cons e he _ _ (ih hx)
    rwa [Nat.add_assoc] at h2
/-- What grew at the step k did so by a way through k names, each once. -/
theorem chain (E : List Edge) (hr : ∀ p n, Way E p p n → n = 0) (U : List (List UInt8)) (hU : ∀ e ∈ E, e.h ∈ U) (k : Nat) : ∀ p, jacN E k p < jacN E (k + 1) p →
    ∃ l : List (List UInt8), l.length = k + 1 ∧ l.Nodup ∧ (∀ q ∈ l, q ∈ U) ∧ ∀ q ∈ l, ∃ j n, j ≤ k ∧ Way E p q n ∧ jacN E (k + 1) p = n + jacN E (j + 1) q := by
  induction k with
  | zero =>
    intro p hp
    rcases jacGo_from (jacN E 0) p 0 E with h1 | ⟨e, he, h1, h2⟩
    · exfalso
      have : jacN E (0 + 1) p = 0 := h1
      omega
    · refine ⟨[p], rfl, by simp, ?_, ?_⟩
      · intro q hq
        simp at hq
        subst hq
        exact h1 ▸ hU e he
      · intro q hq
        simp at hq
        subst hq
        exact ⟨0, 0, Nat.le_refl _, Way.nil _, (Nat.zero_add _).symm⟩
  | succ k ih =>
    intro p hp
    rcases jacGo_from (jacN E (k + 1)) p 0 E with h1 | ⟨e, he, h1, h2⟩
    · exfalso
      have : jacN E (k + 1 + 1) p = 0 := h1
      omega
    · have h3 : jacN E (k + 1 + 1) p = jacN E (k + 1) e.b + e.w := h2
      have h4 : jacN E k e.b + e.w ≤ jacN E (k + 1) p := jacGo_edge (jacN E k) p 0 E e he h1
      obtain ⟨l, hl, hnd, hin, hw⟩ := ih e.b (by omega)
      refine ⟨p :: l, by simp [hl], ?_, ?_, ?_⟩
      · rw [List.nodup_cons]
        refine ⟨fun hpl => ?_, hnd⟩
        obtain ⟨j, n, hj, hway, hn⟩ := hw p hpl
        have hring : Way E p p (n + e.w) := by
          have := Way.cons e he _ _ hway
          rwa [h1] at this
        have h0 := hr p _ hring
        have h5 := jacN_mono E (show j + 1 ≤ k + 1 by omega) p
        omega
      · intro q hq
        rcases List.mem_cons.1 hq with rfl | hq
        · exact h1 ▸ hU e he
        · exact hin q hq
      · intro q hq
        rcases List.mem_cons.1 hq with rfl | hq
        · exact ⟨k + 1, 0, Nat.le_refl _, Way.nil _, (Nat.zero_add _).symm⟩
        · obtain ⟨j, n, hj, hway, hn⟩ := hw q hq
          refine ⟨j, n + e.w, by omega, ?_, ?_⟩
          · have := Way.cons e he _ _ hway
            rwa [h1] at this
          · omega
theorem jac_still (E : List Edge) (hr : ∀ p n, Way E p p n → n = 0) (U : List (List UInt8)) (hU : ∀ e ∈ E, e.h ∈ U) (p : List UInt8) : jac E (jacN E U.length) p = jacN E U.length p := by
  apply Classical.byContradiction
  intro hne
  have h1 := jacN_up E U.length p
  have h2 : jacN E (U.length + 1) p = jac E (jacN E U.length) p := rfl
  obtain ⟨l, hl, hnd, hin, _⟩ := chain E hr U hU U.length p (by omega)
  have := hnd.length_le_of_subset hin
  omega
/-- One step of the program: edge by edge, in place. -/
def raiseE (e : Edge) (f : List UInt8 → Nat) : List UInt8 → Nat := fun p => if p = e.h ∧ f e.h < f e.b + e.w then f e.b + e.w else f p
/-- Below what stays, all the way. -/
theorem raiseE_le (E : List Edge) (L : List UInt8 → Nat) (hL : ∀ p, jac E L p = L p) (e : Edge) (he : e ∈ E) (f : List UInt8 → Nat) (hf : ∀ p, f p ≤ L p) : ∀ p, raiseE e f p ≤ L p := by
  intro p
  unfold raiseE
  split
  · rename_i h
    have h1 := jacGo_edge L e.h 0 E e he rfl
    have h2 := hL e.h
    have h3 := hf e.b
    unfold jac at h2
    rw [h.1]
    omega
  · exact hf p
/-- What does not grow any more is what stays. -/
theorem still_eq (E : List Edge) (f : List UInt8 → Nat) (k : Nat) (hs : ∀ e ∈ E, f e.b + e.w ≤ f e.h) : ∀ p, jacN E k p ≤ f p := by
  induction k with
  | zero => intro p; exact Nat.zero_le _
  | succ k ih =>
    intro p
    refine Nat.le_trans (jac_le E _ _ ih p) ?_
    rcases jacGo_from f p 0 E with h1 | ⟨e, he, h1, h2⟩
    · unfold jac; rw [h1]; exact Nat.zero_le _
    · unfold jac; rw [h2, ← h1]; exact hs e he
def RC.edges (c : RC) : List Edge := c.body.map fun a => ⟨c.head.name, a.name, a.neg⟩
def edgesC (cs : List RC) : List Edge := cs.flatMap RC.edges
theorem mem_edges {cs : List RC} {e : Edge} : e ∈ edgesC cs ↔ ∃ c ∈ cs, ∃ a ∈ c.body, e = ⟨c.head.name, a.name, a.neg⟩ := by
  unfold edgesC RC.edges
  rw [List.mem_flatMap]
  constructor
  · rintro ⟨c, hc, h⟩
    obtain ⟨a, ha, rfl⟩ := List.mem_map.1 h
    exact ⟨c, hc, a, ha, rfl⟩
  · rintro ⟨c, hc, a, ha, rfl⟩
    exact ⟨c, hc, List.mem_map.2 ⟨a, ha, rfl⟩⟩
theorem jacGo_append (f : List UInt8 → Nat) (p : List UInt8) (m : Nat) (A B : List Edge) : jacGo f p m (A ++ B) = jacGo f p (jacGo f p m A) B := by
  induction A generalizing m with
  | nil => rfl
  | cons e r ih => rw [List.cons_append, jacGo, jacGo, ih]
theorem jacGo_other (f : List UInt8 → Nat) (p : List UInt8) (m : Nat) (A : List Edge) (h : ∀ e ∈ A, e.h ≠ p) : jacGo f p m A = m := by
  induction A generalizing m with
  | nil => rfl
  | cons e r ih =>
    rw [jacGo, if_neg (fun x => h e (by simp) x.1)]
    exact ih m (fun x hx => h x (by simp [hx]))
theorem jacGo_clause (f : List UInt8 → Nat) (p : List UInt8) (l : List RC) (i : Nat) (hi : i < l.length) : jacGo f p 0 (edgesC (l.take (i + 1))) = jacGo f p (jacGo f p 0 (edgesC (l.take i))) l[i].edges := by
  rw [← jacGo_append]
  congr 1
  unfold edgesC
  rw [List.take_succ_eq_append_getElem hi, List.flatMap_append, List.flatMap_singleton]
theorem jacGo_lit (f : List UInt8 → Nat) (p : List UInt8) (m : Nat) (c : RC) (k : Nat) (hk : k < c.body.length) (hc : c.head.name = p) : jacGo f p m (c.edges.take (k + 1)) = (if jacGo f p m (c.edges.take k) < f c.body[k].name + (if c.body[k].neg then 1 else 0) then f c.body[k].name + (if c.body[k].neg then 1 else 0) else jacGo f p m (c.edges.take k)) := by
  have hl : k < c.edges.length := by simpa [RC.edges] using hk
  rw [List.take_succ_eq_append_getElem hl, jacGo_append]
  have he : c.edges[k] = ⟨c.head.name, c.body[k].name, c.body[k].neg⟩ := by simp [RC.edges]
  rw [he, jacGo, jacGo]
  simp only [hc, Edge.w, true_and]
theorem jacGo_bound (f : List UInt8 → Nat) (p : List UInt8) (m B : Nat) (A : List Edge) (hm : m ≤ B + 1) (hf : ∀ q, f q ≤ B) : jacGo f p m A ≤ B + 1 := by
  rcases jacGo_from f p m A with h | ⟨e, _, _, h⟩
  · omega
  · have := hf e.b
    have : e.w ≤ 1 := by unfold Edge.w; split <;> omega
    omega
theorem jacN_bound (E : List Edge) (k : Nat) : ∀ p, jacN E k p ≤ k := by
  induction k with
  | zero => intro p; exact Nat.le_refl _
  | succ k ih => intro p; exact jacGo_bound _ _ _ _ _ (by omega) ih

end Go.Proofs.YtpbfiffgcgnidaaGreatDoor

namespace Go.Proofs.YtpbfiffgcgnidaaGreatDoor

theorem clauseT_neg (n : Nat) (l : List UInt8) (c : RC) (r : List UInt8) (h : clauseT n l = some (c, r)) : c.head.neg = false := by
  unfold clauseT at h
  rw [Option.bind_eq_some_iff] at h
  obtain ⟨⟨a, r'⟩, h1, h2⟩ := h
  have hf := atomT_neg _ _ _ _ _ _ h1
  simp only [] at h2
  split at h2
  · split at h2
    · simp at h2; rw [← h2.1]; exact hf
    · simp at h2
  · split at h2
    · simp at h2
    · rw [Option.bind_eq_some_iff] at h2
      obtain ⟨⟨b, r2⟩, h3, h4⟩ := h2
      simp only [] at h4
      split at h4
      · simp at h4; rw [← h4.1]; exact hf
      · simp at h4
theorem progT_neg (n f : Nat) (acc : List RC) (l : List UInt8) (cs : List RC) (h : progT n f acc l = some cs) (ha : ∀ c ∈ acc, c.head.neg = false) : ∀ c ∈ cs, c.head.neg = false := by
  induction f generalizing acc l with
  | zero =>
    rw [progT] at h
    split at h
    · simp at h; rw [← h]; exact ha
    · simp at h
  | succ f ih =>
    rw [progT] at h
    split at h
    · simp at h; rw [← h]; exact ha
    · rw [Option.bind_eq_some_iff] at h
      obtain ⟨⟨c, r⟩, h1, h2⟩ := h
      refine ih _ _ h2 ?_
      intro x hx
      rw [List.mem_append, List.mem_singleton] at hx
      rcases hx with h | rfl
      · exact ha x h
      · exact clauseT_neg _ _ _ _ h1
/-- What is kept of a base. -/
structure AllGood (cs : List RC) : Prop where
  good : ∀ c ∈ cs, c.Good
  wf : ∀ d ∈ cs.map RC.d, d.WF
  few : cs.length ≤ 40
theorem wf_small (c : RC) (h : c.d.WF) : c.Small := by
  have hat : ∀ x, (x = (c.head.name, c.head.ts.map RT.s) ∨ ∃ a ∈ c.body, x = (a.name, a.ts.map RT.s)) → x.1.length ≤ 12 ∧ x.2.length ≤ 3 ∧ ∀ t ∈ x.2, t.length ≤ 12 := by
    intro x hx
    refine h.words x ?_
    rcases hx with rfl | ⟨a, ha, rfl⟩
    · simp [ClD.atoms, RC.d]
    · simp only [ClD.atoms, RC.d, List.map_map, List.mem_cons, List.mem_map]
      exact .inr ⟨a, ha, rfl⟩
  have mk : ∀ a : RA, (a.name.length ≤ 12 ∧ (a.ts.map RT.s).length ≤ 3 ∧ ∀ t ∈ a.ts.map RT.s, t.length ≤ 12) → a.Small := by
    intro a ha
    exact ⟨ha.1, by simpa using ha.2.1, fun t ht => ha.2.2 t.s (List.mem_map_of_mem ht)⟩
  refine ⟨mk _ (hat _ (.inl rfl)), by simpa [RC.d] using h.lits, fun a ha => mk a (hat _ (.inr ⟨a, ha, rfl⟩))⟩
/-- By Load. -/
theorem good_load (s : ByteArray) (cs : List RC) (h : (T s.size s.data.toList).bind (PP []) = some cs) : AllGood cs := by
  have hp := program_same s
  rw [h] at hp
  obtain ⟨h1, h2⟩ := programR_wf s
  have h3 := programR_head s
  rw [hp.2] at h1 h2 h3
  have hng : ∀ c ∈ cs, c.head.neg = false := by
    rw [prog_sim s.size 40 [] _ rfl] at h
    exact progT_neg _ _ _ _ _ h (by simp)
  refine ⟨fun c hc => ⟨wf_small c (h2 c.d (List.mem_map_of_mem hc)), prog_fit s cs h c hc, hng c hc, h3 c.d (List.mem_map_of_mem hc)⟩, h2, by simpa using h1⟩
/-- By Assert. -/
theorem good_fact {s : ByteArray} {a : RA} (h : questT s = some a) : RC.Good ⟨a, []⟩ ∧ (RC.d ⟨a, []⟩).WF := by
  obtain ⟨hn, hw, hf⟩ := quest_words h
  have hsm := quest_small h
  have hps : a.ts.length ≤ 3 := hsm.few
  have hwf : (RC.d ⟨a, []⟩).WF := by
    refine ⟨rfl, by simp [RC.d], ?_, ?_⟩
    · intro x hx
      simp [ClD.atoms, RC.d] at hx
      subst hx
      exact ⟨hsm.name, by simpa using hsm.few, by intro t ht; simp at ht; obtain ⟨y, hy, rfl⟩ := ht; exact hsm.words y hy⟩
    · intro p hp
      simp [RC.d] at hp
      subst hp
      simpa using hps
  refine ⟨⟨wf_small _ hwf, ⟨hf, by simp⟩, hn, ⟨hw.1, ?_⟩⟩, hwf⟩
  intro t ht
  simp [RC.d] at ht
  obtain ⟨y, hy, rfl⟩ := ht
  exact hw.2 y hy
theorem good_assert (cs : List RC) (s : ByteArray) (h : AllGood cs) : AllGood (assertC cs s).2 := by
  unfold assertC
  split
  · exact h
  · split
    · exact h
    · rename_i a hq
      split
      · exact h
      · split
        · exact h
        · split
          · exact h
          · rename_i h40
            obtain ⟨g1, g2⟩ := good_fact hq
            refine ⟨?_, ?_, by simp; omega⟩
            · intro c hc
              simp at hc
              rcases hc with hc | rfl
              · exact h.good c hc
              · exact g1
            · intro d hd
              rw [List.map_append, List.mem_append] at hd
              rcases hd with hd | hd
              · exact h.wf d hd
              · simp at hd; rw [hd]; exact g2
theorem good_retract (cs : List RC) (s : ByteArray) (h : AllGood cs) : AllGood (retractC cs s).2 := by
  unfold retractC
  split
  · exact h
  · split
    · exact h
    · split
      · exact h
      · split
        · exact h
        · refine ⟨fun c hc => h.good c (List.mem_filter.1 hc).1, ?_, Nat.le_trans (List.length_filter_le _ _) h.few⟩
          intro d hd
          obtain ⟨c, hc, rfl⟩ := List.mem_map.1 hd
          exact h.wf _ (List.mem_map_of_mem (List.mem_filter.1 hc).1)

end Go.Proofs.YtpbfiffgcgnidaaGreatDoor

namespace Go.Proofs.YtpbfiffgcgnidaaGreatDoor

/-- No ring through a negative literal. -/
def Flat (cs : List RC) : Prop := ∀ p n, Way (edgesC cs) p p n → n = 0
theorem Way.neg {E : List Edge} {p q : List UInt8} {n : Nat} (h : Way E p q n) (hn : n ≠ 0) : ∃ e ∈ E, e.n = true ∧ (∃ m, Way E p e.h m) ∧ ∃ m, Way E e.b q m := by
  obtain ⟨k, hk⟩ := h
  induction k generalizing p n with
  | zero =>
    obtain ⟨rfl, rfl⟩ := hk
    exact absurd rfl hn
  | succ k ih =>
    obtain ⟨e, he, x, rfl, rfl, hx⟩ := hk
    cases hen : e.n with
    | true => exact ⟨e, he, hen, ⟨0, Way.nil _⟩, ⟨x, k, hx⟩⟩
    | false =>
      have hw : e.w = 0 := by unfold Edge.w; rw [hen]; rfl
      obtain ⟨y, hy, h1, ⟨m, h2⟩, h3⟩ := ih (n := x) (by omega) hx
      exact ⟨y, hy, h1, ⟨_, Way.cons e he _ _ h2⟩, h3⟩
theorem needs_closed (ds : List ClD) (p : List UInt8) : ∀ x ∈ needsR ds p, ∀ y, stepsTo ds x y → y ∈ needsR ds p := by
  refine needGo_closed ds (allNames ds p) (lit_in ds p) _ 0 (by omega) [p] ⟨by simp, ?_⟩ (by intro j hj; omega)
  intro x hx
  simp at hx
  subst hx
  simp [allNames]
theorem needs_self (ds : List ClD) (p : List UInt8) : p ∈ needsR ds p := needGo_sub ds _ _ _ p (by simp)
theorem needs_way (cs : List RC) (x : List UInt8) {p q : List UInt8} {n : Nat} (h : Way (edgesC cs) p q n) (hp : p ∈ needsR (cs.map RC.d) x) : q ∈ needsR (cs.map RC.d) x := by
  obtain ⟨k, hk⟩ := h
  induction k generalizing p n with
  | zero =>
    obtain ⟨rfl, rfl⟩ := hk
    exact hp
  | succ k ih =>
    obtain ⟨e, he, y, rfl, rfl, hy⟩ := hk
    obtain ⟨c, hc, a, ha, rfl⟩ := mem_edges.1 he
    exact ih (needs_closed _ _ _ hp _ ⟨c.d, List.mem_map.2 ⟨c, hc, rfl⟩, rfl, a.lit, List.mem_map.2 ⟨a, ha, rfl⟩, rfl⟩) hy
theorem refLits_none (cs : List RC) (c : RC) (b : List RA) (h : refLits cs c b = none) : ∀ a ∈ b, a.neg = true → c.head.name ∉ needsR (cs.map RC.d) a.name := by
  induction b with
  | nil => simp
  | cons x r ih =>
    rw [refLits] at h
    split at h
    · simp at h
    · rename_i hx
      intro a ha hn hm
      rcases List.mem_cons.1 ha with rfl | ha
      · apply hx
        rw [hn, Bool.true_and]
        unfold hasW
        exact List.contains_iff_mem.2 hm
      · exact ih h a ha hn hm
theorem refLay_none (cs l : List RC) (h : refLay cs l = none) : ∀ c ∈ l, ∀ a ∈ c.body, a.neg = true → c.head.name ∉ needsR (cs.map RC.d) a.name := by
  induction l with
  | nil => simp
  | cons x r ih =>
    rw [refLay, Option.or_eq_none_iff] at h
    intro c hc
    rcases List.mem_cons.1 hc with rfl | hc
    · exact refLits_none cs c c.body h.1
    · exact ih h.2 c hc
theorem flat_of_lay (cs : List RC) (h : refLay cs cs = none) : Flat cs := by
  intro p n hw
  apply Classical.byContradiction
  intro hn
  obtain ⟨e, he, hen, ⟨m, h1⟩, ⟨k, h2⟩⟩ := hw.neg hn
  obtain ⟨c, hc, a, ha, rfl⟩ := mem_edges.1 he
  exact refLay_none cs cs h c hc a ha hen (needs_way cs a.name (h2.trans h1) (needs_self _ _))
theorem edges_assert (cs : List RC) (s : ByteArray) : edgesC (assertC cs s).2 = edgesC cs := by
  unfold assertC
  split
  · rfl
  · split
    · rfl
    · split
      · rfl
      · split
        · rfl
        · split
          · rfl
          · simp [edgesC, RC.edges]
theorem edges_filter (cs : List RC) (x : List UInt8) : edgesC (cs.filter (otherB x)) = edgesC cs := by
  induction cs with
  | nil => rfl
  | cons c r ih =>
    rw [List.filter_cons]
    split
    · show RC.edges c ++ edgesC _ = RC.edges c ++ edgesC r
      rw [ih]
    · rename_i hc
      rw [ih]
      show edgesC r = RC.edges c ++ edgesC r
      have hb : c.body = [] := by
        unfold otherB at hc
        simp at hc
        exact hc.1
      simp [RC.edges, hb]
theorem edges_retract (cs : List RC) (s : ByteArray) : edgesC (retractC cs s).2 = edgesC cs := by
  unfold retractC
  split
  · rfl
  · split
    · rfl
    · split
      · rfl
      · split
        · rfl
        · exact edges_filter _ _
/-- What is kept of every base. -/
structure Fine (cs : List RC) : Prop extends AllGood cs where
  flat : Flat cs
theorem fine_load (s : ByteArray) (cs : List RC) (h : (T s.size s.data.toList).bind (PP []) = some cs) (hz : (refE s).1 = 0) : Fine cs := by
  refine ⟨good_load s cs h, flat_of_lay cs ?_⟩
  unfold refE at hz
  split at hz
  · simp at hz
  · rw [h] at hz
    simp only [] at hz
    split at hz
    · simp at hz
    · split at hz
      · simp at hz
      · split at hz
        · simp at hz
        · rename_i hl
          exact hl
theorem fine_assert (cs : List RC) (s : ByteArray) (h : Fine cs) : Fine (assertC cs s).2 := ⟨good_assert cs s h.toAllGood, by unfold Flat; rw [edges_assert]; exact h.flat⟩
theorem fine_retract (cs : List RC) (s : ByteArray) (h : Fine cs) : Fine (retractC cs s).2 := ⟨good_retract cs s h.toAllGood, by unfold Flat; rw [edges_retract]; exact h.flat⟩

end Go.Proofs.YtpbfiffgcgnidaaGreatDoor
