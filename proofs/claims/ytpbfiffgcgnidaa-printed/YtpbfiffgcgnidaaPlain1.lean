/-
  OUR OWN. What a text's clauses are does not hang on where they stand in it. No code here.
-/
import Derived.Test.YtpbfiffgcgnidaaKeep4
namespace Go.Proofs.Ytpbfiffgcgnidaa

def s0 : ByteArray := ⟨#[]⟩
def AtR.core (r : AtR) : Bool × List UInt8 × List (List UInt8) × List UInt8 := (r.ok, r.name, r.ts, r.rest)
theorem argsR_core (s s' : ByteArray) (n : List UInt8) (np np' f : Nat) (ts : List (List UInt8)) (ps ps' : List Nat) (l : List UInt8) : (argsR s n np f ts ps l).core = (argsR s' n np' f ts ps' l).core := by
  induction f generalizing ts ps ps' l with
  | zero => rfl
  | succ f ih =>
    unfold argsR
    split
    · rfl
    · split
      · rfl
      · split
        · rfl
        · exact ih _ _ _ _
theorem atomR_core (s s' : ByteArray) (l : List UInt8) : (atomR s l).core = (atomR s' l).core := by
  unfold atomR
  simp only []
  split
  · rfl
  · split
    · rfl
    · exact argsR_core _ _ _ _ _ _ _ _ _ _
theorem atomR_ok (s s' : ByteArray) (l : List UInt8) : (atomR s l).ok = (atomR s' l).ok := congrArg (fun c => c.1) (atomR_core s s' l)
theorem atomR_name (s s' : ByteArray) (l : List UInt8) : (atomR s l).name = (atomR s' l).name := congrArg (fun c => c.2.1) (atomR_core s s' l)
theorem atomR_ts (s s' : ByteArray) (l : List UInt8) : (atomR s l).ts = (atomR s' l).ts := congrArg (fun c => c.2.2.1) (atomR_core s s' l)
theorem atomR_rest (s s' : ByteArray) (l : List UInt8) : (atomR s l).rest = (atomR s' l).rest := congrArg (fun c => c.2.2.2) (atomR_core s s' l)
theorem litD_eq (s s' : ByteArray) (l : List UInt8) : litD s l = litD s' l := by
  unfold litD litAt
  rw [atomR_name s s', atomR_ts s s']
def BoR.core (r : BoR) : Bool × List LitD × Nat × List UInt8 := (r.ok, r.lits, r.spots.length, r.rest)
theorem litsR_core (s s' : ByteArray) (f : Nat) (ls : List LitD) (ps ps' : List SpotD) (l : List UInt8) (h : ps.length = ps'.length) : (litsR s f ls ps l).core = (litsR s' f ls ps' l).core := by
  induction f generalizing ls ps ps' l with
  | zero => simp [litsR, BoR.core, h]
  | succ f ih =>
    unfold litsR
    rw [litD_eq s s']
    unfold litAt
    rw [atomR_ok s s', atomR_rest s s']
    split
    · simp [BoR.core, h]
    · split
      · simp [BoR.core, h]
      · split
        · simp [BoR.core, h]
        · exact ih _ _ _ _ (by simp [h])
theorem bodyR_core (s s' : ByteArray) (ps ps' : List SpotD) (l : List UInt8) (h : ps.length = ps'.length) : (bodyR s ps l).core = (bodyR s' ps' l).core := by
  unfold bodyR
  split
  · simp [BoR.core, h]
  · exact litsR_core _ _ _ _ _ _ _ h
def ClD.core (d : ClD) : List UInt8 × List (List UInt8) × List LitD × Nat := (d.name, d.ts, d.lits, d.spots.length)
def ClR.core (r : ClR) : Bool × (List UInt8 × List (List UInt8) × List LitD × Nat) × List UInt8 := (r.ok, r.d.core, r.rest)
theorem clauseR_core (s s' : ByteArray) (l : List UInt8) : (clauseR s l).core = (clauseR s' l).core := by
  have hb := bodyR_core s s' [headSpot s l] [headSpot s' l] (tookL (atomR s' l).rest 58) rfl
  unfold clauseR
  rw [atomR_ok s s', atomR_rest s s', atomR_name s s', atomR_ts s s']
  simp only [BoR.core, Prod.mk.injEq] at hb
  obtain ⟨b1, b2, b3, b4⟩ := hb
  rw [b1, b2, b4]
  split
  · rfl
  · split
    · rfl
    · split
      · rfl
      · simp [ClR.core, ClR.d, ClD.core, b3]
theorem progR_core (s s' : ByteArray) (f : Nat) (ds ds' : List ClD) (l : List UInt8) (h : ds.map ClD.core = ds'.map ClD.core) :
    (progR s f ds l).ok = (progR s' f ds' l).ok ∧ (progR s f ds l).rest = (progR s' f ds' l).rest ∧ (progR s f ds l).cls.map ClD.core = (progR s' f ds' l).cls.map ClD.core := by
  induction f generalizing ds ds' l with
  | zero => unfold progR; split <;> exact ⟨rfl, rfl, h⟩
  | succ f ih =>
    have hc := clauseR_core s s' (skipL l)
    simp only [ClR.core, Prod.mk.injEq] at hc
    obtain ⟨c1, c2, c3⟩ := hc
    unfold progR
    rw [c1, c3]
    split
    · exact ⟨rfl, rfl, h⟩
    · split
      · exact ⟨rfl, rfl, h⟩
      · exact ih _ _ _ (by simp [h, c2])

/- The faults. -/
theorem zip_fst {A B C : Type} (f : A → C) (a : List A) (b : List B) : (a.zip b).map (fun x => f x.1) = (a.take b.length).map f := by
  induction a generalizing b with
  | nil => simp
  | cons x a ih => cases b with
    | nil => simp
    | cons y b => simp [ih]
def arityN : List (List UInt8) → List Nat → List (List UInt8 × Nat) → Bool
  | _, _, [] => true
  | xs, ns, (k, n) :: r => if hasW xs k = true then (if ns.getD (posIn xs k) 0 = n then arityN xs ns r else false) else arityN (xs ++ [k]) (ns ++ [n]) r
theorem arityGo_none (xs : List (List UInt8)) (ns : List Nat) (it : List (List UInt8 × Nat × Nat)) : (arityGo xs ns it).isNone = arityN xs ns (it.map fun x => (x.1, x.2.1)) := by
  induction it generalizing xs ns with
  | nil => rfl
  | cons x it ih =>
    obtain ⟨k, n, p⟩ := x
    simp only [arityGo, arityN, List.map_cons]
    split
    · split
      · exact ih _ _
      · rfl
    · exact ih _ _
def coreItems (c : List UInt8 × List (List UInt8) × List LitD × Nat) : List (List UInt8 × Nat) :=
  (((c.1, c.2.1) :: c.2.2.1.map fun l => (l.name, l.ts)).take c.2.2.2).map fun a => (a.1, a.2.length)
theorem items_core (d : ClD) : (d.items.map fun x => (x.1, x.2.1)) = coreItems d.core := by
  unfold ClD.items coreItems
  rw [List.map_map]
  exact zip_fst (fun a => (a.1, a.2.length)) d.atoms d.spots
theorem arityR_none (ds : List ClD) : (arityR ds).isNone = arityN [] [] ((ds.map ClD.core).flatMap coreItems) := by
  unfold arityR
  rw [arityGo_none, List.map_flatMap, List.flatMap_map]
  congr 1
  congr 1
  funext d
  exact items_core d

def safeB (safe : List (List UInt8)) (ts : List (List UInt8)) : Bool := ts.all fun t => !(isVar t && !hasW safe t)
theorem unTerms_none (safe : List (List UInt8)) (ps : List Nat) (k : Nat) (ts : List (List UInt8)) : (unTerms safe ps k ts).isNone = safeB safe ts := by
  induction ts generalizing k with
  | nil => rfl
  | cons t r ih =>
    simp only [unTerms]
    cases hb : (isVar t && !hasW safe t)
    · rw [if_neg (by simp), ih]; simp only [safeB, List.all_cons, hb]; rfl
    · rw [if_pos rfl]; simp only [safeB, List.all_cons, hb]; rfl
theorem or_none {A : Type} (a b : Option A) : (a.or b).isNone = (a.isNone && b.isNone) := by cases a <;> simp
theorem unAtoms_none (safe : List (List UInt8)) (z : List ((List UInt8 × List (List UInt8)) × SpotD)) : (unAtoms safe z).isNone = (z.map fun x => x.1.2).all (safeB safe) := by
  induction z with
  | nil => rfl
  | cons x z ih =>
    obtain ⟨a, sp⟩ := x
    simp only [unAtoms, or_none, unTerms_none, ih, List.map_cons, List.all_cons]
def coreSafe (c : List UInt8 × List (List UInt8) × List LitD × Nat) : Bool :=
  ((((c.1, c.2.1) :: c.2.2.1.map fun l => (l.name, l.ts)).take c.2.2.2).map fun a => a.2).all (safeB (posT c.2.2.1))
theorem openR_none (ds : List ClD) : (openR ds).isNone = (ds.map ClD.core).all coreSafe := by
  induction ds with
  | nil => rfl
  | cons d r ih =>
    simp only [openR, or_none, unAtoms_none, ih, List.map_cons, List.all_cons]
    congr 1
    rw [zip_fst (fun a : List UInt8 × List (List UInt8) => a.2)]
    rfl
theorem needStep_core (ds ds' : List ClD) (h : ds.map ClD.core = ds'.map ClD.core) : needStep ds = needStep ds' := by
  have key : ∀ (ds : List ClD) nm xs, needStep ds nm xs = (ds.map ClD.core).foldl (fun xs c => if c.1 = nm then addNames xs c.2.2.1 else xs) xs := by
    intro ds nm xs
    rw [List.foldl_map]
    rfl
  funext nm xs
  rw [key, key, h]
theorem allNames_core (ds ds' : List ClD) (h : ds.map ClD.core = ds'.map ClD.core) : allNames ds = allNames ds' := by
  have key : ∀ (ds : List ClD) nm, allNames ds nm = nm :: (ds.map ClD.core).flatMap (fun c => c.2.2.1.map fun l => l.name) := by
    intro ds nm
    rw [List.flatMap_map]
    rfl
  funext nm
  rw [key, key, h]
theorem needsR_core (ds ds' : List ClD) (h : ds.map ClD.core = ds'.map ClD.core) : needsR ds = needsR ds' := by
  have hg : ∀ f i xs, needGo ds f i xs = needGo ds' f i xs := by
    intro f
    induction f with
    | zero => intro i xs; rfl
    | succ f ih => intro i xs; unfold needGo; rw [needStep_core ds ds' h]; split <;> simp [ih]
  funext nm
  unfold needsR
  rw [allNames_core ds ds' h]
  exact hg _ _ _
def layB (N : List UInt8 → List (List UInt8)) (c : List UInt8 × List (List UInt8) × List LitD × Nat) : Bool := c.2.2.1.all fun l => !(l.neg && hasW (N l.name) c.1)
theorem layLits_none (ds : List ClD) (d : ClD) (i : Nat) (ls : List LitD) : (layLits ds d i ls).isNone = ls.all fun l => !(l.neg && hasW (needsR ds l.name) d.name) := by
  induction ls generalizing i with
  | nil => rfl
  | cons l r ih =>
    simp only [layLits]
    cases hb : (l.neg && hasW (needsR ds l.name) d.name)
    · rw [if_neg (by simp), ih]; simp only [List.all_cons, hb]; rfl
    · rw [if_pos rfl]; simp only [List.all_cons, hb]; rfl
theorem layGo_none (ds xs : List ClD) : (layGo ds xs).isNone = (xs.map ClD.core).all (layB (needsR ds)) := by
  induction xs with
  | nil => rfl
  | cons d r ih => simp only [layGo, or_none, layLits_none, ih, List.map_cons, List.all_cons]; rfl
/-- No fault at all. -/
def sound (ds : List ClD) : Bool := (arityN [] [] ((ds.map ClD.core).flatMap coreItems) && (ds.map ClD.core).all coreSafe) && (ds.map ClD.core).all (layB (needsR ds))
theorem sound_core (ds ds' : List ClD) (h : ds.map ClD.core = ds'.map ClD.core) : sound ds = sound ds' := by
  unfold sound
  rw [h, needsR_core ds ds' h]
theorem faultR_sound (ds : List ClD) (h : sound ds = true) : faultR ds = (0, 0) := by
  unfold sound at h
  simp only [Bool.and_eq_true] at h
  obtain ⟨⟨h1, h2⟩, h3⟩ := h
  rw [← arityR_none] at h1
  rw [← openR_none] at h2
  rw [← layGo_none] at h3
  unfold faultR layersR
  rw [Option.isNone_iff_eq_none] at h1 h2 h3
  rw [h1, h2, h3]

theorem shown_core (ds ds' : List ClD) (h : ds.map ClD.core = ds'.map ClD.core) : shownAll ds = shownAll ds' := by
  have key : ∀ (ds : List ClD), shownAll ds = (ds.map ClD.core).flatMap (fun c => (showA c.1 c.2.1 ++ showB 0 c.2.2.1 ++ [46]) ++ [10]) := by
    intro ds
    rw [List.flatMap_map]
    rfl
  rw [key, key, h]

end Go.Proofs.Ytpbfiffgcgnidaa
