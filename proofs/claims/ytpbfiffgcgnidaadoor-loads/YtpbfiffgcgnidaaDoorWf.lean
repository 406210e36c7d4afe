/-
  OUR OWN. What is read is well formed: plain.
-/
import Derived.Test.YtpbfiffgcgnidaaDoorFault
namespace Go.Proofs.YtpbfiffgcgnidaaDoor

structure AtR.WF (r : AtR) : Prop where
  name : r.name.length ≤ 12
  ts : r.ts.length ≤ 3
  words : ∀ t ∈ r.ts, t.length ≤ 12
  ps : r.ps.length ≤ 3
theorem take_wlen (fits : Int → Bool) (m : List UInt8) : (m.take (wlen fits 12 m)).length ≤ 12 := by
  have := (wlen_le fits 12 m).2
  simp; omega
theorem termW_le (l : List UInt8) : (termW l).length ≤ 12 := by
  unfold termW termN
  split
  · exact take_wlen _ _
  · split
    · exact take_wlen _ _
    · simp
theorem argsR_wf (s : ByteArray) (name : List UInt8) (np : Nat) (hn : name.length ≤ 12) : ∀ (f : Nat) (ts : List (List UInt8)) (ps : List Nat) (l : List UInt8), ts.length + f ≤ 3 → ps.length + f ≤ 3 → (∀ t ∈ ts, t.length ≤ 12) → (argsR s name np f ts ps l).WF := by
  intro f
  induction f with
  | zero => intro ts ps l h1 h2 h3; exact ⟨hn, h1, h3, h2⟩
  | succ f ih =>
    intro ts ps l h1 h2 h3
    have h4 : ∀ t ∈ ts ++ [termW l], t.length ≤ 12 := by
      intro t ht; simp at ht; rcases ht with ht | rfl
      · exact h3 t ht
      · exact termW_le l
    have h5 : (ts ++ [termW l]).length + f ≤ 3 := by simp; omega
    have h6 : (ps ++ [posOf s (skipL l)]).length + f ≤ 3 := by simp; omega
    unfold argsR
    split
    · exact ⟨by simp, by simp, by simp, by simp⟩
    · split
      · exact ⟨hn, by simp only []; omega, h4, by simp only []; omega⟩
      · split
        · exact ⟨hn, by simp only []; omega, h4, by simp only []; omega⟩
        · exact ih _ _ _ h5 h6 h4
theorem atomR_wf (s : ByteArray) (l : List UInt8) : (atomR s l).WF := by
  unfold atomR
  dsimp only
  split
  · exact ⟨by simp, by simp, by simp, by simp⟩
  · split
    · exact ⟨take_wlen _ _, by simp, by simp, by simp⟩
    · exact argsR_wf s _ _ (take_wlen _ _) 3 [] [] _ (by simp) (by simp) (by simp)

/-- A literal and its spot. -/
def LitD.ok (d : LitD) : Prop := d.name.length ≤ 12 ∧ d.ts.length ≤ 3 ∧ ∀ t ∈ d.ts, t.length ≤ 12
def SpotD.ok (d : SpotD) : Prop := d.ps.length ≤ 3
theorem litD_ok (s : ByteArray) (l : List UInt8) : (litD s l).ok ∧ (spotD s l).ok :=
  let h := atomR_wf s (tookL l 33)
  ⟨⟨h.name, h.ts, h.words⟩, h.ps⟩
structure BoR.WF (r : BoR) (n m : Nat) : Prop where
  lits : r.lits.length ≤ 4
  spots : r.spots.length + n = r.lits.length + m
  lok : ∀ l ∈ r.lits, l.ok
  sok : ∀ p ∈ r.spots, p.ok
theorem litsR_wf (s : ByteArray) : ∀ (f : Nat) (ls : List LitD) (ps : List SpotD) (l : List UInt8), ls.length + f ≤ 4 → (∀ d ∈ ls, d.ok) → (∀ p ∈ ps, p.ok) → (litsR s f ls ps l).WF ls.length ps.length := by
  intro f
  induction f with
  | zero => intro ls ps l h1 h2 h3; exact ⟨h1, by simp [litsR]; omega, h2, h3⟩
  | succ f ih =>
    intro ls ps l h1 h2 h3
    have h4 : ∀ d ∈ ls ++ [litD s l], d.ok := by
      intro d hd; simp at hd; rcases hd with hd | rfl
      · exact h2 d hd
      · exact (litD_ok s l).1
    have h5 : ∀ p ∈ ps ++ [spotD s l], p.ok := by
      intro p hp; simp at hp; rcases hp with hp | rfl
      · exact h3 p hp
      · exact (litD_ok s l).2
    unfold litsR
    split
    · exact ⟨by simp only []; omega, by simp only []; omega, h2, h3⟩
    · split
      · exact ⟨by simp; omega, by simp; omega, h4, h5⟩
      · split
        · exact ⟨by simp; omega, by simp; omega, h4, h5⟩
        · have := ih (ls ++ [litD s l]) (ps ++ [spotD s l]) (tookL (litAt s l).rest 44) (by simp; omega) h4 h5
          exact ⟨this.lits, by have h := this.spots; simp at h; omega, this.lok, this.sok⟩
theorem bodyR_wf (s : ByteArray) (p : SpotD) (l : List UInt8) (hp : p.ok) : (bodyR s [p] l).WF 0 1 := by
  unfold bodyR
  split
  · exact ⟨by simp, by simp, by simp, by simpa using hp⟩
  · exact litsR_wf s 4 [] [p] l.tail (by simp) (by simp) (by simpa using hp)
theorem clauseR_wf (s : ByteArray) (l : List UInt8) (hok : (clauseR s l).ok = true) : (clauseR s l).d.WF := by
  have hA := atomR_wf s l
  have hH : (headSpot s l).ok := hA.ps
  have mk : ∀ (lits : List LitD) (spots : List SpotD), lits.length ≤ 4 → spots.length = lits.length + 1 → (∀ d ∈ lits, d.ok) → (∀ p ∈ spots, p.ok) → ClD.WF ⟨(atomR s l).name, (atomR s l).ts, lits, spots⟩ := by
    intro lits spots h1 h2 h3 h4
    refine ⟨h2, h1, ?_, h4⟩
    intro a ha
    simp only [ClD.atoms, List.mem_cons, List.mem_map] at ha
    rcases ha with rfl | ⟨d, hd, rfl⟩
    · exact ⟨hA.name, hA.ts, hA.words⟩
    · exact h3 d hd
  unfold clauseR at hok ⊢
  split at hok
  · simp at hok
  · next h1 =>
    split at hok
    · next h2 =>
      rw [if_neg h1, if_pos h2]
      exact mk [] [headSpot s l] (by simp) (by simp) (by simp) (by simpa using hH)
    · next h2 =>
      split at hok
      · simp at hok
      · next h3 =>
        rw [if_neg h1, if_neg h2, if_neg h3]
        have hB := bodyR_wf s (headSpot s l) (tookL (atomR s l).rest 58) hH
        exact mk _ _ hB.lits (by have := hB.spots; omega) hB.lok hB.sok
theorem progR_wf (s : ByteArray) : ∀ (f : Nat) (ds : List ClD) (l : List UInt8), ds.length + f ≤ 40 → (∀ d ∈ ds, d.WF) → (progR s f ds l).cls.length ≤ 40 ∧ ∀ d ∈ (progR s f ds l).cls, d.WF := by
  intro f
  induction f with
  | zero => intro ds l h1 h2; unfold progR; split <;> exact ⟨h1, h2⟩
  | succ f ih =>
    intro ds l h1 h2
    unfold progR
    split
    · exact ⟨by simp only []; omega, h2⟩
    · split
      · exact ⟨by simp only []; omega, h2⟩
      · next hok =>
        refine ih _ _ (by simp; omega) ?_
        intro d hd
        simp at hd
        rcases hd with hd | rfl
        · exact h2 d hd
        · exact clauseR_wf s _ (by simpa using hok)
theorem programR_wf (s : ByteArray) : (programR s).cls.length ≤ 40 ∧ ∀ d ∈ (programR s).cls, d.WF := progR_wf s 40 [] _ (by simp) (by simp)

end Go.Proofs.YtpbfiffgcgnidaaDoor
