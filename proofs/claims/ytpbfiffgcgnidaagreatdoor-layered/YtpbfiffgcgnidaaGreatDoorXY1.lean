/-
  OUR OWN. The first negative literal in a ring.
-/
import Derived.Test.YtpbfiffgcgnidaaGreatDoorXN1
import Derived.Deep.CutRange
namespace Go.Proofs.YtpbfiffgcgnidaaGreatDoor
open Go.RowKit Go.WideMaps Go.Maps
attribute [local go_sem] drewN_alloc drewN_setCell

def layLits (ds : List ClD) (d : ClD) : Nat → List LitD → Option Nat
  | _, [] => none
  | i, l :: r => if (l.neg && hasW (needsR ds l.name) d.name) = true then some ((d.spots.map fun s => s.mark).getD (1 + i) 0) else layLits ds d (i + 1) r
def layGo (ds : List ClD) : List ClD → Option Nat
  | [] => none
  | d :: r => (layLits ds d 0 d.lits).or (layGo ds r)
def layersR (ds : List ClD) : Option Nat := layGo ds ds

theorem PlacedIs.below {w w' : World} {base : Nat} {d : ClD} {cs : List Value} (h : PlacedIs w base d cs) (hb : Below w.heap.size w w') : PlacedIs w' base d cs := by
  obtain ⟨bv, sv, hc, hl, hs⟩ := h
  exact ⟨bv, sv, hc, own_below hl hb, own_below hs hb⟩
theorem ProgIs.below {w w' : World} {base : Nat} {v : Value} {ds : List ClD} (h : ProgIs w base v ds) (hb : Below w.heap.size w w') : ProgIs w' base v ds := by
  obtain ⟨rows, ho, hl, hr⟩ := h
  exact ⟨rows, own_below ho hb, hl, fun i d cs hd hc => (hr i d cs hd hc).below hb⟩

set_option maxHeartbeats 4000000 in
set_option maxRecDepth 100000 in
theorem layers_c (w : World) (base : Nat) (ao : Option Addr) (cap : Nat) (ds : List ClD) (hP : ProgIs w base (.slice ao ds.length cap) ds) (hW : ∀ d ∈ ds, d.WF) (hn : ds.length ≤ 40) :
    Calls Tryz.prog 60 #[.slice ao ds.length cap] w fun e w' => e = .returned (foundV (layersR ds)) ∧ Below w.heap.size w w' := by
  go_enter Tryz.func60, Tryz.ntmps60
  go_wp2
  go_loopw [10] (fun i wr => ∃ (k : Nat), k ≤ ds.length ∧ i = .int .i64 k ∧ Hid (layGo ds (ds.drop k) = layersR ds) ∧ Below w.heap.size w wr) (fun i _ => ds.length - (intOf i).toNat)
  case atStart => exact ⟨0, by omega, rfl, rfl, Below.refl _ _⟩
  case round =>
    obtain ⟨k, hk, rfl, HX, hB⟩ := hrel
    by_cases hlt : k < ds.length
    · obtain ⟨g, bo, bcap, so, scap, hao, hg, e0, e1, e2, e3, e4, e5, e6, hLb, hSp⟩ := placed_at hP k hlt
      subst hao
      have hwf := hW ds[k] (List.getElem_mem hlt)
      have HD : Hid (layGo ds (ds.drop k) = (layLits ds ds[k] 0 ds[k].lits).or (layGo ds (ds.drop (k + 1)))) := by
        show layGo ds (ds.drop k) = _
        rw [List.drop_eq_getElem_cons hlt]; rfl
      have hnm0 : ds[k].nm = bs ds[k].name := rfl
      rw [hnm0] at e0
      generalize hdk : ds[k] = d at *
      clear hdk hnm0
      have hbw : w.heap.size ≤ wr.heap.size := hB.size
      have hl4 := hwf.lits
      have HSL := hid hwf.spots
      have hdn := (hwf.words (d.name, d.ts) (by simp [ClD.atoms])).1
      rw [← hB.cell (p := ⟨g, k * 7, none⟩) hg] at e0
      rw [← hB.cell (p := ⟨g, k * 7 + 1, none⟩) hg] at e1
      rw [← hB.cell (p := ⟨g, k * 7 + 2, none⟩) hg] at e2
      rw [← hB.cell (p := ⟨g, k * 7 + 3, none⟩) hg] at e3
      rw [← hB.cell (p := ⟨g, k * 7 + 4, none⟩) hg] at e4
      rw [← hB.cell (p := ⟨g, k * 7 + 5, none⟩) hg] at e5
      rw [← hB.cell (p := ⟨g, k * 7 + 6, none⟩) hg] at e6
      have hbx0 := Blk.new wr [Value.string (bs d.name), .int .i64 d.cn, .string (d.t 0), .string (d.t 1), .string (d.t 2), .slice bo d.lits.length bcap, .slice so d.spots.length scap] 117
      have hB0 := hB.alloc hbw (.cells #[Value.string (bs d.name), .int .i64 d.cn, .string (d.t 0), .string (d.t 1), .string (d.t 2), .slice bo d.lits.length bcap, .slice so d.spots.length scap] 117)
      go_wp2_with fail
      clear e0 e1 e2 e3 e4 e5 e6 hB
      generalize wr.heap.size = R at *
      go_loopw [18] (fun jv wq => ∃ (j : Nat), j ≤ d.lits.length ∧ jv = .int .i64 j ∧ Hid ((layLits ds d j (d.lits.drop j)).or (layGo ds (ds.drop (k + 1))) = layersR ds) ∧ Blk wq R [Value.string (bs d.name), .int .i64 d.cn, .string (d.t 0), .string (d.t 1), .string (d.t 2), .slice bo d.lits.length bcap, .slice so d.spots.length scap] 117 ∧ Below w.heap.size w wq) (fun jv _ => d.lits.length - (intOf jv).toNat)
      case atStart =>
        refine ⟨0, by omega, rfl, ?_, hbx0, hB0⟩
        show _ = _
        rw [← HX.out, HD.out]; rfl
      case round =>
        clear hbx0 hB0
        obtain ⟨j, hj, rfl, HY, hbx, hB⟩ := hrel
        have hbw1 : R < wr.heap.size := hbx.lt
        have hbw2 : w.heap.size ≤ wr.heap.size := hB.size
        by_cases hjl : j < d.lits.length
        · obtain ⟨g0, hao, hg0, l0, l1, l2, l3, l4, l5⟩ := lits_at (own_below hLb hB) j hjl
          subst hao
          have hdj := List.drop_eq_getElem_cons hjl
          have hln := (hwf.words (d.lits[j].name, d.lits[j].ts) (by simp only [ClD.atoms, List.mem_cons, List.mem_map]; exact .inr ⟨d.lits[j], List.getElem_mem hjl, rfl⟩)).1
          have hlnm : d.lits[j].nm = bs d.lits[j].name := rfl
          rw [hlnm] at l0
          generalize hlk : d.lits[j] = L at *
          have HDJ := hid hdj
          clear hlk hlnm hdj
          have hlx := Blk.new wr [Value.string (bs L.name), .int .i64 L.cn, .string (L.t 0), .string (L.t 1), .string (L.t 2), .bool L.neg] 186
          cases hng : L.neg
          · have HN : Hid ((layLits ds d (j + 1) (d.lits.drop (j + 1))).or (layGo ds (ds.drop (k + 1))) = layersR ds) := by
              show _ = _
              rw [← HY.out, HDJ.out]; simp [layLits, hng]
            rw [hng] at l5
            go_wp2_with fail
            exact ⟨⟨j + 1, hjl, by go_num, HN, hbx.alloc _, hB.alloc hbw2 _⟩, by simp [intOf]; omega⟩
          · rw [hng] at l5 hlx
            obtain ⟨f0, f1, f2, f3, f4, f5, f6⟩ := hbx.c7
            have hrw : R < wr.heap.size + 1 := by omega
            have hP1 := (hP.below hB).alloc (.cells #[Value.string (bs L.name), .int .i64 L.cn, .string (L.t 0), .string (L.t 1), .string (L.t 2), .bool true] 186)
            go_wp2_with fail
            obtain ⟨hb, hhb⟩ : ∃ hb, hasW (needsR ds L.name) d.name = hb := ⟨_, rfl⟩
            go_cut [35] from 19 to 43 (fun q wx => q = .bool hb ∧ Blk wx R [Value.string (bs d.name), .int .i64 d.cn, .string (d.t 0), .string (d.t 1), .string (d.t 2), .slice (some ⟨g0, 0, none⟩) d.lits.length bcap, .slice so d.spots.length scap] 117 ∧ Below w.heap.size w wx)
            case first =>
              go_region_with (first
                | (go_at_call 96; refine (needs_c _ base _ cap ds L.name (by exact hP1) hW hn (by omega)).mono ?_; rintro e w2 ⟨tb, mv, lv, rfl, htb, hC2, hS2, hB2⟩; have hbx2 := (hbx.alloc _).drew.below hB2; have hBB2 := (hB.alloc hbw2 _).drew.trans (hB2.mono (by simp; omega)); obtain ⟨h0, h1, h2, h3, h4, h5, h6⟩ := hbx2.c7)
                | (go_at_call 95; refine (has_c _ _ tb mv lv [] 178 (needsR ds L.name) d.name (by exact hC2) (by exact hS2) (by unfold maxLen; omega)).mono ?_; rintro e w3 ⟨he, rfl⟩; rw [hhb] at he; subst he))
              all_goals go_wp2_with fail
              all_goals go_meet
              all_goals exact ⟨rfl, hbx2, hBB2⟩
            case rest =>
              clear f0 f1 f2 f3 f4 f5 f6 hlx hP1 hbx hB hbw1 hbw2 hrw
              obtain ⟨rfl, hbx, hB⟩ := hcut
              cases hb
              · have HN : Hid ((layLits ds d (j + 1) (d.lits.drop (j + 1))).or (layGo ds (ds.drop (k + 1))) = layersR ds) := by
                  show _ = _
                  rw [← HY.out, HDJ.out]; simp [layLits, hng, hhb]
                clear hhb
                go_wp2_with fail
                exact ⟨⟨j + 1, hjl, by go_num, HN, hbx, hB⟩, by simp [intOf]; omega⟩
              · have hjs : 1 + j < d.spots.length := by rw [HSL.out]; omega
                have HE : Hid (layersR ds = some (d.spots[1 + j]).mark) := by
                  show _ = _
                  rw [← HY.out, HDJ.out]; simp [layLits, hng, hhb, hjs]
                obtain ⟨gs, hso, hgs, s0, s1, s2, s3, s4⟩ := spot_at hSp (1 + j) hjs
                subst hso
                rw [← hB.cell (p := ⟨gs, (1 + j) * 5, none⟩) hgs] at s0
                obtain ⟨q, hq⟩ : ∃ q : Nat, (d.spots[1 + j]).mark = q := ⟨_, rfl⟩
                rw [hq] at s0 HE
                clear hq hhb s1 s2 s3 s4
                obtain ⟨f0, f1, f2, f3, f4, f5, f6⟩ := hbx.c7
                go_wp2_with fail
                go_ret2
                rw [HE.out]
                exact ⟨rfl, hB⟩
        · have HN : Hid (layGo ds (ds.drop (k + 1)) = layersR ds) := by
            show _ = _
            rw [← HY.out, show d.lits.drop j = [] from List.drop_of_length_le (by omega)]; simp [layLits]
          go_wp2
          exact ⟨⟨k + 1, hlt, by go_num, HN, hB⟩, by simp [intOf]; omega⟩
    · have hke : k = ds.length := by omega
      have HE : Hid (layersR ds = none) := by
        show layersR ds = none
        rw [← HX.out, hke, List.drop_length]; rfl
      clear hke
      go_wp2
      go_ret2
      rw [HE.out]
      exact ⟨rfl, hB⟩

end Go.Proofs.YtpbfiffgcgnidaaGreatDoor

namespace Go.Proofs.YtpbfiffgcgnidaaGreatDoor
open Go.RowKit Go.WideMaps Go.Maps

/-- The error and its place. -/
def faultR (ds : List ClD) : Nat × Nat :=
  match arityR ds with
  | some p => (3, p)
  | none => match openR ds with
    | some p => (4, p)
    | none => match layersR ds with
      | some p => (5, p)
      | none => (0, 0)

set_option maxHeartbeats 1000000 in
theorem findFault_c (w : World) (base : Nat) (ao : Option Addr) (cap : Nat) (ds : List ClD) (hP : ProgIs w base (.slice ao ds.length cap) ds) (hW : ∀ d ∈ ds, d.WF) (hn : ds.length ≤ 40) :
    Calls Tryz.prog 26 #[.slice ao ds.length cap] w fun e w' => e = .returned (.tuple #[.int .i64 (faultR ds).1, .int .i64 (faultR ds).2]) ∧ Below w.heap.size w w' := by
  cases h1 : arityR ds with
  | some p =>
    have HE := hid (show faultR ds = (3, p) by simp [faultR, h1])
    go_enter Tryz.func26, Tryz.ntmps26
    go_wp2_with (go_at_call 58; refine (arity_c _ base ao cap ds (by exact hP) hW hn).mono ?_; rintro e w1 ⟨he, hB1⟩; rw [h1] at he; simp only [foundV] at he; subst he)
    go_ret2
    rw [HE.out]
    exact ⟨rfl, hB1⟩
  | none =>
    cases h2 : openR ds with
    | some p =>
      have HE := hid (show faultR ds = (4, p) by simp [faultR, h1, h2])
      go_enter Tryz.func26, Tryz.ntmps26
      go_wp2_with (first
        | (go_at_call 58; refine (arity_c _ base ao cap ds (by exact hP) hW hn).mono ?_; rintro e w1 ⟨he, hB1⟩; rw [h1] at he; simp only [foundV] at he; subst he)
        | (go_at_call 59; refine (open_c _ base ao cap ds (by exact hP.below hB1) hW hn).mono ?_; rintro e w2 ⟨he, hB2⟩; rw [h2] at he; simp only [foundV] at he; subst he))
      go_ret2
      rw [HE.out]
      exact ⟨rfl, hB1.trans (hB2.mono hB1.size)⟩
    | none =>
      cases h3 : layersR ds with
      | some p =>
        have HE := hid (show faultR ds = (5, p) by simp [faultR, h1, h2, h3])
        go_enter Tryz.func26, Tryz.ntmps26
        go_wp2_with (first
          | (go_at_call 58; refine (arity_c _ base ao cap ds (by exact hP) hW hn).mono ?_; rintro e w1 ⟨he, hB1⟩; rw [h1] at he; simp only [foundV] at he; subst he)
          | (go_at_call 59; refine (open_c _ base ao cap ds (by exact hP.below hB1) hW hn).mono ?_; rintro e w2 ⟨he, hB2⟩; rw [h2] at he; simp only [foundV] at he; subst he)
          | (go_at_call 60; refine (layers_c _ base ao cap ds (by exact (hP.below hB1).below hB2) hW hn).mono ?_; rintro e w3 ⟨he, hB3⟩; rw [h3] at he; simp only [foundV] at he; subst he))
        go_ret2
        rw [HE.out]
        exact ⟨rfl, (hB1.trans (hB2.mono hB1.size)).trans (hB3.mono (Nat.le_trans hB1.size hB2.size))⟩
      | none =>
        have HE := hid (show faultR ds = (0, 0) by simp [faultR, h1, h2, h3])
        go_enter Tryz.func26, Tryz.ntmps26
        go_wp2_with (first
          | (go_at_call 58; refine (arity_c _ base ao cap ds (by exact hP) hW hn).mono ?_; rintro e w1 ⟨he, hB1⟩; rw [h1] at he; simp only [foundV] at he; subst he)
          | (go_at_call 59; refine (open_c _ base ao cap ds (by exact hP.below hB1) hW hn).mono ?_; rintro e w2 ⟨he, hB2⟩; rw [h2] at he; simp only [foundV] at he; subst he)
          | (go_at_call 60; refine (layers_c _ base ao cap ds (by exact (hP.below hB1).below hB2) hW hn).mono ?_; rintro e w3 ⟨he, hB3⟩; rw [h3] at he; simp only [foundV] at he; subst he))
        go_ret2
        rw [HE.out]
        exact ⟨rfl, (hB1.trans (hB2.mono hB1.size)).trans (hB3.mono (Nat.le_trans hB1.size hB2.size))⟩

end Go.Proofs.YtpbfiffgcgnidaaGreatDoor

namespace Go.Proofs.YtpbfiffgcgnidaaGreatDoor

structure AtR.WF (r : AtR) : Prop where
  name : r.name.length ≤ 12
  ts : r.ts.length ≤ 3
  words : ∀ t ∈ r.ts, t.length ≤ 12
  ps : r.ps.length ≤ 3
theorem take_wlen (fits : Int → Bool) (m : List UInt8) : (m.take (wlen fits 12 m)).length ≤ 12 := by
  have := (wlen_le fits 12 m).2
  simp; omega
theorem termW_le (l : List UInt8) : (termW l).length ≤ 12 := by
  unfold termW termN
  split
  · exact take_wlen _ _
  · split
    · exact take_wlen _ _
    · simp
theorem argsR_wf (s : ByteArray) (name : List UInt8) (np : Nat) (hn : name.length ≤ 12) : ∀ (f : Nat) (ts : List (List UInt8)) (ps : List Nat) (l : List UInt8), ts.length + f ≤ 3 → ps.length + f ≤ 3 → (∀ t ∈ ts, t.length ≤ 12) → (argsR s name np f ts ps l).WF := by
  intro f
  induction f with
  | zero => intro ts ps l h1 h2 h3; exact ⟨hn, h1, h3, h2⟩
  | succ f ih =>
    intro ts ps l h1 h2 h3
    have h4 : ∀ t ∈ ts ++ [termW l], t.length ≤ 12 := by
      intro t ht; simp at ht; rcases ht with ht | rfl
      · exact h3 t ht
      · exact termW_le l
    have h5 : (ts ++ [termW l]).length + f ≤ 3 := by simp; omega
    have h6 : (ps ++ [posOf s (skipL l)]).length + f ≤ 3 := by simp; omega
    unfold argsR
    split
    · exact ⟨by simp, by simp, by simp, by simp⟩
    · split
      · exact ⟨hn, by simp only []; omega, h4, by simp only []; omega⟩
      · split
        · exact ⟨hn, by simp only []; omega, h4, by simp only []; omega⟩
        · exact ih _ _ _ h5 h6 h4
theorem atomR_wf (s : ByteArray) (l : List UInt8) : (atomR s l).WF := by
  unfold atomR
  dsimp only
  split
  · exact ⟨by simp, by simp, by simp, by simp⟩
  · split
    · exact ⟨take_wlen _ _, by simp, by simp, by simp⟩
    · exact argsR_wf s _ _ (take_wlen _ _) 3 [] [] _ (by simp) (by simp) (by simp)

/-- A literal and its spot. -/
def LitD.ok (d : LitD) : Prop := d.name.length ≤ 12 ∧ d.ts.length ≤ 3 ∧ ∀ t ∈ d.ts, t.length ≤ 12
def SpotD.ok (d : SpotD) : Prop := d.ps.length ≤ 3
theorem litD_ok (s : ByteArray) (l : List UInt8) : (litD s l).ok ∧ (spotD s l).ok :=
  let h := atomR_wf s (tookL l 33)
  ⟨⟨h.name, h.ts, h.words⟩, h.ps⟩
structure BoR.WF (r : BoR) (n m : Nat) : Prop where
  lits : r.lits.length ≤ 4
  spots : r.spots.length + n = r.lits.length + m
  lok : ∀ l ∈ r.lits, l.ok
  sok : ∀ p ∈ r.spots, p.ok
theorem litsR_wf (s : ByteArray) : ∀ (f : Nat) (ls : List LitD) (ps : List SpotD) (l : List UInt8), ls.length + f ≤ 4 → (∀ d ∈ ls, d.ok) → (∀ p ∈ ps, p.ok) → (litsR s f ls ps l).WF ls.length ps.length := by
  intro f
  induction f with
  | zero => intro ls ps l h1 h2 h3; exact ⟨h1, by simp [litsR]; omega, h2, h3⟩
  | succ f ih =>
    intro ls ps l h1 h2 h3
    have h4 : ∀ d ∈ ls ++ [litD s l], d.ok := by
      intro d hd; simp at hd; rcases hd with hd | rfl
      · exact h2 d hd
      · exact (litD_ok s l).1
    have h5 : ∀ p ∈ ps ++ [spotD s l], p.ok := by
      intro p hp; simp at hp; rcases hp with hp | rfl
      · exact h3 p hp
      · exact (litD_ok s l).2
    unfold litsR
    split
    · exact ⟨by simp only []; omega, by simp only []; omega, h2, h3⟩
    · split
      · exact ⟨by simp; omega, by simp; omega, h4, h5⟩
      · split
        · exact ⟨by simp; omega, by simp; omega, h4, h5⟩
        · have := ih (ls ++ [litD s l]) (ps ++ [spotD s l]) (tookL (litAt s l).rest 44) (by simp; omega) h4 h5
          exact ⟨this.lits, by have h := this.spots; simp at h; omega, this.lok, this.sok⟩
theorem bodyR_wf (s : ByteArray) (p : SpotD) (l : List UInt8) (hp : p.ok) : (bodyR s [p] l).WF 0 1 := by
  unfold bodyR
  split
  · exact ⟨by simp, by simp, by simp, by simpa using hp⟩
  · exact litsR_wf s 4 [] [p] l.tail (by simp) (by simp) (by simpa using hp)
theorem clauseR_wf (s : ByteArray) (l : List UInt8) (hok : (clauseR s l).ok = true) : (clauseR s l).d.WF := by
  have hA := atomR_wf s l
  have hH : (headSpot s l).ok := hA.ps
  have mk : ∀ (lits : List LitD) (spots : List SpotD), lits.length ≤ 4 → spots.length = lits.length + 1 → (∀ d ∈ lits, d.ok) → (∀ p ∈ spots, p.ok) → ClD.WF ⟨(atomR s l).name, (atomR s l).ts, lits, spots⟩ := by
    intro lits spots h1 h2 h3 h4
    refine ⟨h2, h1, ?_, h4⟩
    intro a ha
    simp only [ClD.atoms, List.mem_cons, List.mem_map] at ha
    rcases ha with rfl | ⟨d, hd, rfl⟩
    · exact ⟨hA.name, hA.ts, hA.words⟩
    · exact h3 d hd
  unfold clauseR at hok ⊢
  split at hok
  · simp at hok
  · next h1 =>
    split at hok
    · next h2 =>
      rw [if_neg h1, if_pos h2]
      exact mk [] [headSpot s l] (by simp) (by simp) (by simp) (by simpa using hH)
    · next h2 =>
      split at hok
      · simp at hok
      · next h3 =>
        rw [if_neg h1, if_neg h2, if_neg h3]
        have hB := bodyR_wf s (headSpot s l) (tookL (atomR s l).rest 58) hH
        exact mk _ _ hB.lits (by have := hB.spots; omega) hB.lok hB.sok
theorem progR_wf (s : ByteArray) : ∀ (f : Nat) (ds : List ClD) (l : List UInt8), ds.length + f ≤ 40 → (∀ d ∈ ds, d.WF) → (progR s f ds l).cls.length ≤ 40 ∧ ∀ d ∈ (progR s f ds l).cls, d.WF := by
  intro f
  induction f with
  | zero => intro ds l h1 h2; unfold progR; split <;> exact ⟨h1, h2⟩
  | succ f ih =>
    intro ds l h1 h2
    unfold progR
    split
    · exact ⟨by simp only []; omega, h2⟩
    · split
      · exact ⟨by simp only []; omega, h2⟩
      · next hok =>
        refine ih _ _ (by simp; omega) ?_
        intro d hd
        simp at hd
        rcases hd with hd | rfl
        · exact h2 d hd
        · exact clauseR_wf s _ (by simpa using hok)
theorem programR_wf (s : ByteArray) : (programR s).cls.length ≤ 40 ∧ ∀ d ∈ (programR s).cls, d.WF := progR_wf s 40 [] _ (by simp) (by simp)

end Go.Proofs.YtpbfiffgcgnidaaGreatDoor
