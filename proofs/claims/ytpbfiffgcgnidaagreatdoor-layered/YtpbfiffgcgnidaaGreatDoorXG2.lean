/-
  OUR OWN. The program's Layer: all names.
-/
import Derived.Test.YtpbfiffgcgnidaaGreatDoorXP2
import Derived.Test.YtpbfiffgcgnidaaGreatDoorXN1
import Derived.Test.YtpbfiffgcgnidaaGreatDoorXG1
import Derived.Test.YtpbfiffgcgnidaaGreatDoorXY2
import Derived.Test.YtpbfiffgcgnidaaGreatDoorXW4
namespace Go.Proofs.YtpbfiffgcgnidaaGreatDoor
open Go.RowKit Go.WideMaps Go.Maps
attribute [local go_sem] drewN_alloc drewN_setCell

def ClD.heads (d : ClD) : List (List UInt8) := d.atoms.map fun a => a.1
def addAll (xs : List (List UInt8)) (l : List (List UInt8)) : List (List UInt8) := l.foldl addW xs
def namesD (ds : List ClD) : List (List UInt8) := addAll [] (ds.flatMap ClD.heads)
theorem heads_at (d : ClD) (j : Nat) (h : j < d.atoms.length) : d.heads.drop j = d.atoms[j].1 :: d.heads.drop (j + 1) := by
  have hl : j < d.heads.length := by simpa [ClD.heads] using h
  rw [List.drop_eq_getElem_cons hl]
  simp [ClD.heads]

set_option maxHeartbeats 4000000 in
set_option maxRecDepth 100000 in
theorem namesOf_c (w : World) (base : Nat) (ao : Option Addr) (cap : Nat) (ds : List ClD) (hP : ClausesIs w base (.slice ao ds.length cap) ds) (hW : ∀ d ∈ ds, d.WF) (hn : ds.length ≤ 40) :
    Calls Tryz.prog 74 #[.slice ao ds.length cap] w fun e w' => ∃ mv lv, e = .returned (.pointer (some ⟨w.heap.size, 0, none⟩)) ∧ Blk w' w.heap.size [mv, lv] 178 ∧ SetIs w' w.heap.size mv lv (namesD ds) ∧ (namesD ds).length ≤ 200 ∧ Below w.heap.size w w' := by
  go_enter Tryz.func74, Tryz.ntmps74
  go_wp2
  go_loopw [12] (fun i wr => ∃ (k : Nat) (xs : List (List UInt8)) (mv lv : Value), k ≤ ds.length ∧ i = .int .i64 k ∧ xs.length ≤ 5 * k ∧ Hid (addAll xs ((ds.drop k).flatMap ClD.heads) = namesD ds) ∧
    Blk wr w.heap.size [mv, lv] 178 ∧ SetIs wr w.heap.size mv lv xs ∧ Below w.heap.size w wr) (fun i _ => ds.length - (intOf i).toNat)
  case atStart =>
    exact ⟨0, [], .map none, .slice none 0 0, by omega, rfl, by simp, rfl, Blk.new w [.map none, .slice none 0 0] 178, ⟨World.ownsRow_nil _ _ _ _, .inl ⟨rfl, rfl⟩⟩, (Below.refl _ _).alloc (Nat.le_refl _) _⟩
  case round =>
    obtain ⟨k, xs, mv, lv, hk, rfl, hxl, HX, hC, hCI, hB⟩ := hrel
    by_cases hlt : k < ds.length
    · obtain ⟨g, bo, bcap, hao, hg, e0, e1, e2, e3, e4, e5, hLb⟩ := clause_at hP k hlt
      subst hao
      have hwf := hW ds[k] (List.getElem_mem hlt)
      have HD : Hid ((ds.drop k).flatMap ClD.heads = ds[k].heads ++ (ds.drop (k + 1)).flatMap ClD.heads) := by
        show (ds.drop k).flatMap ClD.heads = _
        rw [List.drop_eq_getElem_cons hlt]; rfl
      generalize ds[k] = d at *
      have hbw : w.heap.size < wr.heap.size := hC.lt
      have hl4 := hwf.lits
      rw [← hB.cell (p := ⟨g, k * 6, none⟩) hg] at e0
      rw [← hB.cell (p := ⟨g, k * 6 + 1, none⟩) hg] at e1
      rw [← hB.cell (p := ⟨g, k * 6 + 2, none⟩) hg] at e2
      rw [← hB.cell (p := ⟨g, k * 6 + 3, none⟩) hg] at e3
      rw [← hB.cell (p := ⟨g, k * 6 + 4, none⟩) hg] at e4
      rw [← hB.cell (p := ⟨g, k * 6 + 5, none⟩) hg] at e5
      have hBr : Below wr.heap.size wr (wr.alloc (.cells #[Value.string d.nm, .int .i64 d.cn, .string (d.t 0), .string (d.t 1), .string (d.t 2), .slice bo d.lits.length bcap] 86)) := below_alloc _ _
      go_wp2_with (go_at_call 91; refine (atoms_c _ base d.nm (d.t 0) (d.t 1) (d.t 2) d.cn bo bcap d.name d.ts d.lits rfl (by exact (own_below hLb hB).alloc _) (by omega)).mono ?_; rintro e w1 ⟨ga, capa, rfl, hA1, hB1⟩)
      clear e0 e1 e2 e3 e4 e5
      have hC1 := (hC.alloc _).below hB1
      have hCI1 := (hCI.below hBr).below hB1
      have hBw1 : Below w.heap.size w w1 := (hB.alloc (by omega) _).trans (hB1.mono (by simp; omega))
      clear hBr hC hCI hB hB1
      simp only [World.size_alloc] at hA1
      generalize wr.heap.size = R at *
      go_loopw [19] (fun jv wr => ∃ (j : Nat) (xs : List (List UInt8)) (mv lv : Value), j ≤ d.lits.length + 1 ∧ jv = .int .i64 j ∧ xs.length ≤ 5 * k + j ∧ Hid (addAll xs (d.heads.drop j ++ (ds.drop (k + 1)).flatMap ClD.heads) = namesD ds) ∧
        Blk wr w.heap.size [mv, lv] 178 ∧ SetIs wr w.heap.size mv lv xs ∧
        wr.ownsRow (R + 1) 80 5 (.slice (some ⟨ga, 0, none⟩) (d.lits.length + 1) capa) (d.lits.length + 1) (d.atoms.flatMap atomC) ∧ Below w.heap.size w wr) (fun jv _ => d.lits.length + 1 - (intOf jv).toNat)
      case atStart =>
        refine ⟨0, xs, mv, lv, by omega, rfl, by omega, ?_, hC1, hCI1, ?_, hBw1⟩
        · show addAll xs (d.heads.drop 0 ++ _) = namesD ds
          rw [← HX.out, HD.out]; rfl
        · exact hA1
      case round =>
        clear hC1 hCI1 hBw1 hA1 HX hxl
        obtain ⟨j, xs, mv, lv, hj, rfl, hxl, HX, hC, hCI, hA, hB⟩ := hrel
        have hbw1 : w.heap.size < wr.heap.size := hC.lt
        have hal : d.atoms.length = d.lits.length + 1 := by simp [ClD.atoms]
        by_cases hjl : j < d.lits.length + 1
        · obtain ⟨a0, a1, a2, a3, a4⟩ := atom_at hA hal j (by omega)
          have hdrop := heads_at d j (by omega)
          have hkl := (hwf.words _ (List.getElem_mem (show j < d.atoms.length by omega))).1
          obtain ⟨a, ha⟩ : ∃ a, d.atoms[j] = a := ⟨_, rfl⟩
          simp only [ha] at a0 a1 a2 a3 a4 hdrop hkl
          have HDR := hid hdrop
          clear ha hdrop
          obtain ⟨nm, ts⟩ := a
          have a0' : wr.cell? ⟨ga, j * 5, none⟩ = some (.string (bs nm)) := a0
          have a1' : wr.cell? ⟨ga, j * 5 + 1, none⟩ = some (.int .i64 (ts.length : Nat)) := a1
          clear a0 a1
          have hkm : nm.length ≤ maxLen := by unfold maxLen; simp only [] at hkl; omega
          have hbe : Below wr.heap.size wr (wr.alloc (.cells #[Value.string (bs nm), .int .i64 (ts.length : Nat), .string (atT (nm, ts) 0), .string (atT (nm, ts) 1), .string (atT (nm, ts) 2)] 80)) := below_alloc _ _
          have HN : Hid (addAll (addW xs nm) (d.heads.drop (j + 1) ++ (ds.drop (k + 1)).flatMap ClD.heads) = namesD ds) := by
            show _ = _
            rw [← HX.out, HDR.out]; rfl
          have hal2 := addW_len xs nm
          go_wp2_with (go_at_call 107; refine (add_any _ w.heap.size w.heap.size mv lv 178 xs nm (by exact hC.alloc _) (by exact hCI.below hbe) hkm (by omega) (by decide) (by simp; omega)).mono ?_; rintro e w2 ⟨pp, qq, mv', lv', rfl, hC2, hCI2, hX2⟩)
          have hB2 : Below w.heap.size w w2 := (hB.trans (hbe.mono (by omega))).trans (hX2.toBelow (Nat.le_refl _))
          exact ⟨⟨j + 1, addW xs nm, mv', lv', hjl, by go_num, by omega, HN, hC2, hCI2, hX2.own (hA.alloc _) (own_ne hA hC (by decide)) (by decide), hB2⟩, by simp [intOf]; omega⟩
        · have hje : j = d.lits.length + 1 := by omega
          have HN : Hid (addAll xs ((ds.drop (k + 1)).flatMap ClD.heads) = namesD ds) := by
            show _ = _
            rw [← HX.out, hje]
            have : d.heads.drop (d.lits.length + 1) = [] := by apply List.drop_eq_nil_of_le; simp [ClD.heads, ClD.atoms]
            rw [this, List.nil_append]
          clear hje
          go_wp2
          exact ⟨⟨k + 1, xs, mv, lv, hlt, by go_num, by omega, HN, hC, hCI, hB⟩, by simp [intOf]; omega⟩
    · have hke : k = ds.length := by omega
      have HE : Hid (xs = namesD ds) := by
        show _ = _
        rw [← HX.out, hke, List.drop_length]; rfl
      clear hke
      go_wp2
      go_ret
      rw [← HE.out]
      exact ⟨mv, lv, rfl, hC, hCI, by omega, hB⟩

end Go.Proofs.YtpbfiffgcgnidaaGreatDoor

namespace Go.Proofs.YtpbfiffgcgnidaaGreatDoor
open Go.RowKit Go.WideMaps Go.Maps
attribute [local go_sem] drewN_alloc drewN_setCell

/-- Edge by edge; did one grow? -/
def raiseL : List Edge → (List UInt8 → Nat) × Bool → (List UInt8 → Nat) × Bool
  | [], x => x
  | e :: r, x => raiseL r (raiseE e x.1, x.2 || decide (x.1 e.h < x.1 e.b + e.w))
theorem raiseL_append (A B : List Edge) (x : (List UInt8 → Nat) × Bool) : raiseL (A ++ B) x = raiseL B (raiseL A x) := by
  induction A generalizing x with
  | nil => rfl
  | cons e r ih => rw [List.cons_append, raiseL, raiseL, ih]
theorem raiseL_le (E : List Edge) (L : List UInt8 → Nat) (hL : ∀ p, jac E L p = L p) (A : List Edge) (hA : ∀ e ∈ A, e ∈ E) (x : (List UInt8 → Nat) × Bool) (hf : ∀ p, x.1 p ≤ L p) : ∀ p, (raiseL A x).1 p ≤ L p := by
  induction A generalizing x with
  | nil => exact hf
  | cons e r ih => exact ih (fun y hy => hA y (by simp [hy])) _ (raiseE_le E L hL e (hA e (by simp)) x.1 hf)
theorem raiseE_ge (e : Edge) (f : List UInt8 → Nat) (p : List UInt8) : f p ≤ raiseE e f p := by
  unfold raiseE
  split
  · rename_i h
    rw [h.1]
    omega
  · exact Nat.le_refl _
theorem raiseL_ge (A : List Edge) (x : (List UInt8 → Nat) × Bool) (p : List UInt8) : x.1 p ≤ (raiseL A x).1 p := by
  induction A generalizing x with
  | nil => exact Nat.le_refl _
  | cons e r ih => exact Nat.le_trans (raiseE_ge e x.1 p) (ih (raiseE e x.1, x.2 || decide (x.1 e.h < x.1 e.b + e.w)))
theorem raiseL_true (A : List Edge) (f : List UInt8 → Nat) : (raiseL A (f, true)).2 = true := by
  induction A generalizing f with
  | nil => rfl
  | cons e r ih => rw [raiseL, Bool.true_or]; exact ih _
theorem raiseE_none (e : Edge) (f : List UInt8 → Nat) (h : ¬ f e.h < f e.b + e.w) : raiseE e f = f := by
  funext p
  unfold raiseE
  rw [if_neg (fun x => h x.2)]
/-- Where none grew. -/
theorem raiseL_still (A : List Edge) (f : List UInt8 → Nat) (h : (raiseL A (f, false)).2 = false) : (raiseL A (f, false)).1 = f ∧ ∀ e ∈ A, f e.b + e.w ≤ f e.h := by
  induction A generalizing f with
  | nil => exact ⟨rfl, by simp⟩
  | cons e r ih =>
    by_cases hn : f e.h < f e.b + e.w
    · have hc : raiseL (e :: r) (f, false) = raiseL r (raiseE e f, true) := by simp [raiseL, hn]
      rw [hc, raiseL_true] at h
      cases h
    · have hc : raiseL (e :: r) (f, false) = raiseL r (f, false) := by simp [raiseL, hn, raiseE_none e f hn]
      rw [hc] at h ⊢
      obtain ⟨h1, h2⟩ := ih f h
      refine ⟨h1, fun x hx => ?_⟩
      rcases List.mem_cons.1 hx with rfl | hx
      · omega
      · exact h2 x hx
/-- Where one grew. -/
theorem raiseL_grew (A : List Edge) (f : List UInt8 → Nat) (h : (raiseL A (f, false)).2 = true) : ∃ e ∈ A, f e.h < (raiseL A (f, false)).1 e.h := by
  induction A generalizing f with
  | nil => simp [raiseL] at h
  | cons e r ih =>
    by_cases hn : f e.h < f e.b + e.w
    · have hc : raiseL (e :: r) (f, false) = raiseL r (raiseE e f, true) := by simp [raiseL, hn]
      rw [hc]
      refine ⟨e, by simp, ?_⟩
      have h1 : f e.h < raiseE e f e.h := by
        unfold raiseE
        rw [if_pos ⟨rfl, hn⟩]
        exact hn
      exact Nat.lt_of_lt_of_le h1 (raiseL_ge r (raiseE e f, true) e.h)
    · have hc : raiseL (e :: r) (f, false) = raiseL r (f, false) := by simp [raiseL, hn, raiseE_none e f hn]
      rw [hc] at h ⊢
      obtain ⟨x, hx, h1⟩ := ih f h
      exact ⟨x, by simp [hx], h1⟩
def ClD.edges (d : ClD) : List Edge := d.lits.map fun l => ⟨d.name, l.name, l.neg⟩
def edgesD (ds : List ClD) : List Edge := ds.flatMap ClD.edges
theorem edgesD_step (ds : List ClD) (i : Nat) (h : i < ds.length) : edgesD (ds.take (i + 1)) = edgesD (ds.take i) ++ ds[i].edges := by
  unfold edgesD
  rw [List.take_succ_eq_append_getElem h, List.flatMap_append, List.flatMap_singleton]
theorem edgesD_sub (ds : List ClD) (i k : Nat) (h : i < ds.length) : ∀ e ∈ edgesD (ds.take i) ++ ds[i].edges.take k, e ∈ edgesD ds := by
  intro e he
  unfold edgesD at *
  rw [List.mem_append, List.mem_flatMap] at he
  rw [List.mem_flatMap]
  rcases he with ⟨d, hd, he⟩ | he
  · exact ⟨d, List.mem_of_mem_take hd, he⟩
  · exact ⟨ds[i], List.getElem_mem h, List.mem_of_mem_take he⟩
theorem edges_step (d : ClD) (k : Nat) (h : k < d.lits.length) (x : (List UInt8 → Nat) × Bool) : raiseL (d.edges.take (k + 1)) x = (raiseE ⟨d.name, d.lits[k].name, d.lits[k].neg⟩ (raiseL (d.edges.take k) x).1, (raiseL (d.edges.take k) x).2 || decide ((raiseL (d.edges.take k) x).1 d.name < (raiseL (d.edges.take k) x).1 d.lits[k].name + (if d.lits[k].neg then 1 else 0))) := by
  have hl : k < d.edges.length := by simpa [ClD.edges] using h
  rw [List.take_succ_eq_append_getElem hl, raiseL_append]
  have he : d.edges[k] = ⟨d.name, d.lits[k].name, d.lits[k].neg⟩ := by simp [ClD.edges]
  rw [he]
  rfl
theorem posIn_mem (U : List (List UInt8)) (k : List UInt8) (h : k ∈ U) : posIn U k = U.idxOf k := by unfold posIn; rw [if_pos h]
theorem hasW_mem (U : List (List UInt8)) (k : List UInt8) (h : k ∈ U) : hasW U k = true := List.contains_iff_mem.2 h

set_option maxHeartbeats 1000000 in
set_option maxRecDepth 100000 in
theorem leastAbove_c (w : World) (base sb : Nat) (mv lv : Value) (U : List (List UInt8)) (hC : Blk w sb [mv, lv] 178) (hS : SetIs w base mv lv U) (g : Nat) (f : List UInt8 → Nat) (hG : Blk w g (rowI U f) 3) (nm : List UInt8) (hnm : nm ∈ U) (hl : nm.length ≤ 12) (hf : f nm ≤ 1000) (neg : Bool) (c : Int) (t0 t1 t2 : ByteArray) :
    Calls Tryz.prog 108 #[.agg #[.string (bs nm), .int .i64 c, .string t0, .string t1, .string t2, .bool neg], .pointer (some ⟨sb, 0, none⟩), .slice (some ⟨g, 0, none⟩) U.length U.length] w fun e w' => e = .returned (.int .i64 ((f nm + (if neg then 1 else 0) : Nat) : Int)) ∧ Below w.heap.size w w' := by
  have hp := List.idxOf_lt_length_of_mem hnm
  have q1 := hG.cell (U.idxOf nm)
  rw [rowI_at U f nm hnm] at q1
  have HP := hid (posIn_mem U nm hnm)
  have HH := hid (hasW_mem U nm hnm)
  have hgl := hG.lt
  generalize U.idxOf nm = pos at *
  generalize f nm = fx at *
  have hB0 := below_alloc w (.cells #[.string (bs nm), .int .i64 c, .string t0, .string t1, .string t2, .bool neg] 186)
  cases neg
  · go_enter Tryz.func108, Tryz.ntmps108
    go_wp2_with (go_at_call 75; refine (find_c _ base sb mv lv [] 178 U nm (by exact hC.alloc _) (by exact hS.alloc _) (by unfold maxLen; omega)).mono ?_; rintro e w2 ⟨he, hw2⟩; subst w2; rw [HP.out, HH.out] at he; subst he)
    go_ret
    exact ⟨rfl, hB0⟩
  · go_enter Tryz.func108, Tryz.ntmps108
    go_wp2_with (go_at_call 75; refine (find_c _ base sb mv lv [] 178 U nm (by exact hC.alloc _) (by exact hS.alloc _) (by unfold maxLen; omega)).mono ?_; rintro e w2 ⟨he, hw2⟩; subst w2; rw [HP.out, HH.out] at he; subst he)
    go_ret
    exact ⟨rfl, hB0⟩

end Go.Proofs.YtpbfiffgcgnidaaGreatDoor

namespace Go.Proofs.YtpbfiffgcgnidaaGreatDoor
open Go.RowKit Go.WideMaps Go.Maps

def sumU (U : List (List UInt8)) (f : List UInt8 → Nat) : Nat := (U.map f).sum
theorem sumU_le (U : List (List UInt8)) (f g : List UInt8 → Nat) (h : ∀ p, f p ≤ g p) : sumU U f ≤ sumU U g := by
  unfold sumU
  induction U with
  | nil => exact Nat.le_refl _
  | cons x r ih =>
    have := h x
    simp only [List.map_cons, List.sum_cons]
    omega
theorem sumU_lt (U : List (List UInt8)) (f g : List UInt8 → Nat) (h : ∀ p, f p ≤ g p) (x : List UInt8) (hx : x ∈ U) (hl : f x < g x) : sumU U f < sumU U g := by
  unfold sumU
  induction U with
  | nil => simp at hx
  | cons y r ih =>
    have h1 := h y
    have h2 := sumU_le r f g h
    unfold sumU at h2
    simp only [List.map_cons, List.sum_cons]
    rcases List.mem_cons.1 hx with rfl | hx
    · omega
    · have := ih hx
      omega
/-- The sum of a row, as it lies. -/
def rowSum (w : World) (g n : Nat) : Nat := ((List.range n).map fun i => (intOf ((w.cell? ⟨g, i, none⟩).getD (.int .i64 0))).toNat).sum
theorem rowSum_is (w : World) (g : Nat) (U : List (List UInt8)) (f : List UInt8 → Nat) (h : Blk w g (rowI U f) 3) : rowSum w g U.length = sumU U f := by
  unfold rowSum sumU
  congr 1
  apply List.ext_getElem?
  intro i
  rw [List.getElem?_map, List.getElem?_map]
  by_cases hi : i < U.length
  · rw [List.getElem?_range hi, List.getElem?_eq_getElem hi, Option.map_some, Option.map_some, h.cell i]
    unfold rowI
    rw [List.getElem?_map, List.getElem?_eq_getElem hi]
    simp [intOf]
  · rw [List.getElem?_eq_none (by simpa using hi), List.getElem?_eq_none (by omega)]
    rfl
theorem raiseL_sum (E : List Edge) (U : List (List UInt8)) (hU : ∀ e ∈ E, e.h ∈ U) (f : List UInt8 → Nat) (h : (raiseL E (f, false)).2 = true) : sumU U f < sumU U (raiseL E (f, false)).1 := by
  obtain ⟨e, he, h1⟩ := raiseL_grew E f h
  exact sumU_lt U _ _ (fun p => raiseL_ge E (f, false) p) e.h (hU e he) h1
/-- What does not grow any more is what the document has. -/
theorem still_is (E : List Edge) (U : List (List UInt8)) (f : List UInt8 → Nat) (hf : ∀ p, f p ≤ jacN E U.length p) (h : (raiseL E (f, false)).2 = false) : f = jacN E U.length := by
  funext p
  exact Nat.le_antisymm (hf p) (still_eq E f U.length (raiseL_still E f h).2 p)
theorem addAll_mem (l xs : List (List UInt8)) (x : List UInt8) : x ∈ addAll xs l ↔ x ∈ xs ∨ x ∈ l := by
  unfold addAll
  induction l generalizing xs with
  | nil => simp
  | cons a r ih =>
    rw [List.foldl_cons, ih]
    unfold addW
    split
    · rename_i h
      have : a ∈ xs := List.contains_iff_mem.1 h
      constructor
      · rintro (h | h)
        · exact .inl h
        · exact .inr (by simp [h])
      · rintro (h | h)
        · exact .inl h
        · rcases List.mem_cons.1 h with rfl | h
          · exact .inl this
          · exact .inr h
    · simp only [List.mem_append, List.mem_cons, List.not_mem_nil, or_false]
      exact or_assoc
theorem names_same (cs : List RC) : namesD (cs.map RC.d) = namesA (atomsC cs) := by
  unfold namesD namesA addAll atomsC
  rw [← List.foldl_map (f := RA.name) (g := addW)]
  congr 1
  rw [List.flatMap_map, List.map_flatMap]
  congr 1
  funext c
  simp [ClD.heads, ClD.atoms, RC.d, RA.lit]
theorem edges_same (cs : List RC) : edgesD (cs.map RC.d) = edgesC cs := by
  unfold edgesD edgesC
  rw [List.flatMap_map]
  congr 1
  funext c
  simp [ClD.edges, RC.edges, RC.d, RA.lit]
theorem names_in (cs : List RC) : NamesIn cs (namesA (atomsC cs)) := by
  rw [← names_same]
  intro c hc
  have h : ∀ x, x ∈ (c.d).heads → x ∈ namesD (cs.map RC.d) := by
    intro x hx
    unfold namesD
    rw [addAll_mem, List.mem_flatMap]
    exact .inr ⟨c.d, List.mem_map.2 ⟨c, hc, rfl⟩, hx⟩
  refine ⟨h _ (by simp [ClD.heads, ClD.atoms, RC.d]), fun a ha => h _ ?_⟩
  simp only [ClD.heads, ClD.atoms, RC.d, List.map_cons, List.map_map, List.mem_cons, List.mem_map]
  exact .inr ⟨a, ha, rfl⟩
/-- The answer. -/
def layI (cs : List RC) (nm : List UInt8) : Int := if nm ∈ namesA (atomsC cs) then (jacN (edgesC cs) (namesA (atomsC cs)).length nm : Nat) else -1

end Go.Proofs.YtpbfiffgcgnidaaGreatDoor

namespace Go.Proofs.YtpbfiffgcgnidaaGreatDoor
open Go.RowKit Go.WideMaps Go.Maps
attribute [local go_sem] drewN_alloc drewN_setCell

theorem idxOf_ne (U : List (List UInt8)) (hU : U.Nodup) (x : List UInt8) (i : Nat) (hi : i < U.length) (h : i ≠ U.idxOf x) : U[i] ≠ x := by
  intro he
  apply h
  rw [← he, hU.idxOf_getElem]
theorem rowI_set (U : List (List UInt8)) (hU : U.Nodup) (f : List UInt8 → Nat) (x : List UInt8) (hx : x ∈ U) (v : Nat) : rowI U (fun p => if p = x then v else f p) = (rowI U f).set (U.idxOf x) (.int .i64 (v : Nat)) := by
  unfold rowI
  apply List.ext_getElem?
  intro i
  rw [List.getElem?_map, List.getElem?_set, List.length_map, List.getElem?_map]
  by_cases hi : i < U.length
  · rw [List.getElem?_eq_getElem hi]
    by_cases he : U.idxOf x = i
    · rw [if_pos he, if_pos (by omega)]
      subst he
      simp [List.getElem_idxOf]
    · rw [if_neg he]
      have := idxOf_ne U hU x i hi (fun h => he h.symm)
      simp [this]
  · have h1 := List.idxOf_lt_length_of_mem hx
    rw [List.getElem?_eq_none (by omega), if_neg (by omega)]
    rfl
theorem raiseE_up (e : Edge) (f : List UInt8 → Nat) (h : f e.h < f e.b + e.w) : raiseE e f = fun p => if p = e.h then f e.b + e.w else f p := by
  funext p
  unfold raiseE
  by_cases hp : p = e.h
  · rw [if_pos ⟨hp, h⟩, if_pos hp]
  · rw [if_neg (fun x => hp x.1), if_neg hp]
theorem addAll_nodup (l xs : List (List UInt8)) (h : xs.Nodup) : (addAll xs l).Nodup := by
  unfold addAll
  induction l generalizing xs with
  | nil => exact h
  | cons a r ih => exact ih _ (addW_nodup h)

set_option maxHeartbeats 4000000 in
set_option maxRecDepth 100000 in
theorem raise_c (w0 w : World) (hB0 : Below w0.heap.size w0 w) (base : Nat) (ao : Option Addr) (cap : Nat) (ds : List ClD) (hP : ClausesIs w0 base (.slice ao ds.length cap) ds) (hW : ∀ d ∈ ds, d.WF) (hn : ds.length ≤ 40) (sbase sb : Nat) (mv lv : Value) (U : List (List UInt8)) (hUd : U.Nodup) (hC : Blk w0 sb [mv, lv] 178) (hS : SetIs w0 sbase mv lv U)
    (hU : ∀ d ∈ ds, d.name ∈ U ∧ ∀ l ∈ d.lits, l.name ∈ U) (g : Nat) (hg : w0.heap.size ≤ g) (f L : List UInt8 → Nat) (hL : ∀ p, jac (edgesD ds) L p = L p) (hLb : ∀ p, L p ≤ 200) (hf : ∀ p, f p ≤ L p) (hG : Blk w g (rowI U f) 3) :
    Calls Tryz.prog 77 #[.slice ao ds.length cap, .pointer (some ⟨sb, 0, none⟩), .slice (some ⟨g, 0, none⟩) U.length U.length] w fun e w' => e = .returned (.bool (raiseL (edgesD ds) (f, false)).2) ∧ Blk w' g (rowI U (raiseL (edgesD ds) (f, false)).1) 3 ∧ Below w0.heap.size w0 w' := by
  have HLE := hid (fun A (hA : ∀ e ∈ A, e ∈ edgesD ds) => raiseL_le (edgesD ds) L hL A hA (f, false) hf)
  have HLB := hid hLb
  have HUU := hid hU
  have HUD := hid hUd
  have HWW := hid hW
  clear hL hLb hf hU hUd hW
  go_enter Tryz.func77, Tryz.ntmps77
  go_wp2
  go_loopw [7, 17] (fun gv iv wr => ∃ (k : Nat), k ≤ ds.length ∧ iv = .int .i64 k ∧ gv = .bool (raiseL (edgesD (ds.take k)) (f, false)).2 ∧ Blk wr g (rowI U (raiseL (edgesD (ds.take k)) (f, false)).1) 3 ∧ Below w0.heap.size w0 wr) (fun _ iv _ => ds.length - (intOf iv).toNat)
  case atStart => exact ⟨0, by omega, rfl, rfl, hG, hB0⟩
  case round =>
    clear hG hB0
    obtain ⟨k, hk, rfl, rfl, hG, hB⟩ := hrel
    by_cases hlt : k < ds.length
    · obtain ⟨gc, bo, bcap, hao, hgc, e0, e1, e2, e3, e4, e5, hLb⟩ := clause_at hP k hlt
      subst hao
      have hwf := HWW.out ds[k] (List.getElem_mem hlt)
      have HST := hid (edgesD_step ds k hlt)
      have HSUB := hid (fun j => edgesD_sub ds k j hlt)
      have HU1 := hid (HUU.out ds[k] (List.getElem_mem hlt))
      have hwl : ds[k].name.length ≤ 12 := (hwf.words (ds[k].name, ds[k].ts) (by simp [ClD.atoms])).1
      have HWL : Hid (∀ l ∈ ds[k].lits, l.name.length ≤ 12) := fun l hl => (hwf.words (l.name, l.ts) (by simp only [ClD.atoms, List.mem_cons, List.mem_map]; exact .inr ⟨l, hl, rfl⟩)).1
      have HNM : Hid (ds[k].nm = bs ds[k].name) := rfl
      rw [HNM.out] at e0
      generalize ds[k] = d at *
      have hl4 := hwf.lits
      have HX := hid (fun j => raiseL_append (edgesD (ds.take k)) (d.edges.take j) (f, false))
      have HXE := hid (raiseL_append (edgesD (ds.take k)) d.edges (f, false))
      have HLQ := hid (fun j => HLE.out (edgesD (ds.take k) ++ d.edges.take j) (HSUB.out j))
      simp only [HX.out] at HLQ
      rw [← HST.out] at HXE
      generalize raiseL (edgesD (ds.take k)) (f, false) = X at *
      rw [← hB.cell (p := ⟨gc, k * 6, none⟩) hgc] at e0
      rw [← hB.cell (p := ⟨gc, k * 6 + 1, none⟩) hgc] at e1
      rw [← hB.cell (p := ⟨gc, k * 6 + 2, none⟩) hgc] at e2
      rw [← hB.cell (p := ⟨gc, k * 6 + 3, none⟩) hgc] at e3
      rw [← hB.cell (p := ⟨gc, k * 6 + 4, none⟩) hgc] at e4
      rw [← hB.cell (p := ⟨gc, k * 6 + 5, none⟩) hgc] at e5
      have hsz := hB.size
      have HPO := hid (posIn_mem U d.name HU1.out.1)
      have HH := hid (hasW_mem U d.name HU1.out.1)
      have hCr := (hC.below hB).alloc (.cells #[Value.string (bs d.name), .int .i64 d.cn, .string (d.t 0), .string (d.t 1), .string (d.t 2), .slice bo d.lits.length bcap] 86)
      have hSr := (hS.below hB).alloc (.cells #[Value.string (bs d.name), .int .i64 d.cn, .string (d.t 0), .string (d.t 1), .string (d.t 2), .slice bo d.lits.length bcap] 86)
      have hGr := hG.alloc (.cells #[Value.string (bs d.name), .int .i64 d.cn, .string (d.t 0), .string (d.t 1), .string (d.t 2), .slice bo d.lits.length bcap] 86)
      have hBr := hB.alloc hsz (.cells #[Value.string (bs d.name), .int .i64 d.cn, .string (d.t 0), .string (d.t 1), .string (d.t 2), .slice bo d.lits.length bcap] 86)
      go_wp2_with (go_at_call 75; refine (find_c _ sbase sb mv lv [] 178 U d.name hCr hSr (by unfold maxLen; omega)).mono ?_; rintro e w2 ⟨he, hw2⟩; subst w2; rw [HPO.out, HH.out] at he; subst he)
      clear e0 e1 e2 e3 e4 e5 hCr hSr hG hB
      go_loopw [7, 32] (fun gv jv wr => ∃ (j : Nat), j ≤ d.lits.length ∧ jv = .int .i64 j ∧ gv = .bool (raiseL (d.edges.take j) X).2 ∧ Blk wr g (rowI U (raiseL (d.edges.take j) X).1) 3 ∧ Below w0.heap.size w0 wr) (fun _ jv _ => d.lits.length - (intOf jv).toNat)
      case atStart => exact ⟨0, by omega, rfl, rfl, hGr, hBr⟩
      case round =>
        clear hGr hBr
        obtain ⟨j, hj, rfl, rfl, hG, hB⟩ := hrel
        by_cases hjl : j < d.lits.length
        · obtain ⟨gl, rfl, hgl, a0, a1, a2, a3, a4, a5⟩ := lits_at hLb j hjl
          have HES := hid (edges_step d j hjl X)
          have hln := HWL.out d.lits[j] (List.getElem_mem hjl)
          have HLM := hid (HU1.out.2 d.lits[j] (List.getElem_mem hjl))
          have HNA : Hid (d.lits[j].nm = bs d.lits[j].name) := rfl
          rw [HNA.out] at a0
          generalize d.lits[j] = l at *
          rw [← hB.cell (p := ⟨gl, j * 6, none⟩) hgl] at a0
          rw [← hB.cell (p := ⟨gl, j * 6 + 1, none⟩) hgl] at a1
          rw [← hB.cell (p := ⟨gl, j * 6 + 2, none⟩) hgl] at a2
          rw [← hB.cell (p := ⟨gl, j * 6 + 3, none⟩) hgl] at a3
          rw [← hB.cell (p := ⟨gl, j * 6 + 4, none⟩) hgl] at a4
          rw [← hB.cell (p := ⟨gl, j * 6 + 5, none⟩) hgl] at a5
          have hsz2 := hB.size
          have hgll : gl < wr.heap.size := by omega
          have hbd1 := Nat.le_trans (HLQ.out j d.name) (HLB.out d.name)
          have hbd2 := Nat.le_trans (HLQ.out j l.name) (HLB.out l.name)
          generalize raiseL (d.edges.take j) X = Y at *
          obtain ⟨fy, byy⟩ := Y
          simp only [] at hG HES hbd1 hbd2 ⊢
          have HQ := hid (rowI_at U fy d.name HU1.out.1)
          have hpl := List.idxOf_lt_length_of_mem HU1.out.1
          cases hng : l.neg
          · rw [hng] at a5
            simp only [hng, Bool.false_eq_true, if_false, Nat.add_zero] at HES
            have hCr := (hC.below hB).alloc (.cells #[Value.string (bs l.name), .int .i64 l.cn, .string (l.t 0), .string (l.t 1), .string (l.t 2), .bool false] 186)
            have hSr := (hS.below hB).alloc (.cells #[Value.string (bs l.name), .int .i64 l.cn, .string (l.t 0), .string (l.t 1), .string (l.t 2), .bool false] 186)
            have hGr := hG.alloc (.cells #[Value.string (bs l.name), .int .i64 l.cn, .string (l.t 0), .string (l.t 1), .string (l.t 2), .bool false] 186)
            have hBr := hB.alloc hsz2 (.cells #[Value.string (bs l.name), .int .i64 l.cn, .string (l.t 0), .string (l.t 1), .string (l.t 2), .bool false] 186)
            by_cases hup : fy d.name < fy l.name
            · have HV := hid (show raiseL (d.edges.take (j + 1)) X = ((fun p => if p = d.name then fy l.name else fy p), true) by
                rw [HES.out, raiseE_up _ _ (show fy d.name < fy l.name + Edge.w ⟨d.name, l.name, false⟩ from hup), decide_eq_true hup, Bool.or_true]
                rfl)
              have hlm : ((fy d.name : Nat) : Int) < ((fy l.name : Nat) : Int) := by omega
              clear HES
              go_wp2_with (go_at_call 108; refine (leastAbove_c _ sbase sb mv lv U hCr hSr g fy hGr l.name HLM.out hln (by omega) false l.cn (l.t 0) (l.t 1) (l.t 2)).mono ?_; rintro e w2 ⟨rfl, hB2⟩; have hG2 := hGr.below hB2; have fG := hG2.frozen; have hg2l := hG2.lt; have q1 := hG2.cell (U.idxOf d.name); rw [HQ.out] at q1)
              have hG3 := hG2.setCell (U.idxOf d.name) (.int .i64 ((fy l.name : Nat) : Int))
              rw [← rowI_set U HUD.out fy d.name HU1.out.1 (fy l.name)] at hG3
              exact ⟨⟨j + 1, hjl, by go_num, by rw [HV.out], by rw [HV.out]; exact hG3, (hBr.trans (hB2.mono (by simp; omega))).setCell (p := ⟨g, U.idxOf d.name, none⟩) hg _⟩, by simp [intOf]; omega⟩
            · have HV := hid (show raiseL (d.edges.take (j + 1)) X = (fy, byy) by
                rw [HES.out, raiseE_none _ _ (show ¬ fy d.name < fy l.name + Edge.w ⟨d.name, l.name, false⟩ from hup), decide_eq_false hup, Bool.or_false])
              have hlm : ¬ ((fy d.name : Nat) : Int) < ((fy l.name : Nat) : Int) := by omega
              clear HES
              go_wp2_with (go_at_call 108; refine (leastAbove_c _ sbase sb mv lv U hCr hSr g fy hGr l.name HLM.out hln (by omega) false l.cn (l.t 0) (l.t 1) (l.t 2)).mono ?_; rintro e w2 ⟨rfl, hB2⟩; have hG2 := hGr.below hB2; have fG := hG2.frozen; have hg2l := hG2.lt; have q1 := hG2.cell (U.idxOf d.name); rw [HQ.out] at q1)
              exact ⟨⟨j + 1, hjl, by go_num, by rw [HV.out], by rw [HV.out]; exact hG2, hBr.trans (hB2.mono (by simp; omega))⟩, by simp [intOf]; omega⟩
          · rw [hng] at a5
            simp only [hng, if_true] at HES
            have hCr := (hC.below hB).alloc (.cells #[Value.string (bs l.name), .int .i64 l.cn, .string (l.t 0), .string (l.t 1), .string (l.t 2), .bool true] 186)
            have hSr := (hS.below hB).alloc (.cells #[Value.string (bs l.name), .int .i64 l.cn, .string (l.t 0), .string (l.t 1), .string (l.t 2), .bool true] 186)
            have hGr := hG.alloc (.cells #[Value.string (bs l.name), .int .i64 l.cn, .string (l.t 0), .string (l.t 1), .string (l.t 2), .bool true] 186)
            have hBr := hB.alloc hsz2 (.cells #[Value.string (bs l.name), .int .i64 l.cn, .string (l.t 0), .string (l.t 1), .string (l.t 2), .bool true] 186)
            by_cases hup : fy d.name < fy l.name + 1
            · have HV := hid (show raiseL (d.edges.take (j + 1)) X = ((fun p => if p = d.name then fy l.name + 1 else fy p), true) by
                rw [HES.out, raiseE_up _ _ (show fy d.name < fy l.name + Edge.w ⟨d.name, l.name, true⟩ from hup), decide_eq_true hup, Bool.or_true]
                rfl)
              have hlm : ((fy d.name : Nat) : Int) < ((fy l.name + 1 : Nat) : Int) := by omega
              clear HES
              go_wp2_with (go_at_call 108; refine (leastAbove_c _ sbase sb mv lv U hCr hSr g fy hGr l.name HLM.out hln (by omega) true l.cn (l.t 0) (l.t 1) (l.t 2)).mono ?_; rintro e w2 ⟨rfl, hB2⟩; have hG2 := hGr.below hB2; have fG := hG2.frozen; have hg2l := hG2.lt; have q1 := hG2.cell (U.idxOf d.name); rw [HQ.out] at q1)
              have hG3 := hG2.setCell (U.idxOf d.name) (.int .i64 ((fy l.name + 1 : Nat) : Int))
              rw [← rowI_set U HUD.out fy d.name HU1.out.1 (fy l.name + 1)] at hG3
              exact ⟨⟨j + 1, hjl, by go_num, by rw [HV.out], by rw [HV.out]; exact hG3, (hBr.trans (hB2.mono (by simp; omega))).setCell (p := ⟨g, U.idxOf d.name, none⟩) hg _⟩, by simp [intOf]; omega⟩
            · have HV := hid (show raiseL (d.edges.take (j + 1)) X = (fy, byy) by
                rw [HES.out, raiseE_none _ _ (show ¬ fy d.name < fy l.name + Edge.w ⟨d.name, l.name, true⟩ from hup), decide_eq_false hup, Bool.or_false])
              have hlm : ¬ ((fy d.name : Nat) : Int) < ((fy l.name + 1 : Nat) : Int) := by omega
              clear HES
              go_wp2_with (go_at_call 108; refine (leastAbove_c _ sbase sb mv lv U hCr hSr g fy hGr l.name HLM.out hln (by omega) true l.cn (l.t 0) (l.t 1) (l.t 2)).mono ?_; rintro e w2 ⟨rfl, hB2⟩; have hG2 := hGr.below hB2; have fG := hG2.frozen; have hg2l := hG2.lt; have q1 := hG2.cell (U.idxOf d.name); rw [HQ.out] at q1)
              exact ⟨⟨j + 1, hjl, by go_num, by rw [HV.out], by rw [HV.out]; exact hG2, hBr.trans (hB2.mono (by simp; omega))⟩, by simp [intOf]; omega⟩
        · have hje : j = d.lits.length := by omega
          have HE := hid (show raiseL (d.edges.take j) X = raiseL d.edges X by
            rw [hje, show d.lits.length = d.edges.length by simp [ClD.edges], List.take_length])
          clear hje
          go_wp2_with fail
          rw [HE.out, ← HXE.out] at hG
          exact ⟨⟨k + 1, hlt, by go_num, by rw [HE.out, ← HXE.out], hG, hB⟩, by simp [intOf]; omega⟩
    · have hke : k = ds.length := by omega
      have HE := hid (show ds.take k = ds by rw [hke, List.take_length])
      clear hke
      go_wp2_with fail
      go_ret
      rw [HE.out] at hG ⊢
      exact ⟨rfl, hG, hB⟩

end Go.Proofs.YtpbfiffgcgnidaaGreatDoor

namespace Go.Proofs.YtpbfiffgcgnidaaGreatDoor
open Go.RowKit Go.WideMaps Go.Maps
attribute [local go_sem] drewN_alloc drewN_setCell

set_option maxHeartbeats 2000000 in
set_option maxRecDepth 100000 in
theorem of_c (w : World) (base : Nat) (ao : Option Addr) (cap : Nat) (cs : List RC) (hP : ClausesIs w base (.slice ao cs.length cap) (cs.map RC.d)) (hF : Fine cs) (nm : List UInt8) (hnm : nm.length ≤ maxLen) :
    Calls Tryz.prog 45 #[.slice ao cs.length cap, .string (bs nm)] w fun e w' => e = .returned (.int .i64 (layI cs nm)) ∧ Below w.heap.size w w' := by
  have hlen : (cs.map RC.d).length = cs.length := List.length_map ..
  have hP' : ClausesIs w base (.slice ao (cs.map RC.d).length cap) (cs.map RC.d) := by rw [hlen]; exact hP
  have HNO := hid (namesOf_c w base ao cap (cs.map RC.d) hP' hF.wf (by rw [hlen]; exact hF.few))
  rw [hlen] at HNO
  have HLI : Hid (layI cs nm = if nm ∈ namesD (cs.map RC.d) then ((jacN (edgesD (cs.map RC.d)) (namesD (cs.map RC.d)).length nm : Nat) : Int) else -1) := by
    show _ = _
    rw [names_same, edges_same]
    rfl
  have hin : ∀ d ∈ cs.map RC.d, d.name ∈ namesD (cs.map RC.d) ∧ ∀ l ∈ d.lits, l.name ∈ namesD (cs.map RC.d) := by
    intro d hd
    obtain ⟨c, hc, rfl⟩ := List.mem_map.1 hd
    have h := names_in cs c hc
    rw [← names_same] at h
    refine ⟨h.1, fun l hl => ?_⟩
    obtain ⟨a, ha, rfl⟩ := List.mem_map.1 (show l ∈ c.body.map RA.lit from hl)
    exact h.2 a ha
  have hEU : ∀ e ∈ edgesD (cs.map RC.d), e.h ∈ namesD (cs.map RC.d) := by
    intro e he
    unfold edgesD at he
    obtain ⟨d, hd, he⟩ := List.mem_flatMap.1 he
    obtain ⟨l, _, rfl⟩ := List.mem_map.1 (show e ∈ d.lits.map _ from he)
    exact (hin d hd).1
  have HST := hid (jac_still (edgesD (cs.map RC.d)) (by rw [edges_same]; exact hF.flat) (namesD (cs.map RC.d)) hEU)
  have HLB := hid (jacN_bound (edgesD (cs.map RC.d)) (namesD (cs.map RC.d)).length)
  have HRS := hid (fun W w1 g f mv lv sb => raise_c W w1 (base := base) (ao := ao) (cap := cap) (ds := cs.map RC.d) (hW := hF.wf) (hn := by rw [hlen]; exact hF.few) (sbase := w.heap.size) (sb := sb) (mv := mv) (lv := lv) (U := namesD (cs.map RC.d)) (hUd := addAll_nodup _ _ List.nodup_nil) (hU := hin) (g := g) (f := f) (L := jacN (edgesD (cs.map RC.d)) (namesD (cs.map RC.d)).length))
  rw [hlen] at HRS hP'
  have HSU := hid (fun f => raiseL_sum (edgesD (cs.map RC.d)) (namesD (cs.map RC.d)) hEU f)
  have HSI := hid (fun f => still_is (edgesD (cs.map RC.d)) (namesD (cs.map RC.d)) f)
  have HLE := hid (fun f => raiseL_le (edgesD (cs.map RC.d)) (jacN (edgesD (cs.map RC.d)) (namesD (cs.map RC.d)).length) HST.out (edgesD (cs.map RC.d)) (fun _ h => h) (f, false))
  clear hin hEU hlen
  generalize edgesD (cs.map RC.d) = E at *
  generalize cs.map RC.d = ds at *
  generalize namesD ds = U at *
  by_cases hm : nm ∈ U
  · have HA := hid (show layI cs nm = ((jacN E U.length nm : Nat) : Int) by rw [HLI.out, if_pos hm])
    have HPO := hid (posIn_mem U nm hm)
    have HH := hid (hasW_mem U nm hm)
    have hpl := List.idxOf_lt_length_of_mem hm
    have HRA := hid (rowI_at U (jacN E U.length) nm hm)
    generalize U.idxOf nm = pos at *
    go_enter Tryz.func45, Tryz.ntmps45
    go_wp2_with (first
      | (go_at_call 74; refine (HNO.out).mono ?_; rintro e w1 ⟨mv, lv, rfl, hC, hS, hUl, hB1⟩; have hmk := make_ints U.length (by omega))
      | (go_at_call 75; refine (find_c _ w.heap.size w.heap.size mv lv [] 178 U nm (by exact hC) (by exact hS) hnm).mono ?_; rintro e w2 ⟨he, hw2⟩; subst w2; rw [HPO.out, HH.out] at he; subst he)
      | (go_at_call 76; refine (len_c _ w.heap.size w.heap.size mv lv [] 178 U (by exact hC) (by exact hS)).mono ?_; rintro e w2 ⟨he, hw2⟩; subst w2; subst he))
    have hPw := hP'.below hB1
    have hN0 := new_zero w1 U
    have hs1 := hB1.size
    clear hmk
    generalize hLd : jacN E U.length = L at *
    go_loopw [] (fun wr => ∃ f, (∀ p, f p ≤ L p) ∧ Blk wr w1.heap.size (rowI U f) 3 ∧ Below w1.heap.size w1 wr) (fun wr => sumU U L - rowSum wr w1.heap.size U.length)
    case atStart => exact ⟨fun _ => 0, fun _ => Nat.zero_le _, hN0, below_alloc _ _⟩
    case round =>
      clear hN0
      obtain ⟨f, hf, hG, hB⟩ := hrel
      have HSM := hid (rowSum_is wr w1.heap.size U f hG)
      have HR := hid (HRS.out w1 wr w1.heap.size f mv lv w.heap.size hB (by exact hPw) (by exact hC) (by exact hS) (Nat.le_refl _) HST.out (fun p => by have := HLB.out p; omega) hf hG)
      have HF2 := hid (HLE.out f hf)
      have HSS := hid (HSU.out f)
      have HSE := hid (HSI.out f hf)
      cases hgr : (raiseL E (f, false)).2
      · have HE := hid (HSE.out hgr)
        have HK := hid (raiseL_still E f hgr).1
        rw [hgr] at HR
        go_wp2_with (go_at_call 77; refine (HR.out).mono ?_; rintro e w2 ⟨rfl, hG2, hB2⟩; rw [HK.out, HE.out] at hG2; have q0 := hG2.cell pos; rw [HRA.out] at q0)
        go_ret
        rw [HA.out]
        exact ⟨rfl, hB1.trans (hB2.mono hs1)⟩
      · have HS3 := hid (HSS.out hgr)
        rw [hgr] at HR
        go_wp2_with (go_at_call 77; refine (HR.out).mono ?_; rintro e w2 ⟨rfl, hG2, hB2⟩)
        refine ⟨⟨_, HF2.out, hG2, hB2⟩, ?_⟩
        have h1 := rowSum_is w2 w1.heap.size U _ hG2
        have h2 := sumU_le U _ L HF2.out
        have h3 := HS3.out
        have h4 := HSM.out
        omega
  · have HA := hid (show layI cs nm = -1 by rw [HLI.out, if_neg hm])
    have HH := hid (show hasW U nm = false by
      cases h : hasW U nm
      · rfl
      · exact absurd (List.contains_iff_mem.1 h) hm)
    go_enter Tryz.func45, Tryz.ntmps45
    go_wp2_with (first
      | (go_at_call 74; refine (HNO.out).mono ?_; rintro e w1 ⟨mv, lv, rfl, hC, hS, hUl, hB1⟩)
      | (go_at_call 75; refine (find_c _ w.heap.size w.heap.size mv lv [] 178 U nm (by exact hC) (by exact hS) hnm).mono ?_; rintro e w2 ⟨he, hw2⟩; subst w2; rw [HH.out] at he; subst he))
    go_ret
    rw [HA.out]
    exact ⟨rfl, hB1⟩

end Go.Proofs.YtpbfiffgcgnidaaGreatDoor

namespace Go.Proofs.YtpbfiffgcgnidaaGreatDoor
open Go.RowKit Go.WideMaps Go.Maps
attribute [local go_sem] drewN_alloc drewN_setCell

set_option maxHeartbeats 2000000 in
set_option maxRecDepth 100000 in
theorem rlayer_c (w : World) (base rb : Nat) (v : Value) (l : List RC) (hV : Blk w rb [v] 76) (hL : ClRow w base v l) (hn : l.length ≤ 40) (hb : ∀ c ∈ l, c.body.length ≤ 4) (nm : List UInt8) :
    Calls Tryz.prog 21 #[.pointer (some ⟨rb, 0, none⟩), .string (bs nm)] w fun e w' => e = .returned (.int .i64 (layI l nm)) ∧ Below w.heap.size w w' := by
  obtain ⟨ao, cap, rfl⟩ : ∃ ao cap, v = .slice ao l.length cap := by
    obtain ⟨rows, ho, _, _⟩ := hL
    exact own_form ho
  have v0 : w.cell? ⟨rb, 0, none⟩ = some (.slice ao l.length cap) := hV.cell 0
  have hlr := hV.lt
  have HLI : Hid (layI l nm = if nm ∈ namesA (atomsC l) then ((jacN (edgesC l) (namesA (atomsC l)).length nm : Nat) : Int) else -1) := rfl
  have HNR := hid (names_r w base ao cap l hL hn hb)
  have HIN := hid (names_in l)
  have hUn : (namesA (atomsC l)).length ≤ 200 := by
    have h1 := namesA_len (atomsC l)
    have h2 := atomsC_len l hb
    omega
  have HLY := hid (fun W sb so sc => layers_r W base rb (.slice ao l.length cap) l (hn := hn) (hb := hb) (sbase := sb) (so := so) (scap := sc) (U := namesA (atomsC l)) (hUn := hUn) (hin := names_in l))
  generalize namesA (atomsC l) = U at *
  by_cases hm : nm ∈ U
  · have HA := hid (show layI l nm = ((jacN (edgesC l) U.length nm : Nat) : Int) by rw [HLI.out, if_pos hm])
    have HP := hid (show placeI U nm = ((U.idxOf nm : Nat) : Int) by unfold placeI; rw [if_pos hm])
    have hpl := List.idxOf_lt_length_of_mem hm
    have HRA := hid (rowI_at U (jacN (edgesC l) U.length) nm hm)
    generalize U.idxOf nm = pos at *
    go_enter Tryz.func21, Tryz.ntmps21
    go_wp2_with (first
      | (go_at_call 46; refine (HNR.out).mono ?_; rintro e w1 ⟨uv, rfl, hU, hB1⟩; obtain ⟨so, scap, rfl⟩ := own_form hU; have hV1 := hV.below hB1; have hL1 := hL.below hB1; have hs1 := hB1.size)
      | (go_at_call 47; refine (index_c _ w.heap.size so scap U (by exact hU) (by omega) nm).mono ?_; rintro e w2 ⟨he, hw2⟩; subst w2; rw [HP.out] at he; subst he)
      | (go_at_call 48; refine (HLY.out _ w.heap.size so scap hV1 hL1 hU).mono ?_; rintro e w3 ⟨g, rfl, hG, hB3⟩; have q0 := hG.cell pos; rw [HRA.out] at q0))
    go_ret
    rw [HA.out]
    exact ⟨rfl, hB1.trans (hB3.mono hs1)⟩
  · have HA := hid (show layI l nm = -1 by rw [HLI.out, if_neg hm])
    have HP := hid (show placeI U nm = -1 by unfold placeI; rw [if_neg hm])
    go_enter Tryz.func21, Tryz.ntmps21
    go_wp2_with (first
      | (go_at_call 46; refine (HNR.out).mono ?_; rintro e w1 ⟨uv, rfl, hU, hB1⟩; obtain ⟨so, scap, rfl⟩ := own_form hU)
      | (go_at_call 47; refine (index_c _ w.heap.size so scap U (by exact hU) (by omega) nm).mono ?_; rintro e w2 ⟨he, hw2⟩; subst w2; rw [HP.out] at he; subst he))
    go_ret
    rw [HA.out]
    exact ⟨rfl, hB1⟩

end Go.Proofs.YtpbfiffgcgnidaaGreatDoor

namespace Go.Proofs.YtpbfiffgcgnidaaGreatDoor
open Go.RowKit Go.WideMaps Go.Maps

theorem bs_self (s : ByteArray) : s = bs s.data.toList := by
  apply ByteArray.ext
  simp [bs]
set_option maxHeartbeats 1000000 in
set_option maxRecDepth 100000 in
theorem player_c (w : World) (base bb : Nat) (v : Value) (cs : List RC) (hV : Blk w bb [v] 59) (hL : ClausesIs w base v (cs.map RC.d)) (hF : Fine cs) (nm : List UInt8) (hnm : nm.length ≤ maxLen) :
    Calls Tryz.prog 20 #[.pointer (some ⟨bb, 0, none⟩), .string (bs nm)] w fun e w' => e = .returned (.int .i64 (layI cs nm)) ∧ Below w.heap.size w w' := by
  obtain ⟨ao, cap, rfl⟩ := hL.form
  rw [List.length_map] at hV hL
  have v0 : w.cell? ⟨bb, 0, none⟩ = some (.slice ao cs.length cap) := hV.cell 0
  have hbl := hV.lt
  have HOF := hid (of_c w base ao cap cs hL hF nm hnm)
  go_enter Tryz.func20, Tryz.ntmps20
  go_wp2_with (go_at_call 45; refine (HOF.out).mono ?_; rintro e w1 ⟨rfl, hB1⟩)
  go_ret
  exact ⟨rfl, hB1⟩

theorem step_layered (w : World) (B wb : Nat) (hv : Value) (ps : List PR) (hI : WorldIs w B wb hv ps) (hps : 0 < ps.length) (hn : ps.length ≤ 5000000000000) (kd m : Int) (s : ByteArray) (hs : s.size ≤ maxLen) (lv : Value) (hk : kd ≤ 5) :
    Calls Tryz.prog 10 #[.pointer (some ⟨wb, 0, none⟩), .agg #[.int .i64 kd, .int .i64 m, .string s, lv]] w fun e w' => StepPost w B wb hv ps e w' := by
  by_cases h5 : kd = 5
  · subst h5
    have hsame := hI.same
    have hle := hI.le
    obtain ⟨pv, hW, hP⟩ := hI.row
    obtain ⟨ao, cap, rfl⟩ := own_form hP
    obtain ⟨-, -, hpk⟩ := pick_facts m ps.length hps (by omega)
    obtain ⟨g, rfl, hg, c0, c1⟩ := pair_at hP (pick m ps.length) hpk
    have hi : ps[pick m ps.length]? = some ps[pick m ps.length] := List.getElem?_eq_getElem hpk
    have hds := hsame _ (List.getElem_mem hpk)
    have hx := hI.bases.prog _ _ hi
    have hy := hI.bases.ref _ _ hi
    generalize hxe : ps[pick m ps.length] = x at *
    rw [hds] at hy
    have hf := hx.good
    refine (step_layer_c w wb g ps.length cap x.bb x.rb hv lv m s (layI x.cs s.data.toList) (fun w' => Below w.heap.size w w') (fun w' => Below w.heap.size w w') hW hps (by omega) hg c0 c1 ?_ ?_).mono ?_
    · intro W ob xb hB hO hX
      have hxW := hx.below hB
      rw [bs_self s] at hO ⊢
      refine (player_c W B x.bb x.v x.cs hxW.blk hxW.row hf s.data.toList hs).mono ?_
      rintro e w' ⟨rfl, hB'⟩
      refine ⟨?_, hB.trans (hB'.mono hB.size), hO.below hB', hX.below hB'⟩
      rw [← bs_self s]
    · intro w1 hB1
      have hy1 := hy.below hB1
      rw [bs_self s]
      refine (rlayer_c w1 B x.rb x.r x.cs hy1.blk hy1.row hf.few (fun c hc => (hf.good c hc).small.few) s.data.toList).mono ?_
      rintro e w' ⟨rfl, hB'⟩
      refine ⟨?_, hB1.trans (hB'.mono hB1.size)⟩
      rw [← bs_self s]
    · rintro e w' ⟨rfl, hB⟩
      exact ⟨rfl, ⟨ps, hI.below hB, Nat.le_refl _, by omega⟩, hB.mono hle, fun ob c hb => hb.below hB⟩
  · exact step_kept w B wb hv ps hI hps hn kd m s hs lv (by omega)

theorem layeredLaw_c (w : World) (hE : EndsIs w) (h0 : 0 < w.heap.size) (ao : Option Addr) (a : Addr) (n cap : Nat) (kd m : Nat → Int) (S : Nat → ByteArray) (la : Nat → Option Addr) (ll lc : Nat → Nat) (hn : n ≤ 4000000000000) (hao : 0 < n → ao = some a)
    (hsc : ScriptIs w a n kd m S la ll lc) (hS : ∀ k, k < n → (S k).size ≤ maxLen) :
    Calls Tryz.prog 4 #[.slice ao n cap] w fun e w' => e = .returned (.bool true) ∧ Below w.heap.size w w' := by
  go_enter Tryz.func4, Tryz.ntmps4
  go_wp2_with (go_at_call 8; refine (played w hE h0 ao a n cap kd m S la ll lc 5 5 5 hn hao hsc (fun W ps j hI hps hl hj hk => step_layered W _ _ _ ps hI hps hl (kd j) (m j) (S j) (hS j hj) _ hk)).mono ?_; rintro e w1 ⟨rfl, hB1⟩)
  go_ret
  exact ⟨rfl, hB1⟩

end Go.Proofs.YtpbfiffgcgnidaaGreatDoor
