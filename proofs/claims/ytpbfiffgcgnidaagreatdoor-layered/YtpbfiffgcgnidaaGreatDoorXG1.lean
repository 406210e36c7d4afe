/-
  OUR OWN. The document's Layer: the place of a name, and all names.
-/
import Derived.Test.YtpbfiffgcgnidaaGreatDoorXR5
import Derived.Test.YtpbfiffgcgnidaaGreatDoorXA1
import Derived.Test.YtpbfiffgcgnidaaGreatDoorXY2
import Derived.Deep.OwnRows
import Derived.Laws.OwnMore
namespace Go.Proofs.YtpbfiffgcgnidaaGreatDoor
open Go.RowKit Go.WideMaps Go.Maps
attribute [local go_sem] drewN_alloc drewN_setCell

/-- The place of a name; -1: it is not there. -/
def placeI (xs : List (List UInt8)) (k : List UInt8) : Int := if k ∈ xs then (xs.idxOf k : Nat) else -1
theorem idx_drop (xs : List (List UInt8)) (k : List UInt8) (i : Nat) (hi : i < xs.length) (hn : k ∉ xs.take i) (hx : xs[i] = k) : placeI xs k = (i : Nat) := by
  have hm : k ∈ xs := hx ▸ List.getElem_mem hi
  unfold placeI
  rw [if_pos hm]
  have e : xs = xs.take i ++ k :: xs.drop (i + 1) := by
    have := List.take_append_drop i xs
    rw [List.drop_eq_getElem_cons hi, hx] at this
    exact this.symm
  have h2 : xs.idxOf k = i := by
    rw [e, List.idxOf_append, if_neg hn, List.idxOf_cons_self, List.length_take]
    omega
  rw [h2]

set_option maxHeartbeats 400000 in
set_option maxRecDepth 100000 in
theorem index_c (w : World) (base : Nat) (ao : Option Addr) (cap : Nat) (xs : List (List UInt8)) (ho : w.ownsRow base 9 1 (.slice ao xs.length cap) xs.length (xs.map fun x => .string (bs x))) (hn : xs.length ≤ 100000) (k : List UInt8) :
    Calls Tryz.prog 47 #[.slice ao xs.length cap, .string (bs k)] w fun e w' => e = .returned (.int .i64 (placeI xs k)) ∧ w' = w := by
  go_enter Tryz.func47, Tryz.ntmps47
  go_wp2
  go_loopw [5] (fun iv wr => ∃ (i : Nat), i ≤ xs.length ∧ iv = .int .i64 i ∧ Hid (k ∉ xs.take i) ∧ wr = w) (fun iv _ => xs.length - (intOf iv).toNat)
  case atStart => exact ⟨0, by omega, rfl, by show _ ∉ _; simp, rfl⟩
  case round =>
    obtain ⟨i, hi, rfl, HX, rfl⟩ := hrel
    by_cases hlt : i < xs.length
    · obtain ⟨g, rfl, hg⟩ := own_cell ho i hlt
      have hgg : wr.cell? ⟨g, i, none⟩ = some (.string (bs xs[i])) := by rw [hg]; simp [hlt]
      have HD : Hid (∀ (_ : xs[i] ≠ k), k ∉ xs.take (i + 1)) := by
        intro hne hm
        rw [List.take_succ_eq_append_getElem hlt, List.mem_append, List.mem_singleton] at hm
        rcases hm with hm | hm
        · exact HX.out hm
        · exact hne hm.symm
      have HP : Hid (∀ (_ : xs[i] = k), placeI xs k = (i : Nat)) := fun h => idx_drop xs k i hlt HX.out h
      have hq := str_beq xs[i] k
      clear hg
      generalize xs[i] = x at *
      cases hd : decide (x = k)
      · rw [hd] at hq
        have HN := hid (HD.out (by simpa using hd))
        clear HD HP hd
        go_wp2
        exact ⟨⟨i + 1, hlt, by go_num, HN, trivial⟩, by simp [intOf]; omega⟩
      · rw [hd] at hq
        have HE := hid (HP.out (by simpa using hd))
        clear HD HP hd
        go_wp2
        go_ret
        rw [HE.out]
        exact ⟨rfl, rfl⟩
    · have hie : i = xs.length := by omega
      have HE := hid (show placeI xs k = -1 by
        have := HX.out
        rw [hie, List.take_length] at this
        unfold placeI
        rw [if_neg this])
      clear hie
      go_wp2
      go_ret
      rw [HE.out]
      exact ⟨rfl, rfl⟩

/-- All names of atoms, each once. -/
def namesA (l : List RA) : List (List UInt8) := l.foldl (fun xs a => addW xs a.name) []
theorem namesA_step (l : List RA) (i : Nat) (h : i < l.length) : namesA (l.take (i + 1)) = addW (namesA (l.take i)) l[i].name := by
  unfold namesA
  rw [List.take_succ_eq_append_getElem h, List.foldl_append]
  rfl
theorem namesA_len (l : List RA) : (namesA l).length ≤ l.length := by
  have key : ∀ (l : List RA) (xs : List (List UInt8)), (l.foldl (fun xs a => addW xs a.name) xs).length ≤ xs.length + l.length := by
    intro l
    induction l with
    | nil => intro xs; simp
    | cons a r ih =>
      intro xs
      have h1 := ih (addW xs a.name)
      have h2 := addW_len xs a.name
      simp only [List.foldl_cons, List.length_cons]
      omega
  simpa [namesA] using key l []

set_option maxHeartbeats 2000000 in
set_option maxRecDepth 100000 in
theorem names_r (w : World) (base : Nat) (ao : Option Addr) (cap : Nat) (l : List RC) (hL : ClRow w base (.slice ao l.length cap) l) (hn : l.length ≤ 40) (hb : ∀ c ∈ l, c.body.length ≤ 4) :
    Calls Tryz.prog 46 #[.slice ao l.length cap] w fun e w' => ∃ v, e = .returned v ∧ w'.ownsRow w.heap.size 9 1 v (namesA (atomsC l)).length ((namesA (atomsC l)).map fun x => .string (bs x)) ∧ Below w.heap.size w w' := by
  obtain ⟨i1, hi1, hy0, hy1, hy2⟩ := info_parts infoStr
  have HAT := hid (atoms_r w base ao cap l hL hn hb)
  have hlen := atomsC_len l hb
  obtain ⟨all, HAL⟩ : ∃ all, Hid (all = atomsC l) := ⟨_, rfl⟩
  rw [← HAL.out] at HAT hlen ⊢
  clear HAL hL
  go_enter Tryz.func46, Tryz.ntmps46
  go_wp2_with fail
  refine (HAT.out).mono ?_
  rintro e w1 ⟨v, rfl, hG, hB⟩
  obtain ⟨oo, ocap, rfl⟩ := hG.form
  have hs1 := hB.size
  go_wp2_with fail
  go_loopw [3, 5] (fun ov iv wr => ∃ (i : Nat), i ≤ all.length ∧ iv = .int .i64 i ∧ wr.ownsRow w1.heap.size 9 1 ov (namesA (all.take i)).length ((namesA (all.take i)).map fun x => .string (bs x)) ∧ Below w1.heap.size w1 wr) (fun _ iv _ => all.length - (intOf iv).toNat)
  case atStart => exact ⟨0, by omega, rfl, World.ownsRow_nil _ _ _ _, Below.refl _ _⟩
  case round =>
    obtain ⟨i, hi, rfl, ho, hBr⟩ := hrel
    have hl1 := namesA_len (all.take i)
    have hl2 : (all.take i).length ≤ 200 := by simp; omega
    obtain ⟨so, scap, rfl⟩ := own_form ho
    by_cases hlt : i < all.length
    · obtain ⟨g, tv, rfl, hg, b0, b1, b2, b3, b4, hT⟩ := gather_at (hG.below hBr) rfl i hlt
      have HST := hid (namesA_step all i hlt)
      have HW : Hid (all[i].w = bs all[i].name) := rfl
      rw [HW.out] at b0
      generalize all[i].name = nm at *
      generalize namesA (all.take i) = xs at *
      cases hh : hasW xs nm
      · have HN := hid (show namesA (all.take (i + 1)) = xs ++ [nm] by rw [HST.out]; unfold addW; rw [hh]; rfl)
        have HH := hid hh
        clear HST hh
        go_wp2_with (first
          | (go_at_call 34; refine (in_c _ w1.heap.size so scap xs (by exact ho) (by omega) nm).mono ?_; rintro e w2 ⟨he, hw2⟩; subst w2; rw [HH.out] at he; subst he)
          | (at_builtin; refine wpList_append_ownS _ rfl _ _ 31 rfl w1.heap.size 9 i1 _ 1 16 Tryz.underlying31 hi1 hy0 hy1 hy2 rfl (by decide) _ xs.length _ rfl (by exact ho.alloc _) ⟨wr.heap.size, 0, none⟩ 1 [.string (bs nm)] rfl rfl (new_cells _ _ _) (by intro u hu; simp at hu; subst hu; rfl) (by unfold maxLen; omega) (by omega) (by have := hBr.size; simp; omega) ?_; intro g2 cap2 w3 ho3 hg3))
        have hB3 : Below w1.heap.size w1 w3 := (hBr.alloc (hBr.size) _).grown hg3 (by have := hBr.size; simp; omega) (own_base ho)
        exact ⟨⟨i + 1, hlt, by go_num, by rw [HN.out, List.length_append, List.map_append]; exact ho3, hB3⟩, by simp [intOf]; omega⟩
      · have HN := hid (show namesA (all.take (i + 1)) = xs by rw [HST.out]; unfold addW; rw [hh]; rfl)
        have HH := hid hh
        clear HST hh
        go_wp2_with (go_at_call 34; refine (in_c _ w1.heap.size so scap xs (by exact ho) (by omega) nm).mono ?_; rintro e w2 ⟨he, hw2⟩; subst w2; rw [HH.out] at he; subst he)
        exact ⟨⟨i + 1, hlt, by go_num, by rw [HN.out]; exact ho, hBr⟩, by simp [intOf]; omega⟩
    · have hie : i = all.length := by omega
      have HE := hid (show namesA (all.take i) = namesA all by rw [hie, List.take_length])
      clear hie
      go_wp2_with fail
      go_ret
      rw [← HE.out]
      exact ⟨_, rfl, own_mono ho hs1, hB.trans (hBr.mono hs1)⟩

end Go.Proofs.YtpbfiffgcgnidaaGreatDoor

namespace Go.Proofs.YtpbfiffgcgnidaaGreatDoor
open Go.RowKit Go.WideMaps Go.Maps
attribute [local go_sem] drewN_alloc drewN_setCell

theorem infoInt2 : (Tryz.prog.info? 3).map (fun i => (i.zero, i.size, i.bytes)) = some (some (.int .i64 0), 1, 8) := by kernel_rfl
theorem make_ints (n : Nat) (hn : n ≤ 100000) (W : World) : (Instr.makeSlice 97 (.int .i64 (n : Int)) (.int .i64 (n : Int))).run Tryz.prog W = .ok (.slice (some ⟨W.heap.size, 0, none⟩) n n) (W.alloc (.cells (List.replicate n (.int .i64 0)).toArray 3)) := by
  rw [Go.run_make_row' 97 3 (.int .i64 0) 8 Tryz.underlying97 infoInt2 rfl .i64 .i64 n (by omega) (by omega) W]
  congr 3
  rw [← Go.toList_madeCells_one]
/-- A row of numbers by name. -/
def rowI (U : List (List UInt8)) (f : List UInt8 → Nat) : List Value := U.map fun x => .int .i64 (f x : Nat)
theorem rowI_zero (U : List (List UInt8)) : rowI U (fun _ => 0) = List.replicate U.length (.int .i64 0) := by
  unfold rowI
  rw [List.map_const']
  rfl
theorem rowI_at (U : List (List UInt8)) (f : List UInt8 → Nat) (k : List UInt8) (hk : k ∈ U) : (rowI U f)[U.idxOf k]? = some (.int .i64 (f k : Nat)) := by
  unfold rowI
  rw [List.getElem?_map, List.getElem?_eq_getElem (List.idxOf_lt_length_of_mem hk), List.getElem_idxOf]
  rfl
/-- The row while it is filled: done up to j. -/
def rowM (U : List (List UInt8)) (f : List UInt8 → Nat) (j : Nat) : List Value := rowI (U.take j) f ++ List.replicate (U.length - j) (.int .i64 0)
theorem rowM_len (U : List (List UInt8)) (f : List UInt8 → Nat) (j : Nat) (hj : j ≤ U.length) : (rowM U f j).length = U.length := by
  unfold rowM rowI
  simp
  omega
theorem rowM_at (U : List (List UInt8)) (f : List UInt8 → Nat) (j : Nat) (hj : j < U.length) : (rowM U f j)[j]? = some (.int .i64 (0 : Nat)) := by
  unfold rowM rowI
  rw [List.getElem?_append_right (by simp; omega), List.getElem?_replicate, List.length_map, List.length_take, if_pos (by omega)]
  rfl
theorem rowM_step (U : List (List UInt8)) (f : List UInt8 → Nat) (j : Nat) (hj : j < U.length) : (rowM U f j).set j (.int .i64 (f U[j] : Nat)) = rowM U f (j + 1) := by
  unfold rowM rowI
  have hl : ((U.take j).map fun x => Value.int .i64 (f x : Nat)).length = j := by simp; omega
  rw [List.set_append_right _ _ (by omega), hl, Nat.sub_self]
  rw [show U.length - j = (U.length - (j + 1)) + 1 by omega, List.replicate_succ, List.set_cons_zero, List.take_succ_eq_append_getElem hj, List.map_append, List.append_assoc]
  rfl
theorem rowM_done (U : List (List UInt8)) (f : List UInt8 → Nat) : rowM U f U.length = rowI U f := by
  unfold rowM
  rw [List.take_length, Nat.sub_self]
  simp

theorem new_zero (w : World) (U : List (List UInt8)) : Blk (w.alloc (.cells (Array.replicate U.length (.int .i64 0)) 3)) w.heap.size (rowI U (fun _ => 0)) 3 := by
  have h := Blk.new w (rowI U (fun _ => 0)) 3
  rw [rowI_zero, List.toArray_replicate] at h
  rw [rowI_zero]
  exact h
theorem rowM_zero (U : List (List UInt8)) (f : List UInt8 → Nat) : rowM U f 0 = rowI U (fun _ => 0) := by
  rw [rowI_zero]
  unfold rowM rowI
  simp
theorem rowM_set0 (U : List (List UInt8)) (f : List UInt8 → Nat) (j : Nat) (hj : j < U.length) : (rowM U f j).set j (.int .i64 ((0 : Nat) : Int)) = rowM U f j := by
  have h := rowM_at U f j hj
  obtain ⟨hl, he⟩ := List.getElem?_eq_some_iff.1 h
  rw [← he, List.set_getElem_self]
/-- The names of a list of clauses are all in a list. -/
def NamesIn (l : List RC) (U : List (List UInt8)) : Prop := ∀ c ∈ l, c.head.name ∈ U ∧ ∀ a ∈ c.body, a.name ∈ U
theorem int_gt (a b : Nat) : decide ((a : Int) < (b : Int)) = decide (a < b) := by simp

set_option maxHeartbeats 4000000 in
set_option maxRecDepth 100000 in
theorem layers_r (w : World) (base rb : Nat) (v : Value) (l : List RC) (hV : Blk w rb [v] 76) (hL : ClRow w base v l) (hn : l.length ≤ 40) (hb : ∀ c ∈ l, c.body.length ≤ 4) (sbase : Nat) (so : Option Addr) (scap : Nat) (U : List (List UInt8)) (hU : w.ownsRow sbase 9 1 (.slice so U.length scap) U.length (U.map fun x => .string (bs x))) (hUn : U.length ≤ 200) (hin : NamesIn l U) :
    Calls Tryz.prog 48 #[.pointer (some ⟨rb, 0, none⟩), .slice so U.length scap] w fun e w' => ∃ g, e = .returned (.slice (some ⟨g, 0, none⟩) U.length U.length) ∧ Blk w' g (rowI U (jacN (edgesC l) U.length)) 3 ∧ Below w.heap.size w w' := by
  have HIN := hid hin
  have HBD := hid hb
  obtain ⟨ao, cap, rfl⟩ : ∃ ao cap, v = .slice ao l.length cap := by
    obtain ⟨rows, ho, _, _⟩ := hL
    exact own_form ho
  have hmk := make_ints U.length (by omega)
  clear hin hb
  go_enter Tryz.func48, Tryz.ntmps48
  go_wp2_with fail
  go_loopw [5, 6] (fun wv sv wr => ∃ (t g : Nat), t ≤ U.length ∧ sv = .int .i64 t ∧ wv = .slice (some ⟨g, 0, none⟩) U.length U.length ∧ w.heap.size ≤ g ∧ Blk wr g (rowI U (jacN (edgesC l) t)) 3 ∧ Below w.heap.size w wr) (fun _ sv _ => U.length - (intOf sv).toNat)
  case atStart => exact ⟨0, w.heap.size, by omega, rfl, rfl, Nat.le_refl _, new_zero w U, below_alloc _ _⟩
  case round =>
    obtain ⟨t, g1, ht, rfl, rfl, hg1, hK, hB⟩ := hrel
    by_cases hlt : t < U.length
    · have HF := hid (jacN_bound (edgesC l) t)
      have HNX : Hid (jacN (edgesC l) (t + 1) = jac (edgesC l) (jacN (edgesC l) t)) := rfl
      generalize jacN (edgesC l) t = f at *
      have hg1l := hK.lt
      have hK0 := hK.alloc (.cells (Array.replicate U.length (.int .i64 0)) 3)
      have hM0 := new_zero wr U
      rw [← rowM_zero U (jac (edgesC l) f)] at hM0
      have hB0 := hB.alloc hB.size (.cells (Array.replicate U.length (.int .i64 0)) 3)
      have hsz := hB.size
      go_wp2_with fail
      generalize hg2 : wr.heap.size = g2 at *
      clear hmk
      have HG2 := hid hg2
      clear hg2
      go_loopw [8] (fun pv wx => ∃ (j : Nat), j ≤ U.length ∧ pv = .int .i64 j ∧ Blk wx g1 (rowI U f) 3 ∧ Blk wx g2 (rowM U (jac (edgesC l) f) j) 3 ∧ Below w.heap.size w wx) (fun pv _ => U.length - (intOf pv).toNat)
      case atStart => exact ⟨0, by omega, rfl, hK0, hM0, hB0⟩
      case round =>
        clear hK0 hM0 hB0 hK
        obtain ⟨j, hj, rfl, hK1, hM, hBx⟩ := hrel
        by_cases hjl : j < U.length
        · have HS0 := hid (rowM_set0 U (jac (edgesC l) f) j hjl)
          have HST := hid (rowM_step U (jac (edgesC l) f) j hjl)
          have HML := hid (rowM_len U (jac (edgesC l) f) j (by omega))
          have HJC : Hid (jac (edgesC l) f U[j] = jacGo f U[j] 0 (edgesC l)) := rfl
          obtain ⟨gu, rfl, hgu⟩ := own_cell hU j hjl
          have hgul : gu < w.heap.size := (hU.lt gu rfl).2
          have u0 : w.cell? ⟨gu, j, none⟩ = some (.string (bs U[j])) := by rw [hgu]; simp [hjl]
          clear hgu
          generalize U[j] = p at *
          rw [← HS0.out] at hM
          generalize rowM U (jac (edgesC l) f) j = R at *
          go_wp2_with fail
          go_loopw [9] (fun iv wx => ∃ (i : Nat), i ≤ l.length ∧ iv = .int .i64 i ∧ Blk wx g1 (rowI U f) 3 ∧ Blk wx g2 (R.set j (.int .i64 (jacGo f p 0 (edgesC (l.take i)) : Nat))) 3 ∧ Below w.heap.size w wx) (fun iv _ => l.length - (intOf iv).toNat)
          case atStart => exact ⟨0, by omega, rfl, hK1, hM, hBx⟩
          case round =>
            clear hM hK1 hBx
            obtain ⟨i, hi, rfl, hK2, hM2, hB2⟩ := hrel
            have v0 : wr.cell? ⟨rb, 0, none⟩ = some (.slice ao l.length cap) := by
              rw [hB2.cell (p := ⟨rb, 0, none⟩) hV.lt]
              exact hV.cell 0
            have hrl : rb < wr.heap.size := by have := hV.lt; have := hB2.size; omega
            by_cases hil : i < l.length
            · obtain ⟨gc, tv, bo, bcap, rfl, hgc, b0, b1, b2, b3, b4, b5, hT, hR⟩ := rclause_at hL rfl i hil
              have HCL := hid (jacGo_clause f p l i hil)
              have hbl := HBD.out l[i] (List.getElem_mem hil)
              have HNI := hid (HIN.out l[i] (List.getElem_mem hil))
              have HW : Hid (l[i].head.w = bs l[i].head.name) := rfl
              rw [HW.out] at b0
              generalize l[i] = c at *
              have hm0 := jacGo_bound f p 0 t (edgesC (l.take i)) (by omega) HF.out
              generalize jacGo f p 0 (edgesC (l.take i)) = m0 at *
              by_cases hc : c.head.name = p
              · have hq : ((bs c.head.name).toList == (bs p).toList) = true := by rw [str_beq]; simpa using hc
                have HLT := hid (fun k hk => jacGo_lit f p m0 c k hk hc)
                have HBK := hid (fun k => jacGo_bound f p m0 t (c.edges.take k) hm0 HF.out)
                have HEN := hid (show c.edges.take c.body.length = c.edges by
                  rw [show c.body.length = c.edges.length by simp [RC.edges]]
                  exact List.take_length)
                have hM3 : Blk wr g2 (R.set j (.int .i64 (jacGo f p m0 (c.edges.take 0) : Nat))) 3 := hM2
                clear hM2 b1 b2 b3 b4
                go_wp2_with fail
                go_loopw [10] (fun kv wx => ∃ (k : Nat), k ≤ c.body.length ∧ kv = .int .i64 k ∧ Blk wx g1 (rowI U f) 3 ∧ Blk wx g2 (R.set j (.int .i64 (jacGo f p m0 (c.edges.take k) : Nat))) 3 ∧ Below w.heap.size w wx) (fun kv _ => c.body.length - (intOf kv).toNat)
                case atStart => exact ⟨0, by omega, rfl, hK2, hM3, hB2⟩
                case round =>
                  clear hM3 hK2 hB2 v0 hrl
                  obtain ⟨k, hk, rfl, hK3, hM4, hB3⟩ := hrel
                  have v0 : wr.cell? ⟨rb, 0, none⟩ = some (.slice (some ⟨gc, 0, none⟩) l.length cap) := by
                    rw [hB3.cell (p := ⟨rb, 0, none⟩) hV.lt]
                    exact hV.cell 0
                  have hrl : rb < wr.heap.size := by have := hV.lt; have := hB3.size; omega
                  have hgl1 := hK3.lt
                  have hgl2 := hM4.lt
                  have c0 : wr.cell? ⟨gc, i * 6, none⟩ = some (.string (bs c.head.name)) := by rw [hB3.cell (p := ⟨gc, i * 6, none⟩) hgc]; exact b0
                  have c5 : wr.cell? ⟨gc, i * 6 + 5, none⟩ = some (.slice bo c.body.length bcap) := by rw [hB3.cell (p := ⟨gc, i * 6 + 5, none⟩) hgc]; exact b5
                  have u1 : wr.cell? ⟨gu, j, none⟩ = some (.string (bs p)) := by rw [hB3.cell (p := ⟨gu, j, none⟩) hgul]; exact u0
                  by_cases hkl : k < c.body.length
                  · obtain ⟨ga, ta, rfl, hga, a0, a1, a2, a3, a4, hTa⟩ := ratom_at hR rfl k hkl
                    have d0 : wr.cell? ⟨ga, k * 5, none⟩ = some (.string c.body[k].w) := by rw [hB3.cell (p := ⟨ga, k * 5, none⟩) hga]; exact a0
                    have d1 : wr.cell? ⟨ga, k * 5 + 1, none⟩ = some ta := by rw [hB3.cell (p := ⟨ga, k * 5 + 1, none⟩) hga]; exact a1
                    have d2 : wr.cell? ⟨ga, k * 5 + 2, none⟩ = some (.int .i64 (c.body[k].pl : Nat)) := by rw [hB3.cell (p := ⟨ga, k * 5 + 2, none⟩) hga]; exact a2
                    have d3 : wr.cell? ⟨ga, k * 5 + 3, none⟩ = some (.int .i64 (c.body[k].bang : Nat)) := by rw [hB3.cell (p := ⟨ga, k * 5 + 3, none⟩) hga]; exact a3
                    have d4 : wr.cell? ⟨ga, k * 5 + 4, none⟩ = some (.bool c.body[k].neg) := by rw [hB3.cell (p := ⟨ga, k * 5 + 4, none⟩) hga]; exact a4
                    obtain ⟨tq, tcap, rfl⟩ := own_form hTa
                    have HNM := hid (HNI.out.2 c.body[k] (List.getElem_mem hkl))
                    have HST2 := hid (HLT.out k hkl)
                    have HWA : Hid (c.body[k].w = bs c.body[k].name) := rfl
                    rw [HWA.out] at d0
                    clear a0 a1 a2 a3 a4 hTa HLT
                    have HJL := hid (show j < R.length by rw [HML.out]; exact hjl)
                    have hgal : ga < wr.heap.size := by have := hB3.size; omega
                    have hUw := own_below hU (hB3.mono (Nat.le_refl _))
                    generalize c.body[k] = x at *
                    have hm1 := HBK.out k
                    generalize jacGo f p m0 (c.edges.take k) = m at *
                    have hfx := HF.out x.name
                    have q1 := hK3.cell (U.idxOf x.name)
                    rw [rowI_at U f x.name HNM.out] at q1
                    have q2 := hM4.cell j
                    rw [List.getElem?_set_self HJL.out] at q2
                    have hpl := List.idxOf_lt_length_of_mem HNM.out
                    have HPL := hid (show placeI U x.name = ((U.idxOf x.name : Nat) : Int) by unfold placeI; rw [if_pos HNM.out])
                    generalize U.idxOf x.name = pos at *
                    generalize f x.name = fx at *
                    have fM := hM4.frozen
                    cases hng : x.neg
                    · rw [hng] at d4
                      simp only [hng, Bool.false_eq_true, if_false, Nat.add_zero] at HST2
                      by_cases hup : m < fx
                      · have HV := hid (show jacGo f p m0 (c.edges.take (k + 1)) = fx by rw [HST2.out, if_pos (by omega)])
                        have hlm : ((m : Nat) : Int) < ((fx : Nat) : Int) := by omega
                        clear HST2
                        go_wp2_with fail
                        go_region
                        go_wp2_with (go_at_call 47; refine (index_c _ sbase (some ⟨gu, 0, none⟩) scap U (by exact (hUw.alloc _).drew) (by omega) x.name).mono ?_; rintro e w2 ⟨he, hw2⟩; subst w2; rw [HPL.out] at he; subst he)
                        refine ⟨⟨k + 1, hkl, rfl, ((hK3.setOther ⟨g2, j, none⟩ _ (by show g1 ≠ g2; omega)).alloc _).drew, ?_, ((hB3.setCell (p := ⟨g2, j, none⟩) hsz _).alloc (by have := hB3.size; simp; omega) _).drew⟩, by simp [intOf]; omega⟩
                        have h5 := ((hM4.setCell j (.int .i64 (((fx : Nat) : Nat) : Int))).alloc (.cells #[.string (bs x.name), .slice tq x.ts.length tcap, .int .i64 (x.pl : Nat), .int .i64 (x.bang : Nat), .bool false] 69)).drew
                        rw [List.set_set] at h5
                        rw [HV.out]
                        exact h5
                      · have HV := hid (show jacGo f p m0 (c.edges.take (k + 1)) = m by rw [HST2.out, if_neg (by omega)])
                        have hlm : ¬ ((m : Nat) : Int) < ((fx : Nat) : Int) := by omega
                        clear HST2
                        go_wp2_with fail
                        go_region
                        go_wp2_with (go_at_call 47; refine (index_c _ sbase (some ⟨gu, 0, none⟩) scap U (by exact (hUw.alloc _).drew) (by omega) x.name).mono ?_; rintro e w2 ⟨he, hw2⟩; subst w2; rw [HPL.out] at he; subst he)
                        exact ⟨⟨k + 1, hkl, rfl, (hK3.alloc _).drew, by rw [HV.out]; exact (hM4.alloc _).drew, (hB3.alloc hB3.size _).drew⟩, by simp [intOf]; omega⟩
                    · rw [hng] at d4
                      simp only [hng, if_true] at HST2
                      by_cases hup : m < fx + 1
                      · have HV := hid (show jacGo f p m0 (c.edges.take (k + 1)) = fx + 1 by rw [HST2.out, if_pos (by omega)])
                        have hlm : ((m : Nat) : Int) < ((fx : Nat) : Int) + 1 := by omega
                        clear HST2
                        go_wp2_with fail
                        go_region
                        go_wp2_with (go_at_call 47; refine (index_c _ sbase (some ⟨gu, 0, none⟩) scap U (by exact (hUw.alloc _).drew) (by omega) x.name).mono ?_; rintro e w2 ⟨he, hw2⟩; subst w2; rw [HPL.out] at he; subst he)
                        refine ⟨⟨k + 1, hkl, rfl, ((hK3.setOther ⟨g2, j, none⟩ _ (by show g1 ≠ g2; omega)).alloc _).drew, ?_, ((hB3.setCell (p := ⟨g2, j, none⟩) hsz _).alloc (by have := hB3.size; simp; omega) _).drew⟩, by simp [intOf]; omega⟩
                        have h5 := ((hM4.setCell j (.int .i64 (((fx + 1 : Nat) : Nat) : Int))).alloc (.cells #[.string (bs x.name), .slice tq x.ts.length tcap, .int .i64 (x.pl : Nat), .int .i64 (x.bang : Nat), .bool true] 69)).drew
                        rw [List.set_set] at h5
                        rw [HV.out]
                        exact h5
                      · have HV := hid (show jacGo f p m0 (c.edges.take (k + 1)) = m by rw [HST2.out, if_neg (by omega)])
                        have hlm : ¬ ((m : Nat) : Int) < ((fx : Nat) : Int) + 1 := by omega
                        clear HST2
                        go_wp2_with fail
                        go_region
                        go_wp2_with (go_at_call 47; refine (index_c _ sbase (some ⟨gu, 0, none⟩) scap U (by exact (hUw.alloc _).drew) (by omega) x.name).mono ?_; rintro e w2 ⟨he, hw2⟩; subst w2; rw [HPL.out] at he; subst he)
                        exact ⟨⟨k + 1, hkl, rfl, (hK3.alloc _).drew, by rw [HV.out]; exact (hM4.alloc _).drew, (hB3.alloc hB3.size _).drew⟩, by simp [intOf]; omega⟩
                  · have hke : k = c.body.length := by omega
                    have HE := hid (show jacGo f p 0 (edgesC (l.take (i + 1))) = jacGo f p m0 (c.edges.take k) by rw [HCL.out, hke, HEN.out])
                    clear hke
                    go_wp2_with fail
                    go_region
                    go_wp2_with fail
                    exact ⟨⟨i + 1, hil, rfl, hK3.drew, by rw [HE.out]; exact hM4.drew, hB3.drew⟩, by simp [intOf]; omega⟩
              · have hq : ((bs c.head.name).toList == (bs p).toList) = false := by rw [str_beq]; simpa using hc
                have HO := hid (show jacGo f p 0 (edgesC (l.take (i + 1))) = m0 by
                  rw [HCL.out]
                  exact jacGo_other f p m0 c.edges (by
                    intro e he
                    unfold RC.edges at he
                    obtain ⟨a, _, rfl⟩ := List.mem_map.1 he
                    exact hc))
                have c0 : wr.cell? ⟨gc, i * 6, none⟩ = some (.string (bs c.head.name)) := by rw [hB2.cell (p := ⟨gc, i * 6, none⟩) hgc]; exact b0
                have c5 : wr.cell? ⟨gc, i * 6 + 5, none⟩ = some (.slice bo c.body.length bcap) := by rw [hB2.cell (p := ⟨gc, i * 6 + 5, none⟩) hgc]; exact b5
                have u1 : wr.cell? ⟨gu, j, none⟩ = some (.string (bs p)) := by rw [hB2.cell (p := ⟨gu, j, none⟩) hgul]; exact u0
                clear b0 b1 b2 b3 b4 b5 HCL hc
                go_wp2_with fail
                go_loopw [10] (fun kv wx => kv = .int .i64 0 ∧ wx = wr) (fun _ _ => 0)
                case atStart => exact ⟨rfl, rfl⟩
                case round =>
                  obtain ⟨rfl, rfl⟩ := hrel
                  by_cases hbz : 0 < c.body.length
                  · have hbz' : (0 : Int) < (c.body.length : Int) := by omega
                    go_wp2_with fail
                    go_region
                    go_wp2_with fail
                    exact ⟨⟨i + 1, hil, rfl, hK2.drew, by rw [HO.out]; exact hM2.drew, hB2.drew⟩, by simp [intOf]; omega⟩
                  · have hbz' : ¬ (0 : Int) < (c.body.length : Int) := by omega
                    go_wp2_with fail
                    go_region
                    go_wp2_with fail
                    exact ⟨⟨i + 1, hil, rfl, hK2.drew, by rw [HO.out]; exact hM2.drew, hB2.drew⟩, by simp [intOf]; omega⟩
            · have hie : i = l.length := by omega
              rw [hie, List.take_length, ← HJC.out, HST.out] at hM2
              clear hie
              go_wp2_with fail
              exact ⟨⟨j + 1, hjl, rfl, hK2, hM2, hB2⟩, by simp [intOf]; omega⟩
        · have hje : j = U.length := by omega
          have HE := hid (rowM_done U (jac (edgesC l) f))
          rw [← hje] at HE
          clear hje
          rw [HE.out] at hM
          go_wp2_with fail
          exact ⟨⟨t + 1, g2, hlt, rfl, rfl, hsz, by rw [HNX.out]; exact hM, hBx⟩, by simp [intOf]; omega⟩
    · have hte : t = U.length := by omega
      have HE := hid (show jacN (edgesC l) t = jacN (edgesC l) U.length by rw [hte])
      clear hte
      go_wp2_with fail
      go_ret
      rw [← HE.out]
      exact ⟨g1, rfl, hK, hB⟩

end Go.Proofs.YtpbfiffgcgnidaaGreatDoor
