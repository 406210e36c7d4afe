/-
  OUR OWN. Variables; the terms of positive literals.
-/
import Derived.Test.YtpbfiffgcgnidaaDoorArity
namespace Go.Proofs.YtpbfiffgcgnidaaDoor
open Go.RowKit Go.WideMaps Go.Maps
attribute [local go_sem] drewN_alloc drewN_setCell

theorem bs_size' (k : List UInt8) : (bs k).size = k.length := by simp [bs, ByteArray.size]
def isVar (l : List UInt8) : Bool := great (hd l)

set_option maxHeartbeats 400000 in
theorem isVariable_c (l : List UInt8) (w : World) : Calls Tryd.prog 33 #[.string (bs l)] w fun e w' => e = .returned (.bool (isVar l)) ∧ w' = w := by
  cases l with
  | nil =>
    have h1 : (bs []).toList.isEmpty = true := by rw [Lib.toList_data]; rfl
    go_enter Tryd.func33, Tryd.ntmps33
    go_wp2
    go_ret
    exact ⟨rfl, rfl⟩
  | cons c r =>
    have h1 : (bs (c :: r)).toList.isEmpty = false := by rw [Lib.toList_data]; rfl
    have h2 : 0 < (bs (c :: r)).size := by rw [bs_size']; simp
    have h3 : (bs (c :: r))[0].toNat = c.toNat := rfl
    go_enter Tryd.func33, Tryd.ntmps33
    go_wp2_with (go_at_call 48; refine (isGreat_c _ _).mono ?_; rintro e w' ⟨rfl, rfl⟩)
    go_ret
    exact ⟨rfl, rfl⟩

theorem slice0 (B o : Nat) (w : World) : (Instr.sliceAt 67 (.pointer (some ⟨B, o, none⟩)) none (some (.int .i64 0)) none).run Tryd.prog w = .ok (.slice (some ⟨B, o, none⟩) 0 3) w := by kernel_rfl
theorem slice1 (B o : Nat) (w : World) : (Instr.sliceAt 67 (.pointer (some ⟨B, o, none⟩)) none (some (.int .i64 1)) none).run Tryd.prog w = .ok (.slice (some ⟨B, o, none⟩) 1 3) w := by kernel_rfl
theorem slice2 (B o : Nat) (w : World) : (Instr.sliceAt 67 (.pointer (some ⟨B, o, none⟩)) none (some (.int .i64 2)) none).run Tryd.prog w = .ok (.slice (some ⟨B, o, none⟩) 2 3) w := by kernel_rfl
theorem slice3 (B o : Nat) (w : World) : (Instr.sliceAt 67 (.pointer (some ⟨B, o, none⟩)) none (some (.int .i64 3)) none).run Tryd.prog w = .ok (.slice (some ⟨B, o, none⟩) 3 3) w := by kernel_rfl
/-- The first n of an array's three words. -/
theorem sliceN (n : Nat) (hn : n ≤ 3) (B o : Nat) (w : World) : (Instr.sliceAt 67 (.pointer (some ⟨B, o, none⟩)) none (some (.int .i64 n)) none).run Tryd.prog w = .ok (.slice (some ⟨B, o, none⟩) n 3) w := by
  have h : n = 0 ∨ n = 1 ∨ n = 2 ∨ n = 3 := by omega
  rcases h with rfl | rfl | rfl | rfl
  · exact slice0 B o w
  · exact slice1 B o w
  · exact slice2 B o w
  · exact slice3 B o w
def addW (xs : List (List UInt8)) (k : List UInt8) : List (List UInt8) := if hasW xs k = true then xs else xs ++ [k]
def posStep (xs : List (List UInt8)) (l : LitD) : List (List UInt8) := if l.neg = true then xs else l.ts.foldl addW xs
def posT (ls : List LitD) : List (List UInt8) := ls.foldl posStep []
theorem addW_len (xs : List (List UInt8)) (k : List UInt8) : (addW xs k).length ≤ xs.length + 1 := by unfold addW; split <;> simp

/-- Add, either way. -/
theorem add_any (w : World) (base sb : Nat) (mv lv : Value) (t : TypeId) (xs : List (List UInt8)) (k : List UInt8) (hB : Blk w sb [mv, lv] t) (hS : SetIs w base mv lv xs) (hk : k.length ≤ maxLen) (hn : xs.length ≤ 100000) (ht : t ≠ 9) (hbw : base ≤ w.heap.size) :
    Calls Tryd.prog 47 #[.pointer (some ⟨sb, 0, none⟩), .string (bs k)] w fun e w' => ∃ (p : Nat) (q : Bool) (mv' lv' : Value), e = .returned (.tuple #[.int .i64 p, .bool q]) ∧
      Blk w' sb [mv', lv'] t ∧ SetIs w' base mv' lv' (addW xs k) ∧ KeptX base sb [9] w w' := by
  cases hx : hasW xs k
  · refine (add_new w base sb mv lv [] t xs k hB hS hk hx hn ht hbw).mono ?_
    rintro e w' ⟨rfl, mv', lv', h1, h2, h3⟩
    exact ⟨_, _, mv', lv', rfl, h1, by simpa [addW, hx] using h2, h3⟩
  · refine (add_old w base sb mv lv [] t xs k hB hS hk hx).mono ?_
    rintro e w' ⟨rfl, rfl⟩
    exact ⟨_, _, mv, lv, rfl, hB, by simpa [addW, hx] using hS, KeptX.refl _ _ _ _⟩

set_option maxHeartbeats 2000000 in
set_option maxRecDepth 100000 in
theorem positiveTerms_c (w : World) (base : Nat) (n0 t0 t1 t2 : ByteArray) (c : Int) (ao : Option Addr) (cap : Nat) (lits : List LitD)
    (hL : w.ownsRow base 110 6 (.slice ao lits.length cap) lits.length (lits.flatMap LitD.cells)) (hn : lits.length ≤ 4) (hw : ∀ l ∈ lits, l.ts.length ≤ 3 ∧ ∀ t ∈ l.ts, t.length ≤ 12) :
    Calls Tryd.prog 32 #[.agg #[.string n0, .int .i64 c, .string t0, .string t1, .string t2, .slice ao lits.length cap]] w fun e w' => ∃ tb mv lv, e = .returned (.pointer (some ⟨tb, 0, none⟩)) ∧ w.heap.size ≤ tb ∧
      Blk w' tb [mv, lv] 100 ∧ SetIs w' w.heap.size mv lv (posT lits) ∧ Below w.heap.size w w' := by
  go_enter Tryd.func32, Tryd.ntmps32
  go_wp2
  go_loopw [13] (fun i wr => ∃ (k : Nat) (mv lv : Value), k ≤ lits.length ∧ i = .int .i64 k ∧ ((lits.take k).foldl posStep []).length ≤ 3 * k ∧ Blk wr (w.heap.size + 1) [mv, lv] 100 ∧ SetIs wr w.heap.size mv lv ((lits.take k).foldl posStep []) ∧ Below w.heap.size w wr) (fun i _ => lits.length - (intOf i).toNat)
  case atStart =>
    exact ⟨0, .map none, .slice none 0 0, by omega, rfl, by simp, new_two w _ [.map none, .slice none 0 0] 100, ⟨World.ownsRow_nil _ _ _ _, .inl ⟨rfl, rfl⟩⟩, ((Below.refl _ _).alloc (Nat.le_refl _) _).alloc (by simp) _⟩
  case round =>
    obtain ⟨k, mv, lv, hk, rfl, hxl, hC, hS, hB⟩ := hrel
    by_cases hlt : k < lits.length
    · obtain ⟨g0, rfl, hg0, e0, e1, e2, e3, e4, e5⟩ := lits_at hL k hlt
      have hwl := hw lits[k] (List.getElem_mem hlt)
      have HT : Hid ((lits.take (k + 1)).foldl posStep [] = posStep ((lits.take k).foldl posStep []) lits[k]) := by
        show _ = _
        rw [List.take_succ_eq_append_getElem hlt, List.foldl_append]; rfl
      generalize hlk : lits[k] = L at *
      clear hlk
      generalize hxs : (lits.take k).foldl posStep [] = xs at *
      have HXS := hid hxs
      clear hxs
      rw [← hB.cell (p := ⟨g0, k * 6, none⟩) hg0] at e0
      rw [← hB.cell (p := ⟨g0, k * 6 + 1, none⟩) hg0] at e1
      rw [← hB.cell (p := ⟨g0, k * 6 + 2, none⟩) hg0] at e2
      rw [← hB.cell (p := ⟨g0, k * 6 + 3, none⟩) hg0] at e3
      rw [← hB.cell (p := ⟨g0, k * 6 + 4, none⟩) hg0] at e4
      rw [← hB.cell (p := ⟨g0, k * 6 + 5, none⟩) hg0] at e5
      have hbw : w.heap.size + 1 < wr.heap.size := hC.lt
      cases hng : L.neg
      · have hcn : L.cn = (L.ts.length : Nat) := rfl
        have h3 : L.ts.length ≤ 3 := hwl.1
        rw [hcn] at e1
        rw [hng] at e5
        have hsl := fun W : World => sliceN L.ts.length h3 wr.heap.size 2 W
        have hC0 := hC.alloc (.cells #[Value.string L.nm, .int .i64 (L.ts.length : Nat), .string (L.t 0), .string (L.t 1), .string (L.t 2), .bool false] 110)
        have hS0 := hS.alloc (.cells #[Value.string L.nm, .int .i64 (L.ts.length : Nat), .string (L.t 0), .string (L.t 1), .string (L.t 2), .bool false] 110)
        have hbx0 := Blk.new wr [Value.string L.nm, .int .i64 (L.ts.length : Nat), .string (L.t 0), .string (L.t 1), .string (L.t 2), .bool false] 110
        have hB0 := hB.alloc (by omega) (.cells #[Value.string L.nm, .int .i64 (L.ts.length : Nat), .string (L.t 0), .string (L.t 1), .string (L.t 2), .bool false] 110)
        go_wp2_with fail
        clear e0 e1 e2 e3 e4 e5 hC hS hB hsl hcn
        generalize wr.heap.size = R at *
        go_loopw [26] (fun jv wq => ∃ (j : Nat) (mv lv : Value), j ≤ L.ts.length ∧ jv = .int .i64 j ∧ ((L.ts.take j).foldl addW xs).length ≤ 3 * k + j ∧ Blk wq (w.heap.size + 1) [mv, lv] 100 ∧ SetIs wq w.heap.size mv lv ((L.ts.take j).foldl addW xs) ∧
          Blk wq R [.string L.nm, .int .i64 (L.ts.length : Nat), .string (L.t 0), .string (L.t 1), .string (L.t 2), .bool false] 110 ∧ Below w.heap.size w wq) (fun jv _ => L.ts.length - (intOf jv).toNat)
        case atStart => exact ⟨0, mv, lv, by omega, rfl, by simpa using hxl, hC0, hS0, hbx0, hB0⟩
        case round =>
          clear hC0 hS0 hbx0 hB0
          obtain ⟨j, mv, lv, hj, rfl, hxj, hC, hS, hbx, hB⟩ := hrel
          have hbw1 : w.heap.size + 1 < wr.heap.size := hC.lt
          by_cases hjl : j < L.ts.length
          · have hw12 := hwl.2 L.ts[j] (List.getElem_mem hjl)
            have HA : Hid ((L.ts.take (j + 1)).foldl addW xs = addW ((L.ts.take j).foldl addW xs) L.ts[j]) := by
              show _ = _
              rw [List.take_succ_eq_append_getElem hjl, List.foldl_append]; rfl
            have a0 : wr.cell? ⟨R, 2 + j, none⟩ = some (.string (bs L.ts[j])) := by
              rw [hbx.cell]
              have h : j = 0 ∨ j = 1 ∨ j = 2 := by omega
              rcases h with rfl | rfl | rfl <;> simp [LitD.t, hjl]
            obtain ⟨tm, htm⟩ : ∃ tm, L.ts[j] = tm := ⟨_, rfl⟩
            rw [htm] at a0 hw12 HA
            clear htm
            obtain ⟨ys, hys⟩ : ∃ ys, (L.ts.take j).foldl addW xs = ys := ⟨_, rfl⟩
            rw [hys] at hS hxj HA
            clear hys
            have hal := addW_len ys tm
            go_wp2_with (go_at_call 47; refine (add_any _ w.heap.size (w.heap.size + 1) mv lv 100 ys tm (by exact hC) (by exact hS) (by unfold maxLen; omega) (by omega) (by decide) (by omega)).mono ?_; rintro e w2 ⟨pp, qq, mv', lv', rfl, hC2, hS2, hX2⟩)
            exact ⟨⟨j + 1, mv', lv', hjl, by go_num, by rw [HA.out]; omega, hC2, by rw [HA.out]; exact hS2, hX2.ty _ _ _ (by omega) (by decide) hbx, hB.trans (hX2.toBelow (by omega))⟩, by simp [intOf]; omega⟩
          · have hje : j = L.ts.length := by omega
            have HP : Hid (posStep xs L = (L.ts.take j).foldl addW xs) := by
              show _ = _
              rw [hje, List.take_length]; simp [posStep, hng]
            clear hje
            go_wp2
            exact ⟨⟨k + 1, mv, lv, hlt, by go_num, by rw [HT.out, HP.out]; omega, hC, by rw [HT.out, HP.out]; exact hS, hB⟩, by simp [intOf]; omega⟩
      · rw [hng] at e5
        go_wp2
        have hp : posStep xs L = xs := by simp [posStep, hng]
        exact ⟨⟨k + 1, mv, lv, hlt, by go_num, by rw [HT.out, hp]; omega, hC.alloc _, by rw [HT.out, hp]; exact hS.alloc _, hB.alloc (by omega) _⟩, by simp [intOf]; omega⟩
    · have hke : k = lits.length := by omega
      go_wp2
      go_ret
      subst hke
      rw [List.take_length] at hS
      exact ⟨_, mv, lv, rfl, by omega, hC, hS, hB⟩

end Go.Proofs.YtpbfiffgcgnidaaDoor
