/-
  OUR OWN. The generic set of strings: what it is in memory; Has, Len, At.
-/
import Derived.Test.YtpbfiffgcgnidaaGreatDoorXC1
import Derived.Maps.OwnSet
import Derived.Maps.Keyed
namespace Go.Proofs.YtpbfiffgcgnidaaGreatDoor
open Go.RowKit Go.WideMaps Go.Maps
attribute [local go_sem] drewN_alloc drewN_setCell

theorem law9 : Keyed Tryz.prog 9 := string_keyed Tryz.underlying9
theorem zero3 (w : World) : (zeroValue 3).run Tryz.prog w = .ok (.int .i64 0) w := by kernel_rfl

/-- Where a word stands among words; 0 if nowhere. -/
def posIn (xs : List (List UInt8)) (k : List UInt8) : Nat := if k ∈ xs then xs.idxOf k else 0
theorem key_string (k : List UInt8) : WideAt.IsKeyLit (.string k) := by simp [WideAt.IsKeyLit]
theorem bs_size (k : List UInt8) : (bs k).size = k.length := by simp [bs, ByteArray.size]
def hasW (xs : List (List UInt8)) (k : List UInt8) : Bool := xs.contains k
def atW (xs : List (List UInt8)) (i : Nat) : ByteArray := bs (xs.getD i [])
def MapOf (D : DataW Unit) (xs : List (List UInt8)) : Prop :=
  IsMap D ∧ ∀ k : List UInt8, Maps.has D (.string k) = hasW xs k ∧ D.atKey (.string k) (.lit (.int .i64 0)) = .lit (.int .i64 (posIn xs k))
theorem MapOf.nil : MapOf (.map []) [] := ⟨isMap_empty, fun _ => ⟨rfl, rfl⟩⟩
theorem MapOf.put {D : DataW Unit} {xs : List (List UInt8)} (h : MapOf D xs) (k : List UInt8) (hk : k ∉ xs) : MapOf (D.put (.string k) (.lit (.int .i64 xs.length))) (xs ++ [k]) := by
  refine ⟨h.1.put _ _, fun j => ?_⟩
  by_cases hj : j = k
  · subst hj
    rw [has_put_same h.1 (key_string j), atKey_put_same h.1 (key_string j)]
    refine ⟨by simp [hasW], ?_⟩
    have : posIn (xs ++ [j]) j = xs.length := by simp [posIn, List.idxOf_append, hk]
    rw [this]
  · have hne : (Lit.string j) ≠ .string k := by intro e; exact hj (by injection e)
    rw [has_put_other hne, atKey_put_other hne, (h.2 j).1, (h.2 j).2]
    refine ⟨by simp [hasW, hj], ?_⟩
    have : posIn (xs ++ [k]) j = posIn xs j := by
      by_cases hx : j ∈ xs
      · simp [posIn, hx, List.idxOf_append]
      · simp [posIn, hx, hj]
    rw [this]

/-- A set of words: its map and its list. -/
def SetIs (w : World) (base : Nat) (mv lv : Value) (xs : List (List UInt8)) : Prop :=
  w.ownsRow base 9 1 lv xs.length (xs.map fun x => .string (bs x)) ∧
  ((mv = .map none ∧ xs = []) ∨ ∃ r D, mv = .map (some r) ∧ base ≤ r ∧ w.ownsMap (H := Unit) Tryz.prog 9 (plainElem Tryz.prog 3) r xs.length D ∧ MapOf D xs)

set_option maxHeartbeats 400000 in
theorem find_c (w : World) (base sb : Nat) (mv lv : Value) (more : List Value) (t : TypeId) (xs : List (List UInt8)) (k : List UInt8) (hB : Blk w sb (mv :: lv :: more) t) (hS : SetIs w base mv lv xs) (hk : k.length ≤ maxLen) :
    Calls Tryz.prog 75 #[.pointer (some ⟨sb, 0, none⟩), .string (bs k)] w fun e w' => e = .returned (.tuple #[.int .i64 (posIn xs k : Nat), .bool (hasW xs k)]) ∧ w' = w := by
  have c0 : w.cell? ⟨sb, 0, none⟩ = some mv := hB.cell 0
  have hkey : keyOf Tryz.prog 9 (.string (bs k)) = some (.string k) := keyOf_string_mk Tryz.underlying9 (by rw [bs_size]; exact hk)
  rcases hS.2 with ⟨rfl, rfl⟩ | ⟨r, D, rfl, hr, hown, hD⟩
  · have hnil := fun w : World => look_nil (w := w) true law9 Tryz.underlying176 (zero3 w) hkey
    go_enter Tryz.func75, Tryz.ntmps75
    go_wp2
    go_ret2
    exact ⟨rfl, rfl⟩
  · obtain ⟨hh, ha⟩ := hD.2 k
    obtain ⟨p, HP⟩ : ∃ p : Int, Hid (p = (posIn xs k : Nat)) := ⟨_, rfl⟩
    rw [← HP.out] at ha ⊢
    go_enter Tryz.func75, Tryz.ntmps75
    go_wp2_with (at_lookup; refine wpList_lookup_own_ok_int _ rfl _ _ 176 rfl 9 3 .i64 law9 Tryz.underlying176 Tryz.underlying3 (zero3 _) r xs.length D rfl hown _ _ rfl hkey ?_; intro cL hat hwc; rw [hh]; have hcl : cL = p := (by rw [ha] at hat; simpa using hat.symm); subst hcl)
    go_ret2
    exact ⟨rfl, rfl⟩

set_option maxHeartbeats 400000 in
theorem has_c (w : World) (base sb : Nat) (mv lv : Value) (more : List Value) (t : TypeId) (xs : List (List UInt8)) (k : List UInt8) (hB : Blk w sb (mv :: lv :: more) t) (hS : SetIs w base mv lv xs) (hk : k.length ≤ maxLen) :
    Calls Tryz.prog 95 #[.pointer (some ⟨sb, 0, none⟩), .string (bs k)] w fun e w' => e = .returned (.bool (hasW xs k)) ∧ w' = w := by
  obtain ⟨p, HP⟩ : ∃ p : Int, Hid (p = (posIn xs k : Nat)) := ⟨_, rfl⟩
  go_enter Tryz.func95, Tryz.ntmps95
  go_wp2_with (go_at_call 75; refine (find_c _ base sb mv lv more t xs k hB hS hk).mono ?_; rintro e w1 ⟨he, rfl⟩; rw [← HP.out] at he; subst he)
  go_ret
  exact ⟨rfl, rfl⟩

set_option maxHeartbeats 400000 in
theorem len_c (w : World) (base sb : Nat) (mv lv : Value) (more : List Value) (t : TypeId) (xs : List (List UInt8)) (hB : Blk w sb (mv :: lv :: more) t) (hS : SetIs w base mv lv xs) :
    Calls Tryz.prog 76 #[.pointer (some ⟨sb, 0, none⟩)] w fun e w' => e = .returned (.int .i64 xs.length) ∧ w' = w := by
  obtain ⟨ao, cap, rfl⟩ := own_form hS.1
  have c1 : w.cell? ⟨sb, 1, none⟩ = some (.slice ao xs.length cap) := hB.cell 1
  go_enter Tryz.func76, Tryz.ntmps76
  go_wp2
  go_ret
  exact ⟨rfl, rfl⟩

theorem own_cell {w : World} {base : Nat} {e : TypeId} {ao : Option Addr} {n cap : Nat} {xs : List Value} (h : w.ownsRow base e 1 (.slice ao n cap) n xs) (j : Nat) (hj : j < n) : ∃ g, ao = some ⟨g, 0, none⟩ ∧ w.cell? ⟨g, j, none⟩ = xs[j]? := by
  rcases h.2 with ⟨h1, h2⟩ | ⟨g, cap', cur, h1, _, _⟩
  · omega
  · injection h1 with h1
    refine ⟨g, h1, ?_⟩
    subst h1
    have hl : j < xs.length := by have := h.1; omega
    have := h.cells (g := g) rfl j xs[j] (by simp [hl])
    rw [Addr.add_lit, Nat.zero_add] at this
    rw [this]; simp [hl]

set_option maxHeartbeats 400000 in
theorem at_c (w : World) (base sb : Nat) (mv lv : Value) (more : List Value) (t : TypeId) (xs : List (List UInt8)) (hB : Blk w sb (mv :: lv :: more) t) (hS : SetIs w base mv lv xs) (i : Nat) (hi : i < xs.length) :
    Calls Tryz.prog 138 #[.pointer (some ⟨sb, 0, none⟩), .int .i64 i] w fun e w' => e = .returned (.string (atW xs i)) ∧ w' = w := by
  obtain ⟨ao, cap, rfl⟩ := own_form hS.1
  have c1 : w.cell? ⟨sb, 1, none⟩ = some (.slice ao xs.length cap) := hB.cell 1
  obtain ⟨g, rfl, hg⟩ := own_cell hS.1 i hi
  have hgg : w.cell? ⟨g, i, none⟩ = some (.string (atW xs i)) := by rw [hg]; simp [hi, atW]
  clear hg
  go_enter Tryz.func138, Tryz.ntmps138
  go_wp2
  go_ret
  exact ⟨rfl, rfl⟩

end Go.Proofs.YtpbfiffgcgnidaaGreatDoor

namespace Go.Proofs.YtpbfiffgcgnidaaGreatDoor
open Go.RowKit Go.WideMaps Go.Maps
attribute [local go_sem] drewN_alloc drewN_setCell

/-- Below base all but block sb is as it was; and every row of a type that is not among T. -/
structure KeptX (base sb : Nat) (T : List TypeId) (w w' : World) : Prop where
  os : w'.os = w.os
  tape : w'.tape = w.tape
  output : w'.output = w.output
  size : w.heap.size ≤ w'.heap.size
  low : ∀ k, k < base → k ≠ sb → w'.heap[k]? = w.heap[k]?
  ty : ∀ (k : Nat) (cs : List Value) (t : TypeId), k ≠ sb → t ∉ T → Blk w k cs t → Blk w' k cs t
theorem KeptX.refl (base sb : Nat) (T : List TypeId) (w : World) : KeptX base sb T w w := ⟨rfl, rfl, rfl, Nat.le_refl _, fun _ _ _ => rfl, fun _ _ _ _ _ h => h⟩
theorem KeptX.trans {base sb : Nat} {T : List TypeId} {u v w : World} (h : KeptX base sb T u v) (k : KeptX base sb T v w) : KeptX base sb T u w :=
  ⟨k.os.trans h.os, k.tape.trans h.tape, k.output.trans h.output, Nat.le_trans h.size k.size, fun i hi hn => (k.low i hi hn).trans (h.low i hi hn), fun i cs t h1 h2 h3 => k.ty i cs t h1 h2 (h.ty i cs t h1 h2 h3)⟩
theorem KeptX.kept {base sb : Nat} {T : List TypeId} {v w : World} (k : Kept sb v w) (hb : base ≤ v.heap.size) : KeptX base sb T v w :=
  ⟨k.os, k.tape, k.output, k.size, fun i hi hn => k.block i (by omega) hn, fun _ _ _ h1 _ h3 => h3.kept k h1⟩
theorem KeptX.own {base sb : Nat} {T : List TypeId} {w w' : World} (h : KeptX base sb T w w') {base' : Nat} {e : TypeId} {size : Nat} {v : Value} {n : Nat} {xs : List Value} (ho : w.ownsRow base' e size v n xs) (hne : v.ownBlock ≠ some sb) (hT : e ∉ T) : w'.ownsRow base' e size v n xs := by
  refine ⟨ho.1, ?_⟩
  rcases ho.2 with h2 | ⟨g, cap, cur, hv, hg, hh, r⟩
  · exact .inl h2
  · refine .inr ⟨g, cap, cur, hv, hg, ?_, r⟩
    have hk := h.ty g cur.toList e (by intro e'; rw [hv] at hne; simp [Value.ownBlock, e'] at hne) hT (by unfold Blk; simpa using hh)
    unfold Blk at hk
    simpa using hk
/-- A row of one of the listed types has grown. -/
theorem KeptX.grown {base sb : Nat} {T : List TypeId} {w w' : World} {base' : Nat} {e : TypeId} {size : Nat} {v : Value} {n : Nat} {xs : List Value} (hg : w.grownBy w' v.ownBlock) (ho : w.ownsRow base' e size v n xs) (hb : base ≤ base') (hw : base ≤ w.heap.size) (hT : e ∈ T) : KeptX base sb T w w' := by
  refine ⟨hg.os, hg.tape, hg.output, hg.size, fun k hk _ => hg.block k (by omega) (fun e => by have := own_base ho k e.symm; omega), fun k cs t _ h2 h3 => h3.grown hg (own_ne ho h3 (fun e => h2 (e ▸ hT)))⟩
theorem map_ne {w : World} {P : Program} {k : TypeId} {R : Value → Option (DataW Unit × List MemPlace)} {r n : Nat} {D : DataW Unit} (h : w.ownsMap P k R r n D) {b : Nat} {cs : List Value} {t : TypeId} (hb : Blk w b cs t) : b ≠ r := by
  obtain ⟨es, clock, hh, _⟩ := h
  intro e
  subst e
  unfold Blk at hb
  rw [hb] at hh
  simp at hh
theorem map_row {w : World} {P : Program} {k : TypeId} {R : Value → Option (DataW Unit × List MemPlace)} {r n : Nat} {D : DataW Unit} (h : w.ownsMap P k R r n D) {base : Nat} {e : TypeId} {size : Nat} {v : Value} {m : Nat} {xs : List Value} (ho : w.ownsRow base e size v m xs) : v.ownBlock ≠ some r := by
  rcases ho.2 with ⟨rfl, _⟩ | ⟨g, cap, cur, rfl, _, hg, _⟩
  · simp [Value.ownBlock]
  · intro he
    simp only [Value.ownBlock, Option.some.injEq] at he
    exact map_ne h (b := g) (cs := cur.toList) (t := e) (by unfold Blk; simpa using hg) he
/-- A map has turned. -/
theorem KeptX.map {base sb : Nat} {T : List TypeId} {w w' : World} {P : Program} {k : TypeId} {R : Value → Option (DataW Unit × List MemPlace)} {r n : Nat} {D : DataW Unit} (hg : w.grownBy w' (some r)) (h : w.ownsMap P k R r n D) (hb : base ≤ r) : KeptX base sb T w w' :=
  ⟨hg.os, hg.tape, hg.output, hg.size, fun i hi _ => hg.block i (by have := h.lt; omega) (by simp; omega), fun i cs t _ _ h3 => h3.grown hg (by intro e; simp at e; exact map_ne h h3 e.symm)⟩
theorem map_kept {w w' : World} {P : Program} {k : TypeId} {R : Value → Option (DataW Unit × List MemPlace)} {r n b : Nat} {D : DataW Unit} (h : w.ownsMap P k R r n D) (hk : Kept b w w') (hn : r ≠ b) : w'.ownsMap P k R r n D :=
  h.kept (row := some b) ⟨hk.os, hk.tape, hk.output, hk.size, fun i hi hne => hk.block i hi (fun e => hne (by rw [e]))⟩ (by simpa using hn)

theorem infoStr : (Tryz.prog.info? 9).map (fun i => (i.zero, i.size, i.bytes)) = some (some (.string ⟨#[]⟩), 1, 16) := by kernel_rfl

set_option maxHeartbeats 400000 in
theorem add_old (w : World) (base sb : Nat) (mv lv : Value) (more : List Value) (t : TypeId) (xs : List (List UInt8)) (k : List UInt8) (hB : Blk w sb (mv :: lv :: more) t) (hS : SetIs w base mv lv xs) (hk : k.length ≤ maxLen) (hx : hasW xs k = true) :
    Calls Tryz.prog 107 #[.pointer (some ⟨sb, 0, none⟩), .string (bs k)] w fun e w' => e = .returned (.tuple #[.int .i64 (posIn xs k), .bool false]) ∧ w' = w := by
  obtain ⟨p, HP⟩ : ∃ p : Int, Hid (p = (posIn xs k : Nat)) := ⟨_, rfl⟩
  rw [← HP.out]
  go_enter Tryz.func107, Tryz.ntmps107
  go_wp2_with (go_at_call 75; refine (find_c _ base sb mv lv more t xs k hB hS hk).mono ?_; rintro e w1 ⟨he, rfl⟩; rw [hx, ← HP.out] at he; subst he)
  go_ret2
  exact ⟨rfl, rfl⟩

set_option maxHeartbeats 800000 in
set_option maxRecDepth 100000 in
theorem add_new (w : World) (base sb : Nat) (mv lv : Value) (more : List Value) (t : TypeId) (xs : List (List UInt8)) (k : List UInt8) (hB : Blk w sb (mv :: lv :: more) t) (hS : SetIs w base mv lv xs) (hk : k.length ≤ maxLen) (hx : hasW xs k = false) (hn : xs.length ≤ 100000) (ht : t ≠ 9) (hbw : base ≤ w.heap.size) :
    Calls Tryz.prog 107 #[.pointer (some ⟨sb, 0, none⟩), .string (bs k)] w fun e w' => e = .returned (.tuple #[.int .i64 xs.length, .bool true]) ∧
      ∃ mv' lv', Blk w' sb (mv' :: lv' :: more) t ∧ SetIs w' base mv' lv' (xs ++ [k]) ∧ KeptX base sb [9] w w' := by
  have hkx : k ∉ xs := by simpa [hasW] using hx
  have c0 : w.cell? ⟨sb, 0, none⟩ = some mv := hB.cell 0
  have c1 : w.cell? ⟨sb, 1, none⟩ = some lv := hB.cell 1
  have hkey : keyOf Tryz.prog 9 (.string (bs k)) = some (.string k) := keyOf_string_mk Tryz.underlying9 (by rw [bs_size]; exact hk)
  obtain ⟨i1, hi1, hy0, hy1, hy2⟩ := info_parts infoStr
  obtain ⟨pp, HP⟩ : ∃ p : Int, Hid (p = (posIn xs k : Nat)) := ⟨_, rfl⟩
  have hF := find_c w base sb mv lv more t xs k hB hS hk
  rw [hx, ← HP.out] at hF
  obtain ⟨ao, cap, rfl⟩ := own_form hS.1
  rcases hS.2 with ⟨rfl, rfl⟩ | ⟨r, D, rfl, hr, hown, hD⟩
  · have hnil := fun w : World => run_eql_map_nil (P := Tryz.prog) w 176 9 3 none Tryz.underlying176
    have hmm := @run_makeMap Tryz.prog
    have hslt := hB.lt
    have hsne : sb ≠ w.heap.size := by omega
    have f0 := hB.frozen
    have hmade : ((w.setCell ⟨sb, 0, none⟩ (.map (some w.heap.size))).alloc (.map #[] 0)).ownsMap (H := Unit) Tryz.prog 9 (plainElem Tryz.prog 3) w.heap.size 0 (.map []) := by
      have h := World.ownsMap_made (H := Unit) (w.setCell ⟨sb, 0, none⟩ (.map (some w.heap.size))) Tryz.prog 9 (plainElem Tryz.prog 3)
      have e : (w.setCell ⟨sb, 0, none⟩ (.map (some w.heap.size))).heap.size = w.heap.size := by simp [World.setCell]
      rwa [e] at h
    have hB0 : Blk ((w.setCell ⟨sb, 0, none⟩ (.map (some w.heap.size))).alloc (.map #[] 0)) sb (.map (some w.heap.size) :: .slice ao 0 cap :: more) t := (hB.setCell 0 (.map (some w.heap.size))).alloc (.map #[] 0)
    have hlr := own_lt_ne hS.1 (k := w.heap.size) (Nat.le_refl _)
    have hL0 := (own_set hS.1 ⟨sb, 0, none⟩ (.map (some w.heap.size)) (own_ne hS.1 hB ht)).alloc (.map #[] 0)
    clear hx
    go_enter Tryz.func107, Tryz.ntmps107
    go_wp2_with (first
      | (go_at_call 75; refine hF.mono ?_; rintro e w9 ⟨rfl, hw9⟩; subst w9)
      | (at_mapUpdate; refine wpList_mapUpdate_own _ rfl _ _ _ 176 rfl 9 3 law9 Tryz.underlying176 _ w.heap.size 0 (.map []) rfl hmade (by unfold maxLen; omega) _ _ _ rfl rfl hkey _ [] (plainElem_int Tryz.underlying3 (by decide)) ?_; intro w1 hown1 hg1; have hB1 := hB0.grown hg1 (by simpa using hsne.symm); have hL1 := hL0.kept hg1 (.inr hlr); have d0 := hB1.cell 0; have d1 := hB1.cell 1; have fB := hB1.frozen; simp at d0 d1)
      | (at_builtin; refine wpList_append_ownS _ rfl _ _ 31 rfl base 9 i1 _ 1 16 Tryz.underlying31 hi1 hy0 hy1 hy2 rfl (by decide) _ 0 [] rfl (hL1.alloc _) ⟨w1.heap.size, 0, none⟩ 1 [.string (bs k)] rfl rfl (new_cells _ _ _) (by intro u hu; simp at hu; subst hu; rfl) (by unfold maxLen; omega) (by omega) (by have := hg1.size; simp at this; simp; omega) ?_; intro g cap2 w2 hL2 hg2; have hB2 := (hB1.alloc _).grown hg2 (own_ne hL1 hB1 ht); have e0 := hB2.cell 0; have e1 := hB2.cell 1; have fB2 := hB2.frozen; simp at e0 e1))
    go_ret2
    have hb1 : base ≤ w1.heap.size := by have := hg1.size; simp at this; omega
    refine ⟨rfl, .map (some w.heap.size), .slice (some ⟨g, 0, none⟩) 1 cap2, hB2.setCell 1 _, ⟨?_, .inr ⟨w.heap.size, _, rfl, hbw, ?_, MapOf.nil.put k hkx⟩⟩, ?_⟩
    · simpa using own_set hL2 ⟨sb, 1, none⟩ _ (own_ne hL2 hB2 ht)
    · have h2 := (hown1.alloc _).kept hg2 (Ne.symm hlr)
      simpa using map_kept h2 (Kept.setCell (b := sb) w2 (p := ⟨sb, 1, none⟩) rfl _) hsne.symm
    · refine (KeptX.kept (Kept.setCell (b := sb) w (p := ⟨sb, 0, none⟩) rfl _) hbw).trans ((KeptX.kept (Kept.alloc sb _ _) (by simp [World.setCell]; omega)).trans ((KeptX.map hg1 hmade hbw).trans ((KeptX.kept (Kept.alloc sb w1 _) hb1).trans ((KeptX.grown hg2 (hL1.alloc _) (Nat.le_refl _) (by simp; omega) (by simp)).trans (KeptX.kept (Kept.setCell (b := sb) w2 (p := ⟨sb, 1, none⟩) rfl _) ?_)))))
      have := hg2.size; simp at this; omega
  · obtain ⟨hh, ha⟩ := hD.2 k
    rw [hx] at hh
    have hnil := fun w : World => run_eql_map_nil (P := Tryz.prog) w 176 9 3 (some r) Tryz.underlying176
    have hwf : (Lit.int .i64 (xs.length : Int)).wf = true := WalkArith.wf_i64 (n := (xs.length : Int)) ⟨by omega, by omega⟩
    have hsr := map_ne hown hB
    have hlr := map_row hown hS.1
    clear hx
    go_enter Tryz.func107, Tryz.ntmps107
    go_wp2_with (first
      | (go_at_call 75; refine hF.mono ?_; rintro e w9 ⟨rfl, hw9⟩; subst w9)
      | (at_mapUpdate; refine wpList_mapUpdate_own _ rfl _ _ _ 176 rfl 9 3 law9 Tryz.underlying176 _ r xs.length D rfl hown (by unfold maxLen; omega) _ _ _ rfl rfl hkey _ [] (plainElem_int Tryz.underlying3 hwf) ?_; intro w1 hown1 hg1; have hB1 := hB.grown hg1 (by simpa using hsr.symm); have hL1 := hS.1.kept hg1 (.inr hlr); have d0 := hB1.cell 0; have d1 := hB1.cell 1; have fB := hB1.frozen; simp at d0 d1)
      | (at_builtin; refine wpList_append_ownS _ rfl _ _ 31 rfl base 9 i1 _ 1 16 Tryz.underlying31 hi1 hy0 hy1 hy2 rfl (by decide) _ xs.length (xs.map fun x => .string (bs x)) rfl (hL1.alloc _) ⟨w1.heap.size, 0, none⟩ 1 [.string (bs k)] rfl rfl (new_cells _ _ _) (by intro u hu; simp at hu; subst hu; rfl) (by unfold maxLen; omega) (by omega) (by have := hg1.size; simp; omega) ?_; intro g cap2 w2 hL2 hg2; have hB2 := (hB1.alloc _).grown hg2 (own_ne hL1 hB1 ht); have e0 := hB2.cell 0; have e1 := hB2.cell 1; have fB2 := hB2.frozen; simp at e0 e1))
    go_ret2
    have hb1 : base ≤ w1.heap.size := by have := hg1.size; omega
    refine ⟨rfl, .map (some r), .slice (some ⟨g, 0, none⟩) (xs.length + 1) cap2, hB2.setCell 1 _, ⟨?_, .inr ⟨r, _, rfl, hr, ?_, hD.put k hkx⟩⟩, ?_⟩
    · simpa using own_set hL2 ⟨sb, 1, none⟩ _ (own_ne hL2 hB2 ht)
    · have h2 := (hown1.alloc _).kept hg2 (Ne.symm hlr)
      simpa using map_kept h2 (Kept.setCell (b := sb) w2 (p := ⟨sb, 1, none⟩) rfl _) hsr.symm
    · refine (KeptX.map hg1 hown hr).trans ((KeptX.kept (Kept.alloc sb w1 _) hb1).trans ((KeptX.grown hg2 (hL1.alloc _) (Nat.le_refl _) (by simp; omega) (by simp)).trans (KeptX.kept (Kept.setCell (b := sb) w2 (p := ⟨sb, 1, none⟩) rfl _) ?_)))
      have := hg2.size; simp at this; omega

end Go.Proofs.YtpbfiffgcgnidaaGreatDoor
