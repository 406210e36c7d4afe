/-
  OUR OWN. The generic set of strings: what it is in memory; Has, Len, At.
-/
import Derived.Test.YtpbfiffgcgnidaaPrgm
import Derived.Maps.OwnSet
import Derived.Maps.Keyed
namespace Go.Proofs.Ytpbfiffgcgnidaa
open Go.RowKit Go.WideMaps Go.Maps
attribute [local go_sem] drewN_alloc drewN_setCell

theorem law9 : Keyed Try.prog 9 := string_keyed Try.underlying9
theorem zero3 (w : World) : (zeroValue 3).run Try.prog w = .ok (.int .i64 0) w := by kernel_rfl

/-- Where a word stands among words; 0 if nowhere. -/
def posIn (xs : List (List UInt8)) (k : List UInt8) : Nat := if k ∈ xs then xs.idxOf k else 0
theorem key_string (k : List UInt8) : WideAt.IsKeyLit (.string k) := by simp [WideAt.IsKeyLit]
theorem bs_size (k : List UInt8) : (bs k).size = k.length := by simp [bs, ByteArray.size]
def hasW (xs : List (List UInt8)) (k : List UInt8) : Bool := xs.contains k
def atW (xs : List (List UInt8)) (i : Nat) : ByteArray := bs (xs.getD i [])
def MapOf (D : DataW Unit) (xs : List (List UInt8)) : Prop :=
  IsMap D ∧ ∀ k : List UInt8, Maps.has D (.string k) = hasW xs k ∧ D.atKey (.string k) (.lit (.int .i64 0)) = .lit (.int .i64 (posIn xs k))
theorem MapOf.nil : MapOf (.map []) [] := ⟨isMap_empty, fun _ => ⟨rfl, rfl⟩⟩
theorem MapOf.put {D : DataW Unit} {xs : List (List UInt8)} (h : MapOf D xs) (k : List UInt8) (hk : k ∉ xs) : MapOf (D.put (.string k) (.lit (.int .i64 xs.length))) (xs ++ [k]) := by
  refine ⟨h.1.put _ _, fun j => ?_⟩
  by_cases hj : j = k
  · subst hj
    rw [has_put_same h.1 (key_string j), atKey_put_same h.1 (key_string j)]
    refine ⟨by simp [hasW], ?_⟩
    have : posIn (xs ++ [j]) j = xs.length := by simp [posIn, List.idxOf_append, hk]
    rw [this]
  · have hne : (Lit.string j) ≠ .string k := by intro e; exact hj (by injection e)
    rw [has_put_other hne, atKey_put_other hne, (h.2 j).1, (h.2 j).2]
    refine ⟨by simp [hasW, hj], ?_⟩
    have : posIn (xs ++ [k]) j = posIn xs j := by
      by_cases hx : j ∈ xs
      · simp [posIn, hx, List.idxOf_append]
      · simp [posIn, hx, hj]
    rw [this]

/-- A set of words: its map and its list. -/
def SetIs (w : World) (base : Nat) (mv lv : Value) (xs : List (List UInt8)) : Prop :=
  w.ownsRow base 9 1 lv xs.length (xs.map fun x => .string (bs x)) ∧
  ((mv = .map none ∧ xs = []) ∨ ∃ r D, mv = .map (some r) ∧ base ≤ r ∧ w.ownsMap (H := Unit) Try.prog 9 (plainElem Try.prog 3) r xs.length D ∧ MapOf D xs)

set_option maxHeartbeats 400000 in
theorem find_c (w : World) (base sb : Nat) (mv lv : Value) (more : List Value) (t : TypeId) (xs : List (List UInt8)) (k : List UInt8) (hB : Blk w sb (mv :: lv :: more) t) (hS : SetIs w base mv lv xs) (hk : k.length ≤ maxLen) :
    Calls Try.prog 63 #[.pointer (some ⟨sb, 0, none⟩), .string (bs k)] w fun e w' => e = .returned (.tuple #[.int .i64 (posIn xs k : Nat), .bool (hasW xs k)]) ∧ w' = w := by
  have c0 : w.cell? ⟨sb, 0, none⟩ = some mv := hB.cell 0
  have hkey : keyOf Try.prog 9 (.string (bs k)) = some (.string k) := keyOf_string_mk Try.underlying9 (by rw [bs_size]; exact hk)
  rcases hS.2 with ⟨rfl, rfl⟩ | ⟨r, D, rfl, hr, hown, hD⟩
  · have hnil := fun w : World => look_nil (w := w) true law9 Try.underlying107 (zero3 w) hkey
    go_enter Try.func63, Try.ntmps63
    go_wp2
    go_ret2
    exact ⟨rfl, rfl⟩
  · obtain ⟨hh, ha⟩ := hD.2 k
    obtain ⟨p, HP⟩ : ∃ p : Int, Hid (p = (posIn xs k : Nat)) := ⟨_, rfl⟩
    rw [← HP.out] at ha ⊢
    go_enter Try.func63, Try.ntmps63
    go_wp2_with (at_lookup; refine wpList_lookup_own_ok_int _ rfl _ _ 107 rfl 9 3 .i64 law9 Try.underlying107 Try.underlying3 (zero3 _) r xs.length D rfl hown _ _ rfl hkey ?_; intro cL hat hwc; rw [hh]; have hcl : cL = p := (by rw [ha] at hat; simpa using hat.symm); subst hcl)
    go_ret2
    exact ⟨rfl, rfl⟩

set_option maxHeartbeats 400000 in
theorem has_c (w : World) (base sb : Nat) (mv lv : Value) (more : List Value) (t : TypeId) (xs : List (List UInt8)) (k : List UInt8) (hB : Blk w sb (mv :: lv :: more) t) (hS : SetIs w base mv lv xs) (hk : k.length ≤ maxLen) :
    Calls Try.prog 51 #[.pointer (some ⟨sb, 0, none⟩), .string (bs k)] w fun e w' => e = .returned (.bool (hasW xs k)) ∧ w' = w := by
  obtain ⟨p, HP⟩ : ∃ p : Int, Hid (p = (posIn xs k : Nat)) := ⟨_, rfl⟩
  go_enter Try.func51, Try.ntmps51
  go_wp2_with (go_at_call 63; refine (find_c _ base sb mv lv more t xs k hB hS hk).mono ?_; rintro e w1 ⟨he, rfl⟩; rw [← HP.out] at he; subst he)
  go_ret
  exact ⟨rfl, rfl⟩

set_option maxHeartbeats 400000 in
theorem len_c (w : World) (base sb : Nat) (mv lv : Value) (more : List Value) (t : TypeId) (xs : List (List UInt8)) (hB : Blk w sb (mv :: lv :: more) t) (hS : SetIs w base mv lv xs) :
    Calls Try.prog 64 #[.pointer (some ⟨sb, 0, none⟩)] w fun e w' => e = .returned (.int .i64 xs.length) ∧ w' = w := by
  obtain ⟨ao, cap, rfl⟩ := own_form hS.1
  have c1 : w.cell? ⟨sb, 1, none⟩ = some (.slice ao xs.length cap) := hB.cell 1
  go_enter Try.func64, Try.ntmps64
  go_wp2
  go_ret
  exact ⟨rfl, rfl⟩

theorem own_cell {w : World} {base : Nat} {e : TypeId} {ao : Option Addr} {n cap : Nat} {xs : List Value} (h : w.ownsRow base e 1 (.slice ao n cap) n xs) (j : Nat) (hj : j < n) : ∃ g, ao = some ⟨g, 0, none⟩ ∧ w.cell? ⟨g, j, none⟩ = xs[j]? := by
  rcases h.2 with ⟨h1, h2⟩ | ⟨g, cap', cur, h1, _, _⟩
  · omega
  · injection h1 with h1
    refine ⟨g, h1, ?_⟩
    subst h1
    have hl : j < xs.length := by have := h.1; omega
    have := h.cells (g := g) rfl j xs[j] (by simp [hl])
    rw [Addr.add_lit, Nat.zero_add] at this
    rw [this]; simp [hl]

set_option maxHeartbeats 400000 in
theorem at_c (w : World) (base sb : Nat) (mv lv : Value) (more : List Value) (t : TypeId) (xs : List (List UInt8)) (hB : Blk w sb (mv :: lv :: more) t) (hS : SetIs w base mv lv xs) (i : Nat) (hi : i < xs.length) :
    Calls Try.prog 65 #[.pointer (some ⟨sb, 0, none⟩), .int .i64 i] w fun e w' => e = .returned (.string (atW xs i)) ∧ w' = w := by
  obtain ⟨ao, cap, rfl⟩ := own_form hS.1
  have c1 : w.cell? ⟨sb, 1, none⟩ = some (.slice ao xs.length cap) := hB.cell 1
  obtain ⟨g, rfl, hg⟩ := own_cell hS.1 i hi
  have hgg : w.cell? ⟨g, i, none⟩ = some (.string (atW xs i)) := by rw [hg]; simp [hi, atW]
  clear hg
  go_enter Try.func65, Try.ntmps65
  go_wp2
  go_ret
  exact ⟨rfl, rfl⟩

end Go.Proofs.Ytpbfiffgcgnidaa
