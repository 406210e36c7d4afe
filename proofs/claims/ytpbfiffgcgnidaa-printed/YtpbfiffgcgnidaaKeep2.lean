/-
  OUR OWN. The statements' own small functions: facts, text.
-/
import Derived.Test.YtpbfiffgcgnidaaKeep1
namespace Go.Proofs.Ytpbfiffgcgnidaa
open Go.RowKit Go.WideMaps Go.Maps
attribute [local go_sem] drewN_alloc drewN_setCell

def factB (i k : Nat) : List UInt8 := [101, 100, 103, 101, 40] ++ nodeB i ++ [44] ++ nodeB k ++ [41]
def qAt (q : List Bool) (j : Nat) : Bool := q.getD j false
def factsTo (q : List Bool) (m : Nat) : List (List UInt8) := ((List.range m).filter (qAt q)).map fun j => factB (j / 4) (j % 4)
theorem factsTo_succ (q : List Bool) (i k : Nat) (hk : k < 4) : factsTo q (4 * i + (k + 1)) = if qAt q (4 * i + k) = true then factsTo q (4 * i + k) ++ [factB i k] else factsTo q (4 * i + k) := by
  unfold factsTo
  rw [show 4 * i + (k + 1) = (4 * i + k) + 1 by omega, List.range_succ, List.filter_append, List.map_append]
  have e1 : (4 * i + k) / 4 = i := by omega
  have e2 : (4 * i + k) % 4 = k := by omega
  cases h : qAt q (4 * i + k)
  · simp [h]
  · simp [h, e1, e2]
theorem factsTo_len (q : List Bool) (m : Nat) : (factsTo q m).length ≤ m := by
  unfold factsTo
  rw [List.length_map]
  have := List.length_filter_le (qAt q) (List.range m)
  simpa using this
theorem bs_append (a b : List UInt8) : bs a ++ bs b = bs (a ++ b) := by
  apply ByteArray.ext
  simp [bs, ByteArray.data_append]
def factX (i k : Nat) : ByteArray := (⟨#[101, 100, 103, 101]⟩ ++ ⟨#[40]⟩) ++ bs (nodeB i) ++ ⟨#[44]⟩ ++ bs (nodeB k) ++ ⟨#[41]⟩
theorem factX_eq (i k : Nat) : factX i k = bs (factB i k) := by
  show (bs [101, 100, 103, 101] ++ bs [40]) ++ bs (nodeB i) ++ bs [44] ++ bs (nodeB k) ++ bs [41] = _
  simp only [bs_append]
  rfl
def strs (l : List (List UInt8)) : List Value := l.map fun x => .string (bs x)

set_option maxHeartbeats 4000000 in
set_option maxRecDepth 100000 in
theorem facts_c (w : World) (q : List Bool) (hq : q.length = 16) :
    Calls Try.prog 6 #[.agg (gCells q).toArray, .string ⟨#[101, 100, 103, 101]⟩] w fun e w' => ∃ v, e = .returned v ∧ w'.ownsRow w.heap.size 9 1 v (factsTo q 16).length (strs (factsTo q 16)) ∧ Below w.heap.size w w' := by
  obtain ⟨i1, hi1, hy0, hy1, hy2⟩ := info_parts infoStr
  have hbx0 := Blk.new w (gCells q) 26
  have hcl : ∀ (W : World), Blk W w.heap.size (gCells q) 26 → ∀ i k, i < 4 → k < 4 → W.cell? ⟨w.heap.size, i * 4 + k, none⟩ = some (.bool (qAt q (4 * i + k))) := by
    intro W hW i k hi hk
    rw [hW.cell]
    simp [gCells, qAt, show i * 4 + k = 4 * i + k by omega, show 4 * i + k < q.length by omega]
  go_enter Try.func6, Try.ntmps6
  go_wp2
  go_loopw [5, 6] (fun v iv wr => ∃ (i : Nat), i ≤ 4 ∧ iv = .int .i64 i ∧ wr.ownsRow w.heap.size 9 1 v (factsTo q (4 * i)).length (strs (factsTo q (4 * i))) ∧ Blk wr w.heap.size (gCells q) 26 ∧ Below w.heap.size w wr) (fun _ iv _ => 4 - (intOf iv).toNat)
  case atStart => exact ⟨0, by omega, rfl, World.ownsRow_nil _ _ _ _, hbx0, below_alloc _ _⟩
  case round =>
    clear hbx0
    obtain ⟨i, hi, rfl, ho, hbx, hB⟩ := hrel
    by_cases hlt : i < 4
    · go_wp2_with fail
      generalize decide ((i : Int) < 4) = bb
      go_loopw [5, 7] (fun v kv wr => ∃ (k : Nat), k ≤ 4 ∧ kv = .int .i64 k ∧ wr.ownsRow w.heap.size 9 1 v (factsTo q (4 * i + k)).length (strs (factsTo q (4 * i + k))) ∧ Blk wr w.heap.size (gCells q) 26 ∧ Below w.heap.size w wr) (fun _ kv _ => 4 - (intOf kv).toNat)
      case atStart => exact ⟨0, by omega, rfl, ho, hbx, hB⟩
      case round =>
        clear ho hbx hB
        obtain ⟨k, hk, rfl, ho, hbx, hB⟩ := hrel
        have hbw : w.heap.size < wr.heap.size := hbx.lt
        by_cases hkl : k < 4
        · have hc := hcl wr hbx i k hlt hkl
          have HT := hid (factsTo_succ q i k hkl)
          have hfl := factsTo_len q (4 * i + k)
          obtain ⟨vo, vcap, rfl⟩ := own_form ho
          cases hqk : qAt q (4 * i + k)
          · rw [hqk] at hc
            go_wp2_with fail
            exact ⟨⟨k + 1, hkl, by go_num, by rw [HT.out, hqk]; exact ho, hbx, hB⟩, by simp [intOf]; omega⟩
          · rw [hqk] at hc
            go_wp2_with fail
            refine (node_c i hlt _).mono ?_
            rintro e w' ⟨rfl, rfl⟩
            go_wp2_with fail
            refine (node_c k hkl _).mono ?_
            rintro e w' ⟨rfl, rfl⟩
            go_wp2_with (at_builtin; refine wpList_append_ownS _ rfl _ _ 23 rfl w.heap.size 9 i1 _ 1 16 Try.underlying23 hi1 hy0 hy1 hy2 rfl (by decide) _ (factsTo q (4 * i + k)).length (strs (factsTo q (4 * i + k))) rfl (ho.alloc _) ⟨_, 0, none⟩ 1 [.string (factX i k)] rfl rfl (new_cells _ [.string (factX i k)] _) (by intro u hu; simp at hu; subst hu; rfl) (by unfold maxLen; omega) (by omega) (by simp; omega) ?_; intro g cap2 w2 ho2 hg2)
            have hbx2 := (hbx.alloc _).grown hg2 (own_ne ho hbx (by decide))
            have hB2 := (hB.alloc (by omega) _).grown hg2 (by simp; omega) (own_base ho)
            exact ⟨⟨k + 1, hkl, by go_num, by rw [HT.out, hqk]; simpa [strs, factX_eq] using ho2, hbx2, hB2⟩, by simp [intOf]; omega⟩
        · have hke : k = 4 := by omega
          subst hke
          go_wp2
          exact ⟨⟨i + 1, hlt, by go_num, by rw [show 4 * (i + 1) = 4 * i + 4 by omega]; exact ho, hbx, hB⟩, by simp [intOf]; omega⟩
    · have hie : i = 4 := by omega
      subst hie
      go_wp2
      go_ret
      exact ⟨_, rfl, ho, hB⟩

end Go.Proofs.Ytpbfiffgcgnidaa
