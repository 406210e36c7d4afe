/-
  OUR OWN. One Load by both; Loads.
-/
import Derived.Test.YtpbfiffgcgnidaaDoorRef13
namespace Go.Proofs.YtpbfiffgcgnidaaDoor
open Go.RowKit Go.WideMaps Go.Maps
attribute [local go_sem] drewN_alloc drewN_setCell

theorem rload_c (w : World) (hE : EndsIs w) (hw : 0 < w.heap.size) (s : ByteArray) (hs : s.size ≤ maxLen) : Calls Tryd.prog 6 #[.string s] w fun e w' => RLoadPost w s e w' := by
  by_cases h : 2000 < s.size
  · exact rload_long w s hs h
  · cases hq : (T s.size s.data.toList).bind (PP []) with
    | none => exact rload_form w hE hw s (by omega) hq
    | some cs => exact rload_prog w s (by omega) cs hq

theorem infoPair : (Tryd.prog.info? 36).map (fun i => (i.zero, i.size, i.bytes)) = some (some (.agg #[.pointer none, .pointer none]), 2, 16) := by kernel_rfl

set_option maxHeartbeats 2000000 in
set_option maxRecDepth 100000 in
theorem loads_c (w : World) (B wb n : Nat) (pv hv : Value) (xs : List Value) (hE : EndsIs w) (h0 : 0 < B) (hBw : B ≤ w.heap.size) (hW : Blk w wb [pv, hv] 26) (hwb : B ≤ wb) (hP : w.ownsRow B 36 2 pv n xs) (hn : n ≤ 1000) (s : ByteArray) (hs : s.size ≤ maxLen) :
    Calls Tryd.prog 4 #[.pointer (some ⟨wb, 0, none⟩), .string s] w fun e w' => e = .returned (.bool true) ∧ (∃ pv' xs', Blk w' wb [pv', hv] 26 ∧ w'.ownsRow B 36 2 pv' (if (loadE s).1 = 0 then n + 1 else n) xs') ∧ Below B w w' := by
  obtain ⟨i1, hi1, hy0, hy1, hy2⟩ := info_parts infoPair
  obtain ⟨po, pcap, rfl⟩ := own_form hP
  have hlw := hW.lt
  by_cases hz : (loadE s).1 = 0
  · have HZ := hid hz
    have HR := hid (show (refE s).1 = 0 by rw [← load_ref]; exact hz)
    rw [if_pos hz]
    clear hz
    go_enter Tryd.func4, Tryd.ntmps4
    go_wp2_with (first
      | (go_at_call 5; refine (load_c _ s hs).mono ?_; rintro e w1 ⟨hx, hB1⟩; rw [if_pos HZ.out] at hx; obtain ⟨bb, rfl, hbb, -⟩ := hx)
      | (go_at_call 6; refine (rload_c _ (hE.below hB1 (by omega)) (by have := hB1.size; omega) s hs).mono ?_; rintro e w2 ⟨hx, hB2⟩; rw [if_pos HR.out] at hx; obtain ⟨rb, cs, -, rfl, hrb, -⟩ := hx; have hWs1 := hB1.size; have hWs2 := hB2.size; have hW2 := (hW.below hB1).below hB2; have hP2 := own_below (own_below hP hB1) hB2; have p0 := hW2.cell 0; have fW := hW2.frozen; have hlw2 := hW2.lt; simp at p0)
      | (at_builtin; refine wpList_append_ownS _ rfl _ _ 23 rfl B 36 i1 _ 2 16 Tryd.underlying23 hi1 hy0 hy1 hy2 rfl (by decide) _ n xs rfl (hP2.alloc _) ⟨w2.heap.size, 0, none⟩ 1 [.pointer (some ⟨bb, 0, none⟩), .pointer (some ⟨rb, 0, none⟩)] rfl rfl (new_cells _ _ _) (by intro u hu; simp at hu; rcases hu with rfl | rfl <;> rfl) (by unfold maxLen; omega) (by omega) (by simp; omega) ?_; intro g cap w3 ho3 hg3; have hne := own_ne hP2 hW2 (by decide); have hW3 := (hW2.alloc _).grown hg3 hne; have d0 := hW3.cell 0; have fW3 := hW3.frozen; simp at d0))
    go_ret
    have hB12 : Below B w w2 := (hB1.mono hBw).trans (hB2.mono (by omega))
    have hB3 : Below B w w3 := (hB12.alloc (by omega) _).grown hg3 (by simp; omega) (own_base hP2)
    exact ⟨rfl, ⟨_, _, hW3.setCell 0 _, own_set ho3 ⟨wb, 0, none⟩ _ (own_ne ho3 hW3 (by decide))⟩, hB3.setCell (p := ⟨wb, 0, none⟩) hwb _⟩
  · have HZ := hid hz
    have HR := hid (show ¬ (refE s).1 = 0 by rw [← load_ref]; exact hz)
    have HF := hid (load_ref s)
    rw [if_neg hz]
    clear hz
    obtain ⟨ea, HEA⟩ : ∃ ea, Hid ((loadE s).1 = ea) := ⟨_, rfl⟩
    obtain ⟨eb, HEB⟩ : ∃ eb, Hid ((loadE s).2 = eb) := ⟨_, rfl⟩
    go_enter Tryd.func4, Tryd.ntmps4
    go_wp2_with (first
      | (go_at_call 5; refine (load_c _ s hs).mono ?_; rintro e w1 ⟨hx, hB1⟩; rw [if_neg HZ.out, HEA.out, HEB.out] at hx; subst hx)
      | (go_at_call 6; refine (rload_c _ (hE.below hB1 (by omega)) (by have := hB1.size; omega) s hs).mono ?_; rintro e w2 ⟨hx, hB2⟩; rw [if_neg HR.out, ← HF.out, HEA.out, HEB.out] at hx; subst hx))
    go_ret
    have hWs1 := hB1.size
    exact ⟨rfl, ⟨_, _, (hW.below hB1).below hB2, own_below (own_below hP hB1) hB2⟩, (hB1.mono hBw).trans (hB2.mono (by omega))⟩

theorem load_empty : loadE ⟨#[]⟩ = (0, 0) := by decide +kernel

set_option maxHeartbeats 2000000 in
set_option maxRecDepth 100000 in
theorem lawLoads_c (w : World) (hE : EndsIs w) (h0 : 0 < w.heap.size) (s : ByteArray) (hs : s.size ≤ maxLen) :
    Calls Tryd.prog 3 #[.string s] w fun e w' => e = .returned (.bool true) ∧ Below w.heap.size w w' := by
  have hB0 := below_alloc w (.cells #[.slice none 0 0, .slice none 0 0] 26)
  have hW0 := Blk.new w [.slice none 0 0, .slice none 0 0] 26
  have hE0 := hE.below hB0 h0
  have hz0 := hB0.size
  have HLE := hid (show (loadE ⟨#[]⟩).1 = 0 by rw [load_empty])
  obtain ⟨n2, HN2⟩ : ∃ n2 : Nat, Hid ((if (loadE s).1 = 0 then 1 + 1 else 1) = n2) := ⟨_, hid rfl⟩
  have hn2 : 0 < n2 := by rw [← HN2.out]; split <;> omega
  have hn2i : (0 : Int) < (n2 : Int) := by omega
  go_enter Tryd.func3, Tryd.ntmps3
  go_wp2_with fail
  refine (loads_c _ w.heap.size w.heap.size 0 _ _ [] (by exact hE0) h0 hz0 (by exact hW0) (Nat.le_refl _) (World.ownsRow_nil _ _ _ _) (by omega) ⟨#[]⟩ (by unfold maxLen; decide)).mono ?_
  rintro e w1 ⟨rfl, ⟨pv1, xs1, hW1, hP1⟩, hB1⟩
  rw [if_pos HLE.out] at hP1
  have hz1 := hB1.size
  go_wp2_with fail
  refine (loads_c _ w.heap.size w.heap.size 1 _ _ xs1 (by exact hE0.below hB1 h0) h0 (by omega) (by exact hW1) (Nat.le_refl _) (by exact hP1) (by omega) s hs).mono ?_
  rintro e w2 ⟨rfl, ⟨pv2, xs2, hW2, hP2⟩, hB2⟩
  rw [HN2.out] at hP2
  obtain ⟨po, pcap, rfl⟩ := own_form hP2
  have p0 := hW2.cell 0
  simp at p0
  go_wp2_with fail
  go_ret
  exact ⟨rfl, (hB0.trans hB1).trans hB2⟩

end Go.Proofs.YtpbfiffgcgnidaaDoor
