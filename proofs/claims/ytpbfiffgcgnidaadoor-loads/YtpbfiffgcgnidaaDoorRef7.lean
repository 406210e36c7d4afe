/-
  OUR OWN. The document's answer: a name's number of terms; a clause's first loose variable.
-/
import Derived.Test.YtpbfiffgcgnidaaDoorRef6
namespace Go.Proofs.YtpbfiffgcgnidaaDoor
open Go.RowKit Go.WideMaps Go.Maps
attribute [local go_sem] drewN_alloc drewN_setCell

/-- An atom that was gathered: its five cells. -/
theorem gather_at {w : World} {own base : Nat} {ao : Option Addr} {n cap : Nat} {b : List RA} (h : Gather w own base (.slice ao n cap) b) (hn : n = b.length) (i : Nat) (hi : i < b.length) :
    ∃ g tv, ao = some ⟨g, 0, none⟩ ∧ g < w.heap.size ∧ w.cell? ⟨g, i * 5, none⟩ = some (.string b[i].w) ∧ w.cell? ⟨g, i * 5 + 1, none⟩ = some tv ∧ w.cell? ⟨g, i * 5 + 2, none⟩ = some (.int .i64 (b[i].pl : Nat)) ∧ w.cell? ⟨g, i * 5 + 3, none⟩ = some (.int .i64 (b[i].bang : Nat)) ∧ w.cell? ⟨g, i * 5 + 4, none⟩ = some (.bool b[i].neg) ∧
      w.ownsRow base 88 3 tv b[i].ts.length (b[i].ts.flatMap RT.cells) := by
  subst hn
  obtain ⟨rows, ho, hl, hr⟩ := h
  have hall : ∀ r ∈ rows, r.length = 5 := by
    intro r hr'
    obtain ⟨j, hj, rfl⟩ := List.getElem_of_mem hr'
    exact (hr j b[j] rows[j] (by simp) (by simp)).len
  obtain ⟨g, rfl, hb, hc⟩ := own_at ho hall hl i hi
  obtain ⟨tv, hcs, ht⟩ := hr i b[i] rows[i] (by simp) (by simp)
  have e : rows.getD i [] = rows[i] := by simp [show i < rows.length by omega]
  rw [e, hcs] at hc
  exact ⟨g, tv, rfl, (ho.lt g rfl).2, hc 0 (by decide), hc 1 (by decide), hc 2 (by decide), hc 3 (by decide), hc 4 (by decide), ht⟩
theorem Gather.form {w : World} {own base : Nat} {v : Value} {b : List RA} (h : Gather w own base v b) : ∃ ao cap, v = .slice ao b.length cap := by
  obtain ⟨rows, ho, _, _⟩ := h
  exact own_form ho
theorem Gather.below {w w' : World} {own base : Nat} {v : Value} {b : List RA} (h : Gather w own base v b) (hb : Below w.heap.size w w') : Gather w' own base v b := by
  obtain ⟨rows, ho, hl, hr⟩ := h
  exact ⟨rows, own_below ho hb, hl, fun i a cs h1 h2 => (hr i a cs h1 h2).below hb⟩
theorem atomsC_len (l : List RC) (hb : ∀ c ∈ l, c.body.length ≤ 4) : (atomsC l).length ≤ 5 * l.length := by
  induction l with
  | nil => simp [atomsC]
  | cons c l ih =>
    have h1 := hb c (by simp)
    have h2 := ih (fun x hx => hb x (by simp [hx]))
    unfold atomsC at *
    simp only [List.flatMap_cons, List.length_append, List.length_cons]
    omega

set_option maxHeartbeats 2000000 in
set_option maxRecDepth 100000 in
theorem arity_r (w : World) (base : Nat) (ao : Option Addr) (cap : Nat) (l : List RC) (hL : ClRow w base (.slice ao l.length cap) l) (hn : l.length ≤ 40) (hb : ∀ c ∈ l, c.body.length ≤ 4) (nm : List UInt8) :
    Calls Tryd.prog 13 #[.slice ao l.length cap, .string (bs nm)] w fun e w' => e = .returned (.int .i64 (arityC (atomsC l) nm)) ∧ Below w.heap.size w w' := by
  have HAT := hid (atoms_r w base ao cap l hL hn hb)
  have hlen := atomsC_len l hb
  obtain ⟨all, HAL⟩ : ∃ all, Hid (all = atomsC l) := ⟨_, rfl⟩
  rw [← HAL.out] at HAT hlen ⊢
  clear HAL hL
  go_enter Tryd.func13, Tryd.ntmps13
  go_wp2_with fail
  refine (HAT.out).mono ?_
  rintro e w1 ⟨v, rfl, hG, hB⟩
  obtain ⟨oo, ocap, rfl⟩ := hG.form
  go_wp2_with fail
  go_loopw [6] (fun iv wr => ∃ (i : Nat), i ≤ all.length ∧ iv = .int .i64 i ∧ Hid (arityC (all.drop i) nm = arityC all nm) ∧ wr = w1) (fun iv _ => all.length - (intOf iv).toNat)
  case atStart => exact ⟨0, by omega, rfl, rfl, rfl⟩
  case round =>
    obtain ⟨i, hi, rfl, HX, rfl⟩ := hrel
    by_cases hlt : i < all.length
    · obtain ⟨g, tv, rfl, hg, b0, b1, b2, b3, b4, hT⟩ := gather_at hG rfl i hlt
      have HD : Hid (arityC (all.drop i) nm = if all[i].name = nm then ((all[i].ts.length : Nat) : Int) else arityC (all.drop (i + 1)) nm) := by
        show _ = _
        rw [List.drop_eq_getElem_cons hlt]
        unfold arityC
        rw [List.find?_cons]
        by_cases h : all[i].name = nm
        · simp [h]
        · simp [h]
      have hq := str_beq all[i].name nm
      generalize all[i] = a at *
      obtain ⟨tq, tcap, rfl⟩ := own_form hT
      unfold RA.w at b0
      cases hd : decide (a.name = nm)
      · rw [hd] at hq
        have hne : ¬ a.name = nm := by simpa using hd
        have HN : Hid (arityC (all.drop (i + 1)) nm = arityC all nm) := by
          show _ = _
          rw [← HX.out, HD.out, if_neg hne]
        clear hne hd
        go_wp2
        exact ⟨⟨i + 1, hlt, by go_num, HN, trivial⟩, by simp [intOf]; omega⟩
      · rw [hd] at hq
        have heq : a.name = nm := by simpa using hd
        have HE := hid (show arityC all nm = ((a.ts.length : Nat) : Int) by rw [← HX.out, HD.out, if_pos heq])
        clear heq hd
        go_wp2
        go_ret
        rw [HE.out]
        exact ⟨rfl, hB⟩
    · have hie : i = all.length := by omega
      have HE := hid (show arityC all nm = -1 by rw [← HX.out, hie, List.drop_length]; rfl)
      clear hie
      go_wp2
      go_ret
      rw [HE.out]
      exact ⟨rfl, hB⟩

end Go.Proofs.YtpbfiffgcgnidaaDoor
