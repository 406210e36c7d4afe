/-
  OUR OWN. The document's answer: what a name depends on.
-/
import Derived.Test.YtpbfiffgcgnidaaDoorRef5
namespace Go.Proofs.YtpbfiffgcgnidaaDoor
open Go.RowKit Go.WideMaps Go.Maps
attribute [local go_sem] drewN_alloc drewN_setCell

def bnat : Value → Nat
  | .bool true => 1
  | _ => 0
/-- All names of bodies. -/
def bodyNames (l : List RC) : List (List UInt8) := l.flatMap fun c => c.body.map fun b => b.name
theorem bodyNames_len (l : List RC) (hb : ∀ c ∈ l, c.body.length ≤ 4) : (bodyNames l).length ≤ 4 * l.length := by
  induction l with
  | nil => simp [bodyNames]
  | cons c l ih =>
    have h1 := hb c (by simp)
    have h2 := ih (fun x hx => hb x (by simp [hx]))
    unfold bodyNames at *
    simp only [List.flatMap_cons, List.length_append, List.length_map, List.length_cons]
    omega
/-- What was gathered so far. -/
structure Dep (l : List RC) (p : List UInt8) (xs : List (List UInt8)) : Prop where
  nodup : xs.Nodup
  sub : ∀ x ∈ xs, x ∈ bodyNames l
  least : ∀ P : List UInt8 → Prop, (∀ c ∈ l, (c.head.name = p ∨ P c.head.name) → ∀ b ∈ c.body, P b.name) → ∀ x ∈ xs, P x
theorem Dep.nil (l : List RC) (p : List UInt8) : Dep l p [] := ⟨by simp, by simp, by simp⟩
theorem Dep.len {l : List RC} {p : List UInt8} {xs : List (List UInt8)} (h : Dep l p xs) : xs.length ≤ (bodyNames l).length := h.nodup.length_le_of_subset h.sub
theorem Dep.more {l : List RC} {p : List UInt8} {xs : List (List UInt8)} (h : Dep l p xs) {c : RC} (hc : c ∈ l) {b : RA} (hb : b ∈ c.body) (hf : c.head.name = p ∨ c.head.name ∈ xs) (hn : hasW xs b.name = false) : Dep l p (xs ++ [b.name]) := by
  have hx : b.name ∉ xs := by simpa [hasW] using hn
  refine ⟨?_, ?_, ?_⟩
  · rw [List.nodup_append]
    exact ⟨h.nodup, by simp, by intro a ha b' hb'; simp at hb'; subst hb'; intro e; exact hx (e ▸ ha)⟩
  · intro x hx'
    rw [List.mem_append, List.mem_singleton] at hx'
    rcases hx' with h' | rfl
    · exact h.sub x h'
    · unfold bodyNames
      rw [List.mem_flatMap]
      exact ⟨c, hc, List.mem_map.2 ⟨b, hb, rfl⟩⟩
  · intro P hP x hx'
    rw [List.mem_append, List.mem_singleton] at hx'
    rcases hx' with h' | rfl
    · exact h.least P hP x h'
    · refine hP c hc ?_ b hb
      rcases hf with hf | hf
      · exact .inl hf
      · exact .inr (h.least P hP _ hf)
/-- A clause's first k literals add nothing. -/
def Still (p : List UInt8) (xs : List (List UInt8)) (c : RC) (k : Nat) : Prop := (c.head.name = p ∨ c.head.name ∈ xs) → ∀ b ∈ c.body.take k, b.name ∈ xs
theorem Still.step {p : List UInt8} {xs : List (List UInt8)} {c : RC} {k : Nat} (h : Still p xs c k) (hk : k < c.body.length) (hs : (c.head.name = p ∨ c.head.name ∈ xs) → c.body[k].name ∈ xs) : Still p xs c (k + 1) := by
  intro hf b hb
  rw [List.take_succ_eq_append_getElem hk, List.mem_append, List.mem_singleton] at hb
  rcases hb with hb | rfl
  · exact h hf b hb
  · exact hs hf

set_option maxHeartbeats 4000000 in
set_option maxRecDepth 100000 in
theorem below_r (w : World) (base : Nat) (ao : Option Addr) (cap : Nat) (l : List RC) (hL : ClRow w base (.slice ao l.length cap) l) (hn : l.length ≤ 40) (hb : ∀ c ∈ l, c.body.length ≤ 4) (p : List UInt8) :
    Calls Tryd.prog 15 #[.slice ao l.length cap, .string (bs p)] w fun e w' => ∃ xs v, e = .returned v ∧ w'.ownsRow w.heap.size 9 1 v xs.length (xs.map fun x => .string (bs x)) ∧ xs.length ≤ 160 ∧ Deps l p xs ∧ Below w.heap.size w w' := by
  obtain ⟨i1, hi1, hy0, hy1, hy2⟩ := info_parts infoStr
  have hU := bodyNames_len l hb
  go_enter Tryd.func15, Tryd.ntmps15
  go_wp2
  go_loopw [5, 6] (fun ov gv wr => ∃ (xs : List (List UInt8)) (gr : Bool), gv = .bool gr ∧ wr.ownsRow w.heap.size 9 1 ov xs.length (xs.map fun x => .string (bs x)) ∧ Hid (Dep l p xs) ∧ Hid (gr = false → ∀ c ∈ l, Still p xs c c.body.length) ∧ Below w.heap.size w wr) (fun ov gv _ => ((bodyNames l).length - slen ov) * 2 + bnat gv)
  case atStart => exact ⟨[], true, rfl, World.ownsRow_nil _ _ _ _, Dep.nil l p, by intro h; simp at h, Below.refl _ _⟩
  case round =>
    obtain ⟨xs0, gr, rfl, ho, HD, HS, hB⟩ := hrel
    cases gr
    · have HDD : Hid (Deps l p xs0) := by
        refine ⟨?_, HD.out.least⟩
        intro c hc hf b hb'
        refine HS.out rfl c hc hf b ?_
        rw [List.take_length]
        exact hb'
      have hlen := HD.out.len
      go_wp2
      go_ret
      exact ⟨xs0, _, rfl, ho, by omega, HDD.out, hB⟩
    · have hlen0 := HD.out.len
      clear HS
      obtain ⟨oo, ocap, rfl⟩ := own_form ho
      go_wp2_with fail
      go_loopw [5, 6, 7] (fun ov gv iv wr => ∃ (i : Nat) (xs : List (List UInt8)) (gr : Bool), i ≤ l.length ∧ iv = .int .i64 i ∧ gv = .bool gr ∧ wr.ownsRow w.heap.size 9 1 ov xs.length (xs.map fun x => .string (bs x)) ∧ Hid (Dep l p xs) ∧ xs0.length ≤ xs.length ∧ (gr = true → xs0.length < xs.length) ∧ Hid (gr = false → ∀ c ∈ l.take i, Still p xs c c.body.length) ∧ Below w.heap.size w wr) (fun _ _ iv _ => l.length - (intOf iv).toNat)
      case atStart => exact ⟨0, xs0, false, by omega, rfl, rfl, ho, HD, Nat.le_refl _, by simp, by intro _ c hc; simp at hc, hB⟩
      case round =>
        clear ho HD hB
        obtain ⟨i, xs, gr, hi, rfl, rfl, ho, HD, hxl, hgr, HS, hB⟩ := hrel
        have hlen := HD.out.len
        obtain ⟨oq, oqc, rfl⟩ := own_form ho
        by_cases hlt : i < l.length
        · obtain ⟨g, tv, bo, bcap, rfl, hg, b0, b1, b2, b3, b4, b5, hT, hR⟩ := rclause_at hL rfl i hlt
          have hcl : l[i] ∈ l := List.getElem_mem hlt
          have hbl := hb l[i] hcl
          have HTK := hid (show l.take (i + 1) = l.take i ++ [l[i]] from List.take_succ_eq_append_getElem hlt)
          generalize l[i] = c at *
          have HB0 := hid b0
          have HB5 := hid b5
          rw [← hB.cell (p := ⟨g, i * 6 + 5, none⟩) hg] at b5
          clear b0 b1 b2 b3 b4 hT
          go_wp2_with fail
          go_loopw [5, 6, 8] (fun ov gv kv wr => ∃ (k : Nat) (xs : List (List UInt8)) (gr : Bool), k ≤ c.body.length ∧ kv = .int .i64 k ∧ gv = .bool gr ∧ wr.ownsRow w.heap.size 9 1 ov xs.length (xs.map fun x => .string (bs x)) ∧ Hid (Dep l p xs) ∧ xs0.length ≤ xs.length ∧ (gr = true → xs0.length < xs.length) ∧ Hid (gr = false → (∀ c ∈ l.take i, Still p xs c c.body.length) ∧ Still p xs c k) ∧ Below w.heap.size w wr) (fun _ _ kv _ => c.body.length - (intOf kv).toNat)
          case atStart => exact ⟨0, xs, gr, by omega, rfl, rfl, ho, HD, hxl, hgr, fun h => ⟨HS.out h, by intro _ b hb'; simp at hb'⟩, hB⟩
          case round =>
            clear ho HD hB HS hxl hgr hlen b5
            obtain ⟨k, xs, gr, hk, rfl, rfl, ho, HD1, hxl, hgr, HS1, hB1⟩ := hrel
            have hlen := HD1.out.len
            have hszw := hB1.size
            obtain ⟨oq, oqc, rfl⟩ := own_form ho
            have b5 := HB5.out
            rw [← hB1.cell (p := ⟨g, i * 6 + 5, none⟩) hg] at b5
            by_cases hkl : k < c.body.length
            · obtain ⟨gb, tw, rfl, hgb, e0, e1, e2, e3, e4, hTb⟩ := ratom_at hR rfl k hkl
              have hbm : c.body[k] ∈ c.body := List.getElem_mem hkl
              have b0 := HB0.out
              rw [← hB1.cell (p := ⟨g, i * 6, none⟩) hg] at b0
              rw [← hB1.cell (p := ⟨gb, k * 5, none⟩) hgb] at e0
              obtain ⟨b, HBN⟩ : ∃ b, Hid (b = c.body[k]) := ⟨c.body[k], hid rfl⟩
              rw [← HBN.out] at hbm e0
              unfold RA.w at b0 e0
              clear e1 e2 e3 e4 hTb
              have hq := str_beq c.head.name p
              cases hp : decide (c.head.name = p)
              · rw [hp] at hq
                have hpn : ¬ c.head.name = p := by simpa using hp
                cases hin : hasW xs c.head.name
                · have hfrom : ¬ (c.head.name = p ∨ c.head.name ∈ xs) := by
                    rintro (h | h)
                    · exact hpn h
                    · have : hasW xs c.head.name = true := by simpa [hasW] using h
                      rw [hin] at this; simp at this
                  clear hpn hp
                  go_wp2_with fail
                  refine (in_c _ w.heap.size oq oqc xs ho (by omega) c.head.name).mono ?_
                  rintro e wx ⟨he, hwx⟩
                  subst wx
                  rw [hin] at he
                  subst he
                  have HSN : Hid (gr = false → (∀ c ∈ l.take i, Still p xs c c.body.length) ∧ Still p xs c (k + 1)) := fun h => ⟨(HS1.out h).1, (HS1.out h).2.step hkl (fun hf => absurd hf hfrom)⟩
                  obtain ⟨hadb, hhad⟩ : ∃ hb, hasW xs b.name = hb := ⟨_, rfl⟩
                  go_wp2_with fail
                  refine (in_c _ w.heap.size oq oqc xs ho (by omega) b.name).mono ?_
                  rintro e wx ⟨he, hwx⟩
                  subst wx
                  rw [hhad] at he
                  subst he
                  go_wp2_with fail
                  exact ⟨⟨k + 1, xs, gr, hkl, by go_num, rfl, ho, HD1, hxl, hgr, HSN, hB1⟩, by simp [intOf]; omega⟩
                · have hfrom : c.head.name = p ∨ c.head.name ∈ xs := .inr (by simpa [hasW] using hin)
                  clear hpn hp
                  go_wp2_with fail
                  refine (in_c _ w.heap.size oq oqc xs ho (by omega) c.head.name).mono ?_
                  rintro e wx ⟨he, hwx⟩
                  subst wx
                  rw [hin] at he
                  subst he
                  cases hhad : hasW xs b.name
                  · have HDN := hid (HD1.out.more hcl hbm hfrom hhad)
                    go_wp2_with fail
                    refine (in_c _ w.heap.size oq oqc xs ho (by omega) b.name).mono ?_
                    rintro e wx ⟨he, hwx⟩
                    subst wx
                    rw [hhad] at he
                    subst he
                    go_wp2_with (at_builtin; refine wpList_append_ownS _ rfl _ _ 59 rfl w.heap.size 9 i1 _ 1 16 Tryd.underlying59 hi1 hy0 hy1 hy2 rfl (by decide) _ xs.length (xs.map fun x => .string (bs x)) rfl (ho.alloc _) ⟨wr.heap.size, 0, none⟩ 1 [.string (bs b.name)] rfl rfl (new_cells _ _ _) (by intro u hu; simp at hu; subst hu; rfl) (by unfold maxLen; omega) (by omega) (by simp; omega) ?_; intro g2 cap2 w2 hL2 hg2)
                    have hB2 : Below w.heap.size w w2 := (hB1.alloc (by omega) _).grown hg2 (by simp; omega) (own_base ho)
                    exact ⟨⟨k + 1, xs ++ [b.name], true, hkl, by go_num, rfl, by simpa using hL2, HDN, by simp; omega, by simp; omega, by intro h; simp at h, hB2⟩, by simp [intOf]; omega⟩
                  · have HSN : Hid (gr = false → (∀ c ∈ l.take i, Still p xs c c.body.length) ∧ Still p xs c (k + 1)) := fun h => ⟨(HS1.out h).1, (HS1.out h).2.step hkl (fun _ => HBN.out ▸ (by simpa [hasW] using hhad))⟩
                    go_wp2_with fail
                    refine (in_c _ w.heap.size oq oqc xs ho (by omega) b.name).mono ?_
                    rintro e wx ⟨he, hwx⟩
                    subst wx
                    rw [hhad] at he
                    subst he
                    go_wp2_with fail
                    exact ⟨⟨k + 1, xs, gr, hkl, by go_num, rfl, ho, HD1, hxl, hgr, HSN, hB1⟩, by simp [intOf]; omega⟩
              · rw [hp] at hq
                have hfrom : c.head.name = p ∨ c.head.name ∈ xs := .inl (by simpa using hp)
                clear hp
                cases hhad : hasW xs b.name
                · have HDN := hid (HD1.out.more hcl hbm hfrom hhad)
                  go_wp2_with fail
                  refine (in_c _ w.heap.size oq oqc xs ho (by omega) b.name).mono ?_
                  rintro e wx ⟨he, hwx⟩
                  subst wx
                  rw [hhad] at he
                  subst he
                  go_wp2_with (at_builtin; refine wpList_append_ownS _ rfl _ _ 59 rfl w.heap.size 9 i1 _ 1 16 Tryd.underlying59 hi1 hy0 hy1 hy2 rfl (by decide) _ xs.length (xs.map fun x => .string (bs x)) rfl (ho.alloc _) ⟨wr.heap.size, 0, none⟩ 1 [.string (bs b.name)] rfl rfl (new_cells _ _ _) (by intro u hu; simp at hu; subst hu; rfl) (by unfold maxLen; omega) (by omega) (by simp; omega) ?_; intro g2 cap2 w2 hL2 hg2)
                  have hB2 : Below w.heap.size w w2 := (hB1.alloc (by omega) _).grown hg2 (by simp; omega) (own_base ho)
                  exact ⟨⟨k + 1, xs ++ [b.name], true, hkl, by go_num, rfl, by simpa using hL2, HDN, by simp; omega, by simp; omega, by intro h; simp at h, hB2⟩, by simp [intOf]; omega⟩
                · have HSN : Hid (gr = false → (∀ c ∈ l.take i, Still p xs c c.body.length) ∧ Still p xs c (k + 1)) := fun h => ⟨(HS1.out h).1, (HS1.out h).2.step hkl (fun _ => HBN.out ▸ (by simpa [hasW] using hhad))⟩
                  go_wp2_with fail
                  refine (in_c _ w.heap.size oq oqc xs ho (by omega) b.name).mono ?_
                  rintro e wx ⟨he, hwx⟩
                  subst wx
                  rw [hhad] at he
                  subst he
                  go_wp2_with fail
                  exact ⟨⟨k + 1, xs, gr, hkl, by go_num, rfl, ho, HD1, hxl, hgr, HSN, hB1⟩, by simp [intOf]; omega⟩
            · have hke : k = c.body.length := by omega
              have HSN : Hid (gr = false → ∀ c ∈ l.take (i + 1), Still p xs c c.body.length) := by
                intro h c' hc'
                rw [HTK.out, List.mem_append, List.mem_singleton] at hc'
                rcases hc' with hc' | rfl
                · exact (HS1.out h).1 c' hc'
                · rw [← hke]; exact (HS1.out h).2
              clear hke
              go_wp2_with fail
              exact ⟨⟨i + 1, xs, gr, hlt, by go_num, rfl, ho, HD1, hxl, hgr, HSN, hB1⟩, by simp [intOf]; omega⟩
        · have hie : i = l.length := by omega
          rw [hie, List.take_length] at HS
          clear hie
          go_wp2_with fail
          refine ⟨⟨xs, gr, rfl, ho, HD, HS, hB⟩, ?_⟩
          cases gr
          · simp only [slen, bnat]; omega
          · have := hgr rfl
            simp only [slen, bnat]; omega

end Go.Proofs.YtpbfiffgcgnidaaDoor
