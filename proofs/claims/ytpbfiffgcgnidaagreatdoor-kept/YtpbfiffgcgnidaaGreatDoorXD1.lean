/-
  OUR OWN. The door: what the rows' condition gives.
-/
import Derived.Test.YtpbfiffgcgnidaaGreatDoorRows
import Derived.Test.YtpbfiffgcgnidaaGreatDoorXR11
import Derived.ProofKit
import Derived.LaidMore
import Derived.OpenShut
import Derived.Stop.Joined
import Derived.SevenTiedAt
namespace Go.Proofs.YtpbfiffgcgnidaaGreatDoor
open Go.ChangeShapes Go.WideShapes Go.ChangeAt Go.ChangeMaps Go.WideMaps Go.WideElems Go.RowKit

theorem ownKnobs : ownKnob Tryz.prog.godebug = none := by kernel_rfl
def endsName : String := (Rows.keptRow.laid.map fun x => x.1).headD default
theorem gEnds : Tryz.prog.globalNamed endsName = some 0 := by kernel_rfl
theorem tEnds : (Tryz.prog.globals[0]?).map (·.type) = some 128 := by kernel_rfl
theorem cellsStr : Tryz.prog.cellsOf 9 = 1 := by kernel_rfl
theorem cellsEnds : Tryz.prog.cellsOf 128 = 9 := by kernel_rfl
theorem cell_lt {w : World} {b o : Nat} {v : Value} (h : w.cell? ⟨b, o, none⟩ = some v) : b < w.heap.size := by
  apply Classical.byContradiction
  intro hn
  have h0 : w.heap[b]? = none := Array.getElem?_eq_none (by omega)
  simp [World.cell?, h0] at h
theorem bs_of (s : ByteArray) (l : List UInt8) (h : s.data.toList = l) : s = bs l := by
  subst h
  apply ByteArray.ext
  simp [bs]

/-- What the condition gives: the nine ends. -/
theorem ends_of_laid {W : World} (h : laidMetH Tryz.prog Rows.keptRow.laid W) : EndsIs W := by
  rw [MakeChecks.laidMetH_plain _ _ _ (by kernel_rfl)] at h
  obtain ⟨ps, ⟨g, t, cs, fuel, p, q, hg, ht, hv, hd, _, _⟩, _, _⟩ := h
  obtain rfl := Option.some.inj (gEnds.symm.trans hg)
  obtain rfl := Option.some.inj (tEnds.symm.trans ht)
  obtain ⟨xs, m, _, ex, hlen, hl, hel⟩ := DataW.trod_array Tryz.underlying128 hd
  have e3 : endsP.map (fun e => DataW.lit (.string e)) = xs.map (·.1) := DataW.agg.inj (Prod.mk.inj ex).1
  obtain ⟨l⟩ := cs
  intro k hk
  have hk9 : k < 9 := hk
  have hx := hel k hk9
  rw [cellsStr, Nat.mul_one, List.getElem?_eq_getElem (by omega)] at hx
  obtain ⟨s, e1, e2, _⟩ := DataW.trod_string Tryz.underlying9 hx
  have e4 := congrArg (fun z => z[k]?) e3
  simp only [List.getElem?_map, List.getElem?_eq_getElem hk, List.getElem?_eq_getElem (show k < xs.length by omega), Option.map_some, Option.some.injEq] at e4
  rw [e2] at e4
  have e5 : s.data.toList = endsP[k] := by
    injection e4 with e6
    injection e6 with e7
    exact e7.symm
  have hc := World.var?_cell hg hv k
  have e8 : l[k]? = some (.string s) := by
    have := congrArg (fun z => z[0]?) e1
    simpa [List.getElem?_take, List.getElem?_drop] using this
  have e9 : W.cell? ⟨0, k, none⟩ = some (.string s) := by
    rw [hc]
    simpa using e8
  exact e9.trans (congrArg (fun z => some (Value.string z)) (bs_of s _ e5))

end Go.Proofs.YtpbfiffgcgnidaaGreatDoor

namespace Go.Proofs.YtpbfiffgcgnidaaGreatDoor

theorem tied_goes (Lk : Looks) {p : Pinned} {s : OpenSpec} {c : OpenClaim} (kinds : List LaidKind) (tests : Bool) (har : Bool × String) (lk g : Bool)
    (hc : c.holds p s) (hw : c.wfByText s = true) (htie : c.laidByTextAt Lk p kinds tests)
    (hst : c.start = .entering) (hnb : c.noBlocks = false ∧ c.again = false) (hm : p.checked.prog.mainIs = some (har.1, har.2.toList)) (hn : (!har.1 && har.2.isEmpty && !lk) = false)
    (hl : ∀ f fn, p.checked.prog.funcNamed c.func = some f → p.checked.prog.funcs[f]? = some fn → lk = p.checked.prog.looks [] ∧ ∀ (j : Nat) t, fn.params[j]? = some t → p.checked.prog.wantsStandIn t = false)
    (hg : g = c.goesBy p.checked.prog) :
    Claim7.holds p (.plain s) { stood := { row := c, standIns := [], harness := har, looks := lk }, kinds := [], alts := [], goes := g, laidByText := true, laidKinds := kinds, laidTests := tests, laidLooks := Lk } := by
  have h6 : ∀ r : OpenClaim, Claim7.isSixth { stood := { row := r, standIns := [], harness := har, looks := lk }, kinds := [] } = false := fun r => by simpa [Claim7.isSixth] using hn
  exact ⟨Claim7.tied_new_at Lk kinds tests (Claim7.new_of_sixth hc har lk hst hnb hm (h6 c) hl) hw, (fun D hD => by cases hD), htie, (fun h => by cases h), hg⟩

end Go.Proofs.YtpbfiffgcgnidaaGreatDoor
