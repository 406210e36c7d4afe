/-
  OUR OWN. Draws are carried outward. Blocks, more.
-/
import Derived.Test.YtpbfiffgcgnidaaBase
namespace Go.Proofs.Ytpbfiffgcgnidaa
open Go.RowKit

theorem hid {p : Prop} (h : p) : Hid p := h
theorem drewN_alloc (w : World) (n : Nat) (o : Obj) : (w.drewN n).alloc o = (w.alloc o).drewN n := rfl
theorem drewN_setCell (w : World) (n : Nat) (a : Addr) (v : Value) : (w.drewN n).setCell a v = (w.setCell a v).drewN n := rfl

theorem Kept.drewn {b : Nat} {u w : World} (h : Kept b u w) : Kept b u w.drew := h.trans (Kept.drew b w)
theorem Kept.set5 {b : Nat} {u w : World} (h : Kept b u w) (A : Nat) (hA : u.heap.size ≤ A) (x0 x1 x2 x3 x4 : Value) :
    Kept b u (((((w.setCell ⟨A, 0, none⟩ x0).setCell ⟨A, 1, none⟩ x1).setCell ⟨A, 2, none⟩ x2).setCell ⟨A, 3, none⟩ x3).setCell ⟨A, 4, none⟩ x4) :=
  ((((h.setNew (p := ⟨A, 0, none⟩) hA x0).setNew (p := ⟨A, 1, none⟩) hA x1).setNew (p := ⟨A, 2, none⟩) hA x2).setNew (p := ⟨A, 3, none⟩) hA x3).setNew (p := ⟨A, 4, none⟩) hA x4
theorem Blk.setOther5 {w : World} {b : Nat} {cs : List Value} {t : TypeId} (h : Blk w b cs t) (A : Nat) (hA : b ≠ A) (x0 x1 x2 x3 x4 : Value) :
    Blk (((((w.setCell ⟨A, 0, none⟩ x0).setCell ⟨A, 1, none⟩ x1).setCell ⟨A, 2, none⟩ x2).setCell ⟨A, 3, none⟩ x3).setCell ⟨A, 4, none⟩ x4) b cs t :=
  ((((h.setOther ⟨A, 0, none⟩ x0 hA).setOther ⟨A, 1, none⟩ x1 hA).setOther ⟨A, 2, none⟩ x2 hA).setOther ⟨A, 3, none⟩ x3 hA).setOther ⟨A, 4, none⟩ x4 hA

end Go.Proofs.Ytpbfiffgcgnidaa
