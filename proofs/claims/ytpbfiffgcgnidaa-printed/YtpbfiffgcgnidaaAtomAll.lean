/-
  OUR OWN. The reader's atom, whatever the text.
-/
import Derived.Test.YtpbfiffgcgnidaaAtom2
import Derived.Test.YtpbfiffgcgnidaaAtom3
namespace Go.Proofs.Ytpbfiffgcgnidaa
open Go.RowKit

theorem atom_l (w : World) (b : Nat) (s : ByteArray) (l : List UInt8) (hR : Rd w b s l) (hs : s.size ≤ 281474976710656) :
    Calls Try.prog 46 #[.pointer (some ⟨b, 0, none⟩)] w fun e w' => e = .returned (atomR s l).val ∧ Rd w' b s (atomR s l).rest ∧ Kept b w w' := by
  cases h1 : small (hd (skipL l))
  · exact atom_no w b s l hR hs h1
  · cases h2 : tookB ((skipL l).drop (wlen smallDig 12 (skipL l))) 40
    · exact atom_bare w b s l hR hs h1 h2
    · exact atom_args w b s l hR hs h1 h2

end Go.Proofs.Ytpbfiffgcgnidaa
