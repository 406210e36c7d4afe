/-
  DERIVED. GIVEN WITH THE SEED: THE CARDS: each row of YtpbfiffgcgnidaaGreatDoorRows.lean that lists a variable, with what it lists TIED to the program's text (the seventh form; the later family's looks); each row that meets fmt, with fmt's text TOLD by the authors' own Lean function (tested against real Go, not proved from fmt's source: count such statements apart). THE CARD IS WHAT COUNTS. Prove the row's statement (the work); the ties are given (YtpbfiffgcgnidaaGreatDoorTie.lean); close each card by the builder's one call (the guide's Derived/Test/ToyasCard.lean, 'card_holds'). Laid BY PROGRAM, IN A SANDBOX (cutbox-door.mjs). By AI agents, Wed Nov 11 2026. No macro, syntax, notation, axiom, sorry.
-/
import Derived.Test.YtpbfiffgcgnidaaGreatDoorRows
import GoSem.ClaimSeven
namespace Go.Proofs.YtpbfiffgcgnidaaGreatDoor
namespace Rows

/-- THE TIED CARD OF 'tabledlaw.Kept'. -/
def keptCard : Claim7 := { stood := { row := keptRow, standIns := [], harness := (true, "1418f1709baaa2a58d3ad6a2d276b08c986e085bb2fd6362dd432d8fd3385156"), looks := false }, kinds := [], alts := [], goes := true, laidByText := true, laidKinds := [.data], laidTests := true, laidLooks := .later }
def KeptCardSaid : Prop := Claim7.holds Tryz.pinned (.plain (OpenSpec.ofChange keptSpec)) keptCard

/-- THE TIED CARD OF 'tabledlaw.Layered'. -/
def layeredCard : Claim7 := { stood := { row := layeredRow, standIns := [], harness := (true, "1418f1709baaa2a58d3ad6a2d276b08c986e085bb2fd6362dd432d8fd3385156"), looks := false }, kinds := [], alts := [], goes := true, laidByText := true, laidKinds := [.data], laidTests := true, laidLooks := .later }
def LayeredCardSaid : Prop := Claim7.holds Tryz.pinned (.plain (OpenSpec.ofChange layeredSpec)) layeredCard

/-- THE TIED CARD OF 'tabledlaw.Asked'. -/
def askedCard : Claim7 := { stood := { row := askedRow, standIns := [], harness := (true, "1418f1709baaa2a58d3ad6a2d276b08c986e085bb2fd6362dd432d8fd3385156"), looks := false }, kinds := [], alts := [], goes := true, laidByText := true, laidKinds := [.data], laidTests := true, laidLooks := .later }
def AskedCardSaid : Prop := Claim7.holds Tryz.pinned (.plain (OpenSpec.ofChange askedSpec)) askedCard

/-- THE TIED CARD OF 'tabledlaw.Together'. -/
def togetherCard : Claim7 := { stood := { row := togetherRow, standIns := [], harness := (true, "1418f1709baaa2a58d3ad6a2d276b08c986e085bb2fd6362dd432d8fd3385156"), looks := false }, kinds := [], alts := [], goes := true, laidByText := true, laidKinds := [.data], laidTests := true, laidLooks := .later }
def TogetherCardSaid : Prop := Claim7.holds Tryz.pinned (.plain (OpenSpec.ofChange togetherSpec)) togetherCard

/-- THE TIED CARD OF 'tabledlaw.All'. -/
def allCard : Claim7 := { stood := { row := allRow, standIns := [], harness := (true, "1418f1709baaa2a58d3ad6a2d276b08c986e085bb2fd6362dd432d8fd3385156"), looks := false }, kinds := [], alts := [], goes := true, laidByText := true, laidKinds := [.data], laidTests := true, laidLooks := .later }
def AllCardSaid : Prop := Claim7.holds Tryz.pinned (.plain (OpenSpec.ofChange allSpec)) allCard

/-- THE SECOND FORM's CARD OF 'tabledlaw.Kept'. -/
def keptUptoCard : Claim7 := { stood := { row := keptUptoRow, standIns := [], harness := (true, "1418f1709baaa2a58d3ad6a2d276b08c986e085bb2fd6362dd432d8fd3385156"), looks := false }, kinds := [], alts := [], goes := true, laidByText := true, laidKinds := [.data], laidTests := true, laidLooks := .later }
def KeptUptoCardSaid : Prop := Claim7.holds Tryz.pinned (.plain (OpenSpec.upto keptSpec)) keptUptoCard

/-- THE SECOND FORM's CARD OF 'tabledlaw.Layered'. -/
def layeredUptoCard : Claim7 := { stood := { row := layeredUptoRow, standIns := [], harness := (true, "1418f1709baaa2a58d3ad6a2d276b08c986e085bb2fd6362dd432d8fd3385156"), looks := false }, kinds := [], alts := [], goes := true, laidByText := true, laidKinds := [.data], laidTests := true, laidLooks := .later }
def LayeredUptoCardSaid : Prop := Claim7.holds Tryz.pinned (.plain (OpenSpec.upto layeredSpec)) layeredUptoCard

/-- THE SECOND FORM's CARD OF 'tabledlaw.Asked'. -/
def askedUptoCard : Claim7 := { stood := { row := askedUptoRow, standIns := [], harness := (true, "1418f1709baaa2a58d3ad6a2d276b08c986e085bb2fd6362dd432d8fd3385156"), looks := false }, kinds := [], alts := [], goes := true, laidByText := true, laidKinds := [.data], laidTests := true, laidLooks := .later }
def AskedUptoCardSaid : Prop := Claim7.holds Tryz.pinned (.plain (OpenSpec.upto askedSpec)) askedUptoCard

/-- THE SECOND FORM's CARD OF 'tabledlaw.Together'. -/
def togetherUptoCard : Claim7 := { stood := { row := togetherUptoRow, standIns := [], harness := (true, "1418f1709baaa2a58d3ad6a2d276b08c986e085bb2fd6362dd432d8fd3385156"), looks := false }, kinds := [], alts := [], goes := true, laidByText := true, laidKinds := [.data], laidTests := true, laidLooks := .later }
def TogetherUptoCardSaid : Prop := Claim7.holds Tryz.pinned (.plain (OpenSpec.upto togetherSpec)) togetherUptoCard

/-- THE SECOND FORM's CARD OF 'tabledlaw.All'. -/
def allUptoCard : Claim7 := { stood := { row := allUptoRow, standIns := [], harness := (true, "1418f1709baaa2a58d3ad6a2d276b08c986e085bb2fd6362dd432d8fd3385156"), looks := false }, kinds := [], alts := [], goes := true, laidByText := true, laidKinds := [.data], laidTests := true, laidLooks := .later }
def AllUptoCardSaid : Prop := Claim7.holds Tryz.pinned (.plain (OpenSpec.upto allSpec)) allUptoCard
end Rows
end Go.Proofs.YtpbfiffgcgnidaaGreatDoor
