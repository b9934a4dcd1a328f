/-
  DERIVED. GIVEN WITH THE SEED: THE CARDS: each row of YtkjkdiijlgoagaaGreatDoorRows.lean that lists a variable, with what it lists TIED to the program's text (the seventh form; the later family's looks); each row that meets fmt, with fmt's text TOLD by the authors' own Lean function (tested against real Go, not proved from fmt's source: count such statements apart). THE CARD IS WHAT COUNTS. Prove the row's statement (the work); the ties are given (YtkjkdiijlgoagaaGreatDoorTie.lean); close each card by the builder's one call (the guide's Derived/Test/ToyasCard.lean, 'card_holds'). Laid BY PROGRAM, IN A SANDBOX (cutbox-door.mjs). By AI agents, Wed Nov 11 2026. No macro, syntax, notation, axiom, sorry.
-/
import Derived.Test.YtkjkdiijlgoagaaGreatDoorRows
import GoSem.ClaimSeven
namespace Go.Proofs.YtkjkdiijlgoagaaGreatDoor
namespace Rows

/-- THE TIED CARD OF 'gaiterlaw19.JumpPlays'. -/
def jumpPlaysCard : Claim7 := { stood := { row := jumpPlaysRow, standIns := [], harness := (true, "a747ab86e6161c02703cb5a8ced69bc1b17ddf5c153ee56042ce28187aab3b0b"), looks := true }, kinds := [], alts := [], laidByText := true, laidKinds := [.data, .data, .data], laidTests := true, laidLooks := .later }
def JumpPlaysCardSaid : Prop := Claim7.holds Tryz.pinned (.plain (OpenSpec.ofChange jumpPlaysSpec)) jumpPlaysCard

/-- THE TIED CARD OF 'gaiterlaw19.JumpSame'. -/
def jumpSameCard : Claim7 := { stood := { row := jumpSameRow, standIns := [], harness := (true, "a747ab86e6161c02703cb5a8ced69bc1b17ddf5c153ee56042ce28187aab3b0b"), looks := true }, kinds := [], alts := [], laidByText := true, laidKinds := [.data, .data, .data], laidTests := true, laidLooks := .later }
def JumpSameCardSaid : Prop := Claim7.holds Tryz.pinned (.plain (OpenSpec.ofChange jumpSameSpec)) jumpSameCard

/-- THE SECOND FORM's CARD OF 'gaiterlaw19.JumpPlays'. -/
def jumpPlaysUptoCard : Claim7 := { stood := { row := jumpPlaysUptoRow, standIns := [], harness := (true, "a747ab86e6161c02703cb5a8ced69bc1b17ddf5c153ee56042ce28187aab3b0b"), looks := true }, kinds := [], alts := [], laidByText := true, laidKinds := [.data, .data, .data], laidTests := true, laidLooks := .later }
def JumpPlaysUptoCardSaid : Prop := Claim7.holds Tryz.pinned (.plain (OpenSpec.upto jumpPlaysSpec)) jumpPlaysUptoCard

/-- THE SECOND FORM's CARD OF 'gaiterlaw19.JumpSame'. -/
def jumpSameUptoCard : Claim7 := { stood := { row := jumpSameUptoRow, standIns := [], harness := (true, "a747ab86e6161c02703cb5a8ced69bc1b17ddf5c153ee56042ce28187aab3b0b"), looks := true }, kinds := [], alts := [], laidByText := true, laidKinds := [.data, .data, .data], laidTests := true, laidLooks := .later }
def JumpSameUptoCardSaid : Prop := Claim7.holds Tryz.pinned (.plain (OpenSpec.upto jumpSameSpec)) jumpSameUptoCard
end Rows
end Go.Proofs.YtkjkdiijlgoagaaGreatDoor
