/-
  DERIVED. GIVEN WITH THE SEED: THE CARDS: each row of YtbocpgffddkfdaaGreatDoorRows.lean that lists a variable, with what it lists TIED to the program's text (the seventh form; the later family's looks); each row that meets fmt, with fmt's text TOLD by the authors' own Lean function (tested against real Go, not proved from fmt's source: count such statements apart). THE CARD IS WHAT COUNTS. Prove the row's statement (the work); the ties are given (YtbocpgffddkfdaaGreatDoorTie.lean); close each card by the builder's one call (the guide's Derived/Test/ToyasCard.lean, 'card_holds'). Laid BY PROGRAM, IN A SANDBOX (cutbox-door.mjs). By AI agents, Wed Nov 11 2026. No macro, syntax, notation, axiom, sorry.
-/
import Derived.Test.YtbocpgffddkfdaaGreatDoorRows
import GoSem.ClaimSeven
namespace Go.Proofs.YtbocpgffddkfdaaGreatDoor
namespace Rows

/-- THE TIED CARD OF 'gaitertop.TopCursor'. -/
def topCursorCard : Claim7 := { stood := { row := topCursorRow, standIns := [], harness := (true, "fa86173a52b69832f8e83597ef0c2836de87f983d061b4b31022074b907fe435"), looks := true }, kinds := [], alts := [], laidByText := true, laidKinds := [.data, .data, .data], laidTests := true, laidLooks := .later }
def TopCursorCardSaid : Prop := Claim7.holds Tryz.pinned (.plain (OpenSpec.ofChange topCursorSpec)) topCursorCard

/-- THE TIED CARD OF 'gaitertop.TopBack'. -/
def topBackCard : Claim7 := { stood := { row := topBackRow, standIns := [], harness := (true, "fa86173a52b69832f8e83597ef0c2836de87f983d061b4b31022074b907fe435"), looks := true }, kinds := [], alts := [], laidByText := true, laidKinds := [.data, .data, .data], laidTests := true, laidLooks := .later }
def TopBackCardSaid : Prop := Claim7.holds Tryz.pinned (.plain (OpenSpec.ofChange topBackSpec)) topBackCard

/-- THE TIED CARD OF 'gaitertop.TopSeeks'. -/
def topSeeksCard : Claim7 := { stood := { row := topSeeksRow, standIns := [], harness := (true, "fa86173a52b69832f8e83597ef0c2836de87f983d061b4b31022074b907fe435"), looks := true }, kinds := [], alts := [], laidByText := true, laidKinds := [.data, .data, .data], laidTests := true, laidLooks := .later }
def TopSeeksCardSaid : Prop := Claim7.holds Tryz.pinned (.plain (OpenSpec.ofChange topSeeksSpec)) topSeeksCard

/-- THE SECOND FORM's CARD OF 'gaitertop.TopCursor'. -/
def topCursorUptoCard : Claim7 := { stood := { row := topCursorUptoRow, standIns := [], harness := (true, "fa86173a52b69832f8e83597ef0c2836de87f983d061b4b31022074b907fe435"), looks := true }, kinds := [], alts := [], laidByText := true, laidKinds := [.data, .data, .data], laidTests := true, laidLooks := .later }
def TopCursorUptoCardSaid : Prop := Claim7.holds Tryz.pinned (.plain (OpenSpec.upto topCursorSpec)) topCursorUptoCard

/-- THE SECOND FORM's CARD OF 'gaitertop.TopBack'. -/
def topBackUptoCard : Claim7 := { stood := { row := topBackUptoRow, standIns := [], harness := (true, "fa86173a52b69832f8e83597ef0c2836de87f983d061b4b31022074b907fe435"), looks := true }, kinds := [], alts := [], laidByText := true, laidKinds := [.data, .data, .data], laidTests := true, laidLooks := .later }
def TopBackUptoCardSaid : Prop := Claim7.holds Tryz.pinned (.plain (OpenSpec.upto topBackSpec)) topBackUptoCard

/-- THE SECOND FORM's CARD OF 'gaitertop.TopSeeks'. -/
def topSeeksUptoCard : Claim7 := { stood := { row := topSeeksUptoRow, standIns := [], harness := (true, "fa86173a52b69832f8e83597ef0c2836de87f983d061b4b31022074b907fe435"), looks := true }, kinds := [], alts := [], laidByText := true, laidKinds := [.data, .data, .data], laidTests := true, laidLooks := .later }
def TopSeeksUptoCardSaid : Prop := Claim7.holds Tryz.pinned (.plain (OpenSpec.upto topSeeksSpec)) topSeeksUptoCard
end Rows
end Go.Proofs.YtbocpgffddkfdaaGreatDoor
