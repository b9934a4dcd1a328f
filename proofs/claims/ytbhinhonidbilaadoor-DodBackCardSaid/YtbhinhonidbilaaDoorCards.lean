/-
  DERIVED. GIVEN WITH THE SEED: THE CARDS: each row of YtbhinhonidbilaaDoorRows.lean that lists a variable, with what it lists TIED to the program's text (the seventh form; the later family's looks); each row that meets fmt, with fmt's text TOLD by the authors' own Lean function (tested against real Go, not proved from fmt's source: count such statements apart). THE CARD IS WHAT COUNTS. Prove the row's statement (the work); the ties are given (YtbhinhonidbilaaDoorTie.lean); close each card by the builder's one call (the guide's Derived/Test/ToyasCard.lean, 'card_holds'). Laid BY PROGRAM, IN A SANDBOX (cutbox-door.mjs). By AI agents, Wed Nov 11 2026. No macro, syntax, notation, axiom, sorry.
-/
import Derived.Test.YtbhinhonidbilaaDoorRows
import GoSem.ClaimSeven
namespace Go.Proofs.YtbhinhonidbilaaDoor
namespace Rows

/-- THE TIED CARD OF 'gaiterlaw05.DodTells'. -/
def dodTellsCard : Claim7 := { stood := { row := dodTellsRow, standIns := [], harness := (true, "4a994916378b642258e1dbf5c9240d804fb6d90c654c9634649d09af40499472"), looks := true }, kinds := [], alts := [], laidByText := true, laidKinds := [.data], laidTests := true, laidLooks := .later }
def DodTellsCardSaid : Prop := Claim7.holds Tryd.pinned (.plain (OpenSpec.ofChange dodTellsSpec)) dodTellsCard

/-- THE TIED CARD OF 'gaiterlaw05.DodBack'. -/
def dodBackCard : Claim7 := { stood := { row := dodBackRow, standIns := [], harness := (true, "4a994916378b642258e1dbf5c9240d804fb6d90c654c9634649d09af40499472"), looks := true }, kinds := [], alts := [], laidByText := true, laidKinds := [.data], laidTests := true, laidLooks := .later }
def DodBackCardSaid : Prop := Claim7.holds Tryd.pinned (.plain (OpenSpec.ofChange dodBackSpec)) dodBackCard

/-- THE SECOND FORM's CARD OF 'gaiterlaw05.DodTells'. -/
def dodTellsUptoCard : Claim7 := { stood := { row := dodTellsUptoRow, standIns := [], harness := (true, "4a994916378b642258e1dbf5c9240d804fb6d90c654c9634649d09af40499472"), looks := true }, kinds := [], alts := [], laidByText := true, laidKinds := [.data], laidTests := true, laidLooks := .later }
def DodTellsUptoCardSaid : Prop := Claim7.holds Tryd.pinned (.plain (OpenSpec.upto dodTellsSpec)) dodTellsUptoCard

/-- THE SECOND FORM's CARD OF 'gaiterlaw05.DodBack'. -/
def dodBackUptoCard : Claim7 := { stood := { row := dodBackUptoRow, standIns := [], harness := (true, "4a994916378b642258e1dbf5c9240d804fb6d90c654c9634649d09af40499472"), looks := true }, kinds := [], alts := [], laidByText := true, laidKinds := [.data], laidTests := true, laidLooks := .later }
def DodBackUptoCardSaid : Prop := Claim7.holds Tryd.pinned (.plain (OpenSpec.upto dodBackSpec)) dodBackUptoCard
end Rows
end Go.Proofs.YtbhinhonidbilaaDoor
