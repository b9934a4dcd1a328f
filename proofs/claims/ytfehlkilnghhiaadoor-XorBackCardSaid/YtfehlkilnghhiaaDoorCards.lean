/-
  DERIVED. GIVEN WITH THE SEED: THE CARDS: each row of YtfehlkilnghhiaaDoorRows.lean that lists a variable, with what it lists TIED to the program's text (the seventh form; the later family's looks); each row that meets fmt, with fmt's text TOLD by the authors' own Lean function (tested against real Go, not proved from fmt's source: count such statements apart). THE CARD IS WHAT COUNTS. Prove the row's statement (the work); the ties are given (YtfehlkilnghhiaaDoorTie.lean); close each card by the builder's one call (the guide's Derived/Test/ToyasCard.lean, 'card_holds'). Laid BY PROGRAM, IN A SANDBOX (cutbox-door.mjs). By AI agents, Wed Nov 11 2026. No macro, syntax, notation, axiom, sorry.
-/
import Derived.Test.YtfehlkilnghhiaaDoorRows
import GoSem.ClaimSeven
namespace Go.Proofs.YtfehlkilnghhiaaDoor
namespace Rows

/-- THE TIED CARD OF 'gaiterlaw07.XorTells'. -/
def xorTellsCard : Claim7 := { stood := { row := xorTellsRow, standIns := [], harness := (true, "7a890caa33e11236fa2d7ff0aca4dc1678c9b3fdf0854441e2b15b26acef6553"), looks := true }, kinds := [], alts := [], laidByText := true, laidKinds := [.data], laidTests := true, laidLooks := .later }
def XorTellsCardSaid : Prop := Claim7.holds Tryd.pinned (.plain (OpenSpec.ofChange xorTellsSpec)) xorTellsCard

/-- THE TIED CARD OF 'gaiterlaw07.XorBack'. -/
def xorBackCard : Claim7 := { stood := { row := xorBackRow, standIns := [], harness := (true, "7a890caa33e11236fa2d7ff0aca4dc1678c9b3fdf0854441e2b15b26acef6553"), looks := true }, kinds := [], alts := [], laidByText := true, laidKinds := [.data], laidTests := true, laidLooks := .later }
def XorBackCardSaid : Prop := Claim7.holds Tryd.pinned (.plain (OpenSpec.ofChange xorBackSpec)) xorBackCard

/-- THE SECOND FORM's CARD OF 'gaiterlaw07.XorTells'. -/
def xorTellsUptoCard : Claim7 := { stood := { row := xorTellsUptoRow, standIns := [], harness := (true, "7a890caa33e11236fa2d7ff0aca4dc1678c9b3fdf0854441e2b15b26acef6553"), looks := true }, kinds := [], alts := [], laidByText := true, laidKinds := [.data], laidTests := true, laidLooks := .later }
def XorTellsUptoCardSaid : Prop := Claim7.holds Tryd.pinned (.plain (OpenSpec.upto xorTellsSpec)) xorTellsUptoCard

/-- THE SECOND FORM's CARD OF 'gaiterlaw07.XorBack'. -/
def xorBackUptoCard : Claim7 := { stood := { row := xorBackUptoRow, standIns := [], harness := (true, "7a890caa33e11236fa2d7ff0aca4dc1678c9b3fdf0854441e2b15b26acef6553"), looks := true }, kinds := [], alts := [], laidByText := true, laidKinds := [.data], laidTests := true, laidLooks := .later }
def XorBackUptoCardSaid : Prop := Claim7.holds Tryd.pinned (.plain (OpenSpec.upto xorBackSpec)) xorBackUptoCard
end Rows
end Go.Proofs.YtfehlkilnghhiaaDoor
