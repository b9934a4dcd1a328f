/-
  DERIVED. GIVEN WITH THE SEED: THE CARDS: each row of YtnjohmgacmcdnaaDoorRows.lean that lists a variable, with what it lists TIED to the program's text (the seventh form; the later family's looks); each row that meets fmt, with fmt's text TOLD by the authors' own Lean function (tested against real Go, not proved from fmt's source: count such statements apart). THE CARD IS WHAT COUNTS. Prove the row's statement (the work); the ties are given (YtnjohmgacmcdnaaDoorTie.lean); close each card by the builder's one call (the guide's Derived/Test/ToyasCard.lean, 'card_holds'). Laid BY PROGRAM, IN A SANDBOX (cutbox-door.mjs). By AI agents, Wed Nov 11 2026. No macro, syntax, notation, axiom, sorry.
-/
import Derived.Test.YtnjohmgacmcdnaaDoorRows
import GoSem.ClaimSeven
namespace Go.Proofs.YtnjohmgacmcdnaaDoor
namespace Rows

/-- THE TIED CARD OF 'gaiterlaw12.QuickTells'. -/
def quickTellsCard : Claim7 := { stood := { row := quickTellsRow, standIns := [], harness := (true, "0b73c1bfa4fa11e03b325ef6e77b15c6577a0c16cd366db6e06b267aea29f0ef"), looks := true }, kinds := [], alts := [], laidByText := true, laidKinds := [.data, .data, .data], laidTests := true, laidLooks := .later }
def QuickTellsCardSaid : Prop := Claim7.holds Tryd.pinned (.plain (OpenSpec.ofChange quickTellsSpec)) quickTellsCard

/-- THE TIED CARD OF 'gaiterlaw12.QuickSame'. -/
def quickSameCard : Claim7 := { stood := { row := quickSameRow, standIns := [], harness := (true, "0b73c1bfa4fa11e03b325ef6e77b15c6577a0c16cd366db6e06b267aea29f0ef"), looks := true }, kinds := [], alts := [], laidByText := true, laidKinds := [.data, .data, .data], laidTests := true, laidLooks := .later }
def QuickSameCardSaid : Prop := Claim7.holds Tryd.pinned (.plain (OpenSpec.ofChange quickSameSpec)) quickSameCard

/-- THE SECOND FORM's CARD OF 'gaiterlaw12.QuickTells'. -/
def quickTellsUptoCard : Claim7 := { stood := { row := quickTellsUptoRow, standIns := [], harness := (true, "0b73c1bfa4fa11e03b325ef6e77b15c6577a0c16cd366db6e06b267aea29f0ef"), looks := true }, kinds := [], alts := [], laidByText := true, laidKinds := [.data, .data, .data], laidTests := true, laidLooks := .later }
def QuickTellsUptoCardSaid : Prop := Claim7.holds Tryd.pinned (.plain (OpenSpec.upto quickTellsSpec)) quickTellsUptoCard

/-- THE SECOND FORM's CARD OF 'gaiterlaw12.QuickSame'. -/
def quickSameUptoCard : Claim7 := { stood := { row := quickSameUptoRow, standIns := [], harness := (true, "0b73c1bfa4fa11e03b325ef6e77b15c6577a0c16cd366db6e06b267aea29f0ef"), looks := true }, kinds := [], alts := [], laidByText := true, laidKinds := [.data, .data, .data], laidTests := true, laidLooks := .later }
def QuickSameUptoCardSaid : Prop := Claim7.holds Tryd.pinned (.plain (OpenSpec.upto quickSameSpec)) quickSameUptoCard
end Rows
end Go.Proofs.YtnjohmgacmcdnaaDoor
