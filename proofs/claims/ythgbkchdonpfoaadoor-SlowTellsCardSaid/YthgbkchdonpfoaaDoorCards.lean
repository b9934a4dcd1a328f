/-
  DERIVED. GIVEN WITH THE SEED: THE CARDS: each row of YthgbkchdonpfoaaDoorRows.lean that lists a variable, with what it lists TIED to the program's text (the seventh form; the later family's looks); each row that meets fmt, with fmt's text TOLD by the authors' own Lean function (tested against real Go, not proved from fmt's source: count such statements apart). THE CARD IS WHAT COUNTS. Prove the row's statement (the work); the ties are given (YthgbkchdonpfoaaDoorTie.lean); close each card by the builder's one call (the guide's Derived/Test/ToyasCard.lean, 'card_holds'). Laid BY PROGRAM, IN A SANDBOX (cutbox-door.mjs). By AI agents, Wed Nov 11 2026. No macro, syntax, notation, axiom, sorry.
-/
import Derived.Test.YthgbkchdonpfoaaDoorRows
import GoSem.ClaimSeven
namespace Go.Proofs.YthgbkchdonpfoaaDoor
namespace Rows

/-- THE TIED CARD OF 'gaiterlaw10.SlowTells'. -/
def slowTellsCard : Claim7 := { stood := { row := slowTellsRow, standIns := [], harness := (true, "dcdafd47aac0f6900f2e0fea357161250802264c33ab03f9cc0d1f069de20660"), looks := true }, kinds := [], alts := [], laidByText := true, laidKinds := [.data, .data], laidTests := true, laidLooks := .later }
def SlowTellsCardSaid : Prop := Claim7.holds Tryd.pinned (.plain (OpenSpec.ofChange slowTellsSpec)) slowTellsCard

/-- THE TIED CARD OF 'gaiterlaw10.SlowBack'. -/
def slowBackCard : Claim7 := { stood := { row := slowBackRow, standIns := [], harness := (true, "dcdafd47aac0f6900f2e0fea357161250802264c33ab03f9cc0d1f069de20660"), looks := true }, kinds := [], alts := [], laidByText := true, laidKinds := [.data, .data], laidTests := true, laidLooks := .later }
def SlowBackCardSaid : Prop := Claim7.holds Tryd.pinned (.plain (OpenSpec.ofChange slowBackSpec)) slowBackCard

/-- THE SECOND FORM's CARD OF 'gaiterlaw10.SlowTells'. -/
def slowTellsUptoCard : Claim7 := { stood := { row := slowTellsUptoRow, standIns := [], harness := (true, "dcdafd47aac0f6900f2e0fea357161250802264c33ab03f9cc0d1f069de20660"), looks := true }, kinds := [], alts := [], laidByText := true, laidKinds := [.data, .data], laidTests := true, laidLooks := .later }
def SlowTellsUptoCardSaid : Prop := Claim7.holds Tryd.pinned (.plain (OpenSpec.upto slowTellsSpec)) slowTellsUptoCard

/-- THE SECOND FORM's CARD OF 'gaiterlaw10.SlowBack'. -/
def slowBackUptoCard : Claim7 := { stood := { row := slowBackUptoRow, standIns := [], harness := (true, "dcdafd47aac0f6900f2e0fea357161250802264c33ab03f9cc0d1f069de20660"), looks := true }, kinds := [], alts := [], laidByText := true, laidKinds := [.data, .data], laidTests := true, laidLooks := .later }
def SlowBackUptoCardSaid : Prop := Claim7.holds Tryd.pinned (.plain (OpenSpec.upto slowBackSpec)) slowBackUptoCard
end Rows
end Go.Proofs.YthgbkchdonpfoaaDoor
