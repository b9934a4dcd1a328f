/-
  DERIVED. GIVEN WITH THE SEED: THE CARDS: each row of YtgjmdoaadiipmaaDoorRows.lean that lists a variable, with what it lists TIED to the program's text (the seventh form; the later family's looks); each row that meets fmt, with fmt's text TOLD by the authors' own Lean function (tested against real Go, not proved from fmt's source: count such statements apart). THE CARD IS WHAT COUNTS. Prove the row's statement (the work); the ties are given (YtgjmdoaadiipmaaDoorTie.lean); close each card by the builder's one call (the guide's Derived/Test/ToyasCard.lean, 'card_holds'). Laid BY PROGRAM, IN A SANDBOX (cutbox-door.mjs). By AI agents, Wed Nov 11 2026. No macro, syntax, notation, axiom, sorry.
-/
import Derived.Test.YtgjmdoaadiipmaaDoorRows
import GoSem.ClaimSeven
namespace Go.Proofs.YtgjmdoaadiipmaaDoor
namespace Rows

/-- THE TIED CARD OF 'gaiterlaw06.TabTells'. -/
def tabTellsCard : Claim7 := { stood := { row := tabTellsRow, standIns := [], harness := (true, "7db0a91c2547c78f5e3314437caa7e761347ddfd0cd82feb2a14e3d5151d891f"), looks := true }, kinds := [], alts := [], laidByText := true, laidKinds := [.data, .data], laidTests := true, laidLooks := .later }
def TabTellsCardSaid : Prop := Claim7.holds Tryd.pinned (.plain (OpenSpec.ofChange tabTellsSpec)) tabTellsCard

/-- THE TIED CARD OF 'gaiterlaw06.TabSame'. -/
def tabSameCard : Claim7 := { stood := { row := tabSameRow, standIns := [], harness := (true, "7db0a91c2547c78f5e3314437caa7e761347ddfd0cd82feb2a14e3d5151d891f"), looks := true }, kinds := [], alts := [], laidByText := true, laidKinds := [.data, .data], laidTests := true, laidLooks := .later }
def TabSameCardSaid : Prop := Claim7.holds Tryd.pinned (.plain (OpenSpec.ofChange tabSameSpec)) tabSameCard

/-- THE SECOND FORM's CARD OF 'gaiterlaw06.TabTells'. -/
def tabTellsUptoCard : Claim7 := { stood := { row := tabTellsUptoRow, standIns := [], harness := (true, "7db0a91c2547c78f5e3314437caa7e761347ddfd0cd82feb2a14e3d5151d891f"), looks := true }, kinds := [], alts := [], laidByText := true, laidKinds := [.data, .data], laidTests := true, laidLooks := .later }
def TabTellsUptoCardSaid : Prop := Claim7.holds Tryd.pinned (.plain (OpenSpec.upto tabTellsSpec)) tabTellsUptoCard

/-- THE SECOND FORM's CARD OF 'gaiterlaw06.TabSame'. -/
def tabSameUptoCard : Claim7 := { stood := { row := tabSameUptoRow, standIns := [], harness := (true, "7db0a91c2547c78f5e3314437caa7e761347ddfd0cd82feb2a14e3d5151d891f"), looks := true }, kinds := [], alts := [], laidByText := true, laidKinds := [.data, .data], laidTests := true, laidLooks := .later }
def TabSameUptoCardSaid : Prop := Claim7.holds Tryd.pinned (.plain (OpenSpec.upto tabSameSpec)) tabSameUptoCard
end Rows
end Go.Proofs.YtgjmdoaadiipmaaDoor
