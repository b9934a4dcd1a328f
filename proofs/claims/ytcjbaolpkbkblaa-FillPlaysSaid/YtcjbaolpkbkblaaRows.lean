/-
  No cell of these rows narrows 'for every input' (looked for: loops, veiled, ifaces, maps, wideKeys, modest, calm, conditions, laid).
  DERIVED. THE GIVEN ROWS OF THIS SEAT. 2 by the template 'for every input the law returns true; each argument reads behind the call as it read before'; 0 by the template 'total and deterministic' (their statements: YtcjbaolpkbkblaaTotals.lean).
  GIVEN WITH THE SEED: the statements are not yours to turn. If you find one false, say at which input.
  Laid BY PROGRAM, IN A SANDBOX (cutbox-rows.mjs): the forced cells as the released guide's own fill.sh prints them over the translation 23403eac5f58eb3d… (all of the seat's roots in one cut). By AI agents, Wed Nov 11 2026. No macro, syntax, notation, axiom, sorry.
-/
import Derived.Test.YtcjbaolpkbkblaaChecked
import GoSem.Claim
import GoSem.ClaimJoined
import GoSem.ClaimMapViews
import Derived.JoinedTies
import Derived.KernelRfl
namespace Go.Proofs.Ytcjbaolpkbkblaa
/- THE CELL 'sum', in the pinned program and in every row, IS THE sha256 OF THE DUMP (.gsa) THAT YtcjbaolpkbkblaaProg.lean LOADS. Nothing in Lean hashes anything: it is a label: what it is worth is what the hold of that sum in a sandbox is worth. -/
noncomputable def Try.pinned : Pinned := { name := "ytcjbaolpkbkblaa", sum := "23403eac5f58eb3d6bb227f820ac1290222e7461d0f06e97e75de3283cabb0f7", checked := Try.checked }
namespace Rows
def none {H : Type} : Left H := { results := [], args := [] }

/-- 'gaiterlaw02.FillPlays': WHATEVER THE INPUT: true; the input reads as it did. -/
def fillPlaysSpec : ChangeSpec := { name := "fillPlays", fn := fun _ => fun
  | [d1, d2] => { results := [.lit (.bool true)], args := [d1, d2] }
  | _ => none }
def fillPlaysRow : OpenClaim := { program := "ytcjbaolpkbkblaa", sum := "23403eac5f58eb3d6bb227f820ac1290222e7461d0f06e97e75de3283cabb0f7", func := "gaiter/gaiterlaw02.FillPlays", spec := "fillPlays", apart := false }
def FillPlaysSaid : Prop := fillPlaysRow.holds Try.pinned (OpenSpec.ofChange fillPlaysSpec)

/-- ITS FALSE NEIGHBOUR: 'it returns false'. Refute it at one input. -/
def fillPlaysWrong : ChangeSpec := { name := "fillPlays", fn := fun _ => fun
  | [d1, d2] => { results := [.lit (.bool false)], args := [d1, d2] }
  | _ => none }
def FillPlaysWrongFalsely : Prop := fillPlaysRow.holds Try.pinned (OpenSpec.ofChange fillPlaysWrong)

/-- 'gaiterlaw02.FillBits': WHATEVER THE INPUT: true; the input reads as it did. -/
def fillBitsSpec : ChangeSpec := { name := "fillBits", fn := fun _ => fun
  | [d1, d2] => { results := [.lit (.bool true)], args := [d1, d2] }
  | _ => none }
def fillBitsRow : OpenClaim := { program := "ytcjbaolpkbkblaa", sum := "23403eac5f58eb3d6bb227f820ac1290222e7461d0f06e97e75de3283cabb0f7", func := "gaiter/gaiterlaw02.FillBits", spec := "fillBits", apart := false }
def FillBitsSaid : Prop := fillBitsRow.holds Try.pinned (OpenSpec.ofChange fillBitsSpec)

/-- ITS FALSE NEIGHBOUR: 'it returns false'. Refute it at one input. -/
def fillBitsWrong : ChangeSpec := { name := "fillBits", fn := fun _ => fun
  | [d1, d2] => { results := [.lit (.bool false)], args := [d1, d2] }
  | _ => none }
def FillBitsWrongFalsely : Prop := fillBitsRow.holds Try.pinned (OpenSpec.ofChange fillBitsWrong)

/- THE SECOND FORM. 'bulk': how many values and letters a reading holds, each counted each time it is reached (what is shared counts as often as it is met; a slice's spare places count too). A statement '..UptoSaid' is the law's where the arguments, and the package variables that the reading takes, are together of bulk at most 1048576: NARROWER than '..Said'. Prove '..Said' where nothing that the law and all that it calls make is longer than what came in: it says more and counts as full. Else prove '..UptoSaid'. A law counts once. -/
mutual
def uptoBulk {H : Type} : DataW H → Nat
  | .lit (.string bytes) => bytes.length + 1
  | .lit _ => 1
  | .nil => 1
  | .ptr d => uptoBulk d + 1
  | .slice elems spare => uptoBulkAll elems + uptoBulkAll spare + 1
  | .agg parts => uptoBulkAll parts + 1
  | .iface _ d => uptoBulk d + 1
  | .map entries => uptoBulkEntries entries + 1
  | .held _ => 1
def uptoBulkAll {H : Type} : List (DataW H) → Nat
  | [] => 0
  | d :: r => uptoBulk d + uptoBulkAll r
def uptoBulkEntries {H : Type} : List (Lit × DataW H) → Nat
  | [] => 0
  | x :: r => uptoBulkEntry x + uptoBulkEntries r
def uptoBulkEntry {H : Type} : Lit × DataW H → Nat
  | (.string bytes, d) => bytes.length + uptoBulk d + 1
  | (_, d) => uptoBulk d + 1
 end
def uptoSmall : (H : Type) → List (DataW H) → Bool := fun _ ds => decide (uptoBulkAll ds ≤ 1048576)
def OpenSpec.upto (s : _root_.Go.ChangeSpec) : _root_.Go.OpenSpec := { _root_.Go.OpenSpec.ofChange s with cond := some uptoSmall }

/-- 'gaiterlaw02.FillPlays', WHERE WHAT IT READS IS OF BULK AT MOST 1048576: true; the input reads as it did. -/
def fillPlaysUptoRow : OpenClaim := { program := "ytcjbaolpkbkblaa", sum := "23403eac5f58eb3d6bb227f820ac1290222e7461d0f06e97e75de3283cabb0f7", func := "gaiter/gaiterlaw02.FillPlays", spec := "fillPlays", apart := false, narrowed := true }
def FillPlaysUptoSaid : Prop := fillPlaysUptoRow.holds Try.pinned (OpenSpec.upto fillPlaysSpec)

/-- 'gaiterlaw02.FillBits', WHERE WHAT IT READS IS OF BULK AT MOST 1048576: true; the input reads as it did. -/
def fillBitsUptoRow : OpenClaim := { program := "ytcjbaolpkbkblaa", sum := "23403eac5f58eb3d6bb227f820ac1290222e7461d0f06e97e75de3283cabb0f7", func := "gaiter/gaiterlaw02.FillBits", spec := "fillBits", apart := false, narrowed := true }
def FillBitsUptoSaid : Prop := fillBitsUptoRow.holds Try.pinned (OpenSpec.upto fillBitsSpec)

end Rows
end Go.Proofs.Ytcjbaolpkbkblaa
