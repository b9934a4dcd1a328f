/-
  NARROWER THAN 'FOR EVERY INPUT', by the rows' own cells (each row's printed sentence says how): TabTells: laid · TabSame: laid.
  DERIVED. THE GIVEN ROWS OF THIS SEAT. 2 by the template 'for every input the law returns true; each argument reads behind the call as it read before'; 0 by the template 'total and deterministic' (their statements: YtgjmdoaadiipmaaDoorTotals.lean).
  GIVEN WITH THE SEED: the statements are not yours to turn. If you find one false, say at which input.
  Laid BY PROGRAM, IN A SANDBOX (cutbox-rows.mjs): the forced cells as the released guide's own fill.sh prints them over the translation 5411604d944f3bf6… (all of the seat's roots in one cut). By AI agents, Wed Nov 11 2026. No macro, syntax, notation, axiom, sorry.
-/
import Derived.Test.YtgjmdoaadiipmaaDoorChecked
import GoSem.Claim
import GoSem.ClaimJoined
import GoSem.ClaimMapViews
import Derived.JoinedTies
import Derived.KernelRfl
namespace Go.Proofs.YtgjmdoaadiipmaaDoor
/- THE CELL 'sum', in the pinned program and in every row, IS THE sha256 OF THE DUMP (.gsa) THAT YtgjmdoaadiipmaaDoorProg.lean LOADS. Nothing in Lean hashes anything: it is a label: what it is worth is what the hold of that sum in a sandbox is worth. -/
noncomputable def Tryd.pinned : Pinned := { name := "ytgjmdoaadiipmaadoor", sum := "5411604d944f3bf64a62dc8c5a98b3df6ac9f890e4933a873eecb3dbab34a08d", checked := Tryd.checked }
namespace Rows
def none {H : Type} : Left H := { results := [], args := [] }

/- WHAT THE LISTED PACKAGE-LEVEL VARIABLES READ AS WHEN THE CALL BEGINS. Each datum BY PROGRAM (the guide's laid-datum.mjs) off the statement by which the dump's own 'gosem.cut.vars' lays the variable. In a bare row this is a premise. The card (YtgjmdoaadiipmaaDoorCards.lean) ties it to the program's text. -/
def laid_gaiter_dod_room {H : Type} : DataW H := .agg [.lit (.int .i64 0), .lit (.int .i64 7), .lit (.int .i64 9), .lit (.int .i64 12), .lit (.int .i64 64)]
def laid_gaiter_tab_rows {H : Type} : DataW H := .agg [.agg [.lit (.int .i64 1), .lit (.int .i64 0)], .agg [.lit (.int .i64 2), .lit (.int .i64 7)], .agg [.lit (.int .i64 3), .lit (.int .i64 9)], .agg [.lit (.int .i64 4), .lit (.int .i64 12)], .agg [.lit (.int .i64 4), .lit (.int .i64 64)]]

/-- 'gaiterlaw06.TabTells': WHATEVER THE INPUT: true; the input reads as it did. -/
def tabTellsSpec : ChangeSpec := { name := "tabTells", fn := fun _ => fun
  | [d1, d2, d3] => { results := [.lit (.bool true)], args := [d1, d2, d3] }
  | _ => none }
def tabTellsRow : OpenClaim := { program := "ytgjmdoaadiipmaadoor", sum := "5411604d944f3bf64a62dc8c5a98b3df6ac9f890e4933a873eecb3dbab34a08d", func := "gaiter/gaiterlaw06.TabTells", spec := "tabTells", named := ["gaiter/tab.rows", "gaiter/dod.room"], apart := false, laid := [("gaiter/dod.room", laid_gaiter_dod_room), ("gaiter/tab.rows", laid_gaiter_tab_rows)] }
def TabTellsSaid : Prop := tabTellsRow.holds Tryd.pinned (OpenSpec.ofChange tabTellsSpec)

/-- ITS FALSE NEIGHBOUR: 'it returns false'. Refute it at one input. -/
def tabTellsWrong : ChangeSpec := { name := "tabTells", fn := fun _ => fun
  | [d1, d2, d3] => { results := [.lit (.bool false)], args := [d1, d2, d3] }
  | _ => none }
def TabTellsWrongFalsely : Prop := tabTellsRow.holds Tryd.pinned (OpenSpec.ofChange tabTellsWrong)

/-- 'gaiterlaw06.TabSame': WHATEVER THE INPUT: true; the input reads as it did. -/
def tabSameSpec : ChangeSpec := { name := "tabSame", fn := fun _ => fun
  | [d] => { results := [.lit (.bool true)], args := [d] }
  | _ => none }
def tabSameRow : OpenClaim := { program := "ytgjmdoaadiipmaadoor", sum := "5411604d944f3bf64a62dc8c5a98b3df6ac9f890e4933a873eecb3dbab34a08d", func := "gaiter/gaiterlaw06.TabSame", spec := "tabSame", named := ["gaiter/tab.rows", "gaiter/dod.room"], apart := false, laid := [("gaiter/dod.room", laid_gaiter_dod_room), ("gaiter/tab.rows", laid_gaiter_tab_rows)] }
def TabSameSaid : Prop := tabSameRow.holds Tryd.pinned (OpenSpec.ofChange tabSameSpec)

/-- ITS FALSE NEIGHBOUR: 'it returns false'. Refute it at one input. -/
def tabSameWrong : ChangeSpec := { name := "tabSame", fn := fun _ => fun
  | [d] => { results := [.lit (.bool false)], args := [d] }
  | _ => none }
def TabSameWrongFalsely : Prop := tabSameRow.holds Tryd.pinned (OpenSpec.ofChange tabSameWrong)

/- THE SECOND FORM. 'bulk': how many values and letters a reading holds, each counted each time it is reached (what is shared counts as often as it is met; a slice's spare places count too). A statement '..UptoSaid' is the law's where the arguments, and the package variables that the reading takes, are together of bulk at most 1048576: NARROWER than '..Said'. Prove '..Said' where nothing that the law and all that it calls make is longer than what came in: it says more and counts as full. Else prove '..UptoSaid'. A law counts once. -/
mutual
def uptoBulk {H : Type} : DataW H → Nat
  | .lit (.string bytes) => bytes.length + 1
  | .lit _ => 1
  | .nil => 1
  | .ptr d => uptoBulk d + 1
  | .slice elems spare => uptoBulkAll elems + uptoBulkAll spare + 1
  | .agg parts => uptoBulkAll parts + 1
  | .iface _ d => uptoBulk d + 1
  | .map entries => uptoBulkEntries entries + 1
  | .held _ => 1
def uptoBulkAll {H : Type} : List (DataW H) → Nat
  | [] => 0
  | d :: r => uptoBulk d + uptoBulkAll r
def uptoBulkEntries {H : Type} : List (Lit × DataW H) → Nat
  | [] => 0
  | x :: r => uptoBulkEntry x + uptoBulkEntries r
def uptoBulkEntry {H : Type} : Lit × DataW H → Nat
  | (.string bytes, d) => bytes.length + uptoBulk d + 1
  | (_, d) => uptoBulk d + 1
 end
def uptoSmall : (H : Type) → List (DataW H) → Bool := fun _ ds => decide (uptoBulkAll ds ≤ 1048576)
def OpenSpec.upto (s : _root_.Go.ChangeSpec) : _root_.Go.OpenSpec := { _root_.Go.OpenSpec.ofChange s with cond := some uptoSmall }

/-- 'gaiterlaw06.TabTells', WHERE WHAT IT READS IS OF BULK AT MOST 1048576: true; the input reads as it did. -/
def tabTellsUptoRow : OpenClaim := { program := "ytgjmdoaadiipmaadoor", sum := "5411604d944f3bf64a62dc8c5a98b3df6ac9f890e4933a873eecb3dbab34a08d", func := "gaiter/gaiterlaw06.TabTells", spec := "tabTells", named := ["gaiter/tab.rows", "gaiter/dod.room"], apart := false, laid := [("gaiter/dod.room", laid_gaiter_dod_room), ("gaiter/tab.rows", laid_gaiter_tab_rows)], narrowed := true }
def TabTellsUptoSaid : Prop := tabTellsUptoRow.holds Tryd.pinned (OpenSpec.upto tabTellsSpec)

/-- 'gaiterlaw06.TabSame', WHERE WHAT IT READS IS OF BULK AT MOST 1048576: true; the input reads as it did. -/
def tabSameUptoRow : OpenClaim := { program := "ytgjmdoaadiipmaadoor", sum := "5411604d944f3bf64a62dc8c5a98b3df6ac9f890e4933a873eecb3dbab34a08d", func := "gaiter/gaiterlaw06.TabSame", spec := "tabSame", named := ["gaiter/tab.rows", "gaiter/dod.room"], apart := false, laid := [("gaiter/dod.room", laid_gaiter_dod_room), ("gaiter/tab.rows", laid_gaiter_tab_rows)], narrowed := true }
def TabSameUptoSaid : Prop := tabSameUptoRow.holds Tryd.pinned (OpenSpec.upto tabSameSpec)

end Rows
end Go.Proofs.YtgjmdoaadiipmaaDoor
