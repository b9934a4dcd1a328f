/-
  A number of 64 bits, wrapped, is itself.
-/
import Derived.Test.YtkndoalnlldolaaDoorWords
namespace Go.Proofs.YtkndoalnlldolaaDoor
open Go.RowKit

theorem wrap_le (n : Nat) (h : n ≤ 18446744073709551615) : IntKind.u64.wrap (n : Int) = n := by
  have e : IntKind.u64.wrap (n : Int) = (n : Int) % 18446744073709551616 := by simp [IntKind.wrap, IntKind.bits, IntKind.signed]
  rw [e]
  omega

end Go.Proofs.YtkndoalnlldolaaDoor
