/-
  The contract of the laws' own Xor.
-/
import Derived.Test.YtchkpbhbdbafdaaDoorWords
import Derived.Handy
namespace Go.Proofs.YtchkpbhbdbafdaaDoor
open Go.RowKit

theorem law_two_below (w : World) (a b : Obj) : Below w.heap.size w ((w.alloc a).alloc b) := ((Below.refl _ _).alloc (Nat.le_refl _) _).alloc (by simp) _
theorem lawxor_any (p a n : Int) (w : World) :
    Calls Tryd.prog 21 #[.agg #[.int .u64 p, .int .i64 a, .int .i64 n]] w fun e w' => e = .returned (.agg #[.int .u64 p, .int .i64 a, .int .i64 n]) ∧ Below w.heap.size w w' := by
  go_enter Tryd.func21, Tryd.ntmps21
  go_wp2
  go_returns
  exact ⟨rfl, law_two_below _ _ _⟩


end Go.Proofs.YtchkpbhbdbafdaaDoor
