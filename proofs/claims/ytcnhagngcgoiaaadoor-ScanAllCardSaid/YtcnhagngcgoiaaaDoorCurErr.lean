/-
  A cursor's error as a value: stores of it, what Code tells of it.
-/
import Derived.Test.YtcnhagngcgoiaaaDoorCur1
import Derived.Test.YtcnhagngcgoiaaaDoorCode
namespace Go.Proofs.YtcnhagngcgoiaaaDoor
open Go.RowKit

theorem isErr_v (k : Nat) : IsErr (errV k) := by
  unfold errV
  split
  · exact .inl rfl
  · exact .inr ⟨_, rfl⟩

section
variable {w w' : World} {g : Nat} {A : Option Addr} {n c : Nat} {er : Value}
/-- a box of a cursor, new, and written anew -/
theorem store_err (he : IsErr er) (m : Mode) (a : Addr) (W : World) : (store a er m).run Tryd.prog W = stored Tryd.prog W a er m := run_store _ W a er m (by rcases he with rfl | ⟨k, rfl⟩ <;> rfl)
theorem curbox_new (_he : IsErr er) (A : Option Addr) (n c : Nat) (a : Int) (d : Bool) (w : World) : BoxL (w.alloc (.cells #[.slice A n c, er, .int .i64 a, .bool d] 55)) w.heap.size [.slice A n c, er, .int .i64 a, .bool d] := BoxL.new_at0 _ _ rfl
theorem code_ev {no : Nat} (h9 : no ≤ 9) (d : Bool) (w : World) : Calls Tryd.prog 11 #[bif d then errV no else .nilIface] w fun e w' => e = .returned (.int .i64 (bif d then (no : Int) else 0)) ∧ w = w' := by
  cases d
  · exact code_nil w
  · exact code_any no w h9
end

end Go.Proofs.YtcnhagngcgoiaaaDoor
