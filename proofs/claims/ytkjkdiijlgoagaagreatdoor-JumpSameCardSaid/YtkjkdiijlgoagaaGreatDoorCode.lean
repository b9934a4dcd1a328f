/-
  The contract of the laws' own Code: the number of an error that is one of api's, 0 of none; it changes nothing.
-/
import Derived.Test.YtkjkdiijlgoagaaGreatDoorWords
import Derived.Lib.IfaceEq
namespace Go.Proofs.YtkjkdiijlgoagaaGreatDoor
open Go.RowKit

/-- an error's value, by its number: none at 0 -/
def errV (k : Nat) : Value := if k = 0 then .nilIface else .iface 71 (.int .i64 (k : Int))

theorem Tryz.cmpCode : (Tryz.prog.info? 71).map (·.comparable) = some true := by kernel_rfl
theorem run_eql_code (w : World) (a b : Int) : (binOp .eql 41 (.iface 71 (.int .i64 a)) (.iface 71 (.int .i64 b))).run Tryz.prog w = .ok (.bool (a == b)) w :=
  Lib.run_eql_iface_int w a b Tryz.underlying41 Tryz.cmpCode Tryz.underlying71

set_option maxRecDepth 20000 in
set_option maxHeartbeats 400000 in
theorem code_nil (w : World) : Calls Tryz.prog 12 #[.nilIface] w fun e w' => e = .returned (.int .i64 0) ∧ w = w' := by
  go_enter Tryz.func12, Tryz.ntmps12
  go_wp2
  go_ret
  exact ⟨rfl, rfl⟩

set_option maxRecDepth 20000 in
set_option maxHeartbeats 400000 in
theorem code_some (k : Nat) (w : World) (h1 : 1 ≤ k) (h9 : k ≤ 9) : Calls Tryz.prog 12 #[.iface 71 (.int .i64 (k : Int))] w fun e w' => e = .returned (.int .i64 (k : Int)) ∧ w = w' := by
  have hq := run_eql_code
  go_enter Tryz.func12, Tryz.ntmps12
  go_wp2
  go_loop [3] (fun c => ∃ j : Nat, 1 ≤ j ∧ j ≤ k ∧ c = .int .i64 (j : Int)) (fun c => k - (intOf c).toNat)
  case atStart => exact ⟨1, by omega, by omega, rfl⟩
  case round =>
    obtain ⟨j, hj1, hjk, rfl⟩ := hrel
    by_cases hlt : j < k
    · have hne : ((k : Int) == (j : Int)) = false := by simp; omega
      go_wp2
      go_round
      case rel => exact ⟨j + 1, by omega, by omega, by go_num⟩
      case measure => simp [intOf]; omega
    · obtain rfl : k = j := by omega
      go_wp2
      go_ret
      exact ⟨rfl, rfl⟩

theorem code_any (k : Nat) (w : World) (h9 : k ≤ 9) : Calls Tryz.prog 12 #[errV k] w fun e w' => e = .returned (.int .i64 (k : Int)) ∧ w = w' := by
  unfold errV
  split
  · rename_i h
    subst h
    exact code_nil w
  · exact code_some k w (by omega) h9

end Go.Proofs.YtkjkdiijlgoagaaGreatDoor
