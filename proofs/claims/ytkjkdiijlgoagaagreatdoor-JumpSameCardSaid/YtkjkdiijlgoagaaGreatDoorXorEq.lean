/-
  Two states, held against each other.
-/
import Derived.Test.YtkjkdiijlgoagaaGreatDoorWords
import Derived.Laws.StructEq
namespace Go.Proofs.YtkjkdiijlgoagaaGreatDoor
open Go.RowKit

theorem state_fields : Tryz.prog.underlying 131 = some (.struct (Tryz.prog.fieldsOf 131)) := by kernel_rfl
theorem state_held : Tryz.prog.stoodInHeld 131 = false := by kernel_rfl
theorem refx_fields : Tryz.prog.underlying 123 = some (.struct (Tryz.prog.fieldsOf 123)) := by kernel_rfl
theorem refx_held : Tryz.prog.stoodInHeld 123 = false := by kernel_rfl
theorem state_guard : Tryz.prog.eqGuardType Tryz.prog.depth 131 = false := by kernel_rfl
theorem refx_guard : Tryz.prog.eqGuardType Tryz.prog.depth 123 = false := by kernel_rfl
theorem run_eql_state (w : World) (a b c : Int) : (binOp .eql 131 (.agg #[.int .u64 a, .int .i64 b, .int .i64 c]) (.agg #[.int .u64 a, .int .i64 b, .int .i64 c])).run Tryz.prog w = .ok (.bool true) w := by
  rw [run_eql_struct, run_equalIn_agg _ _ _ _ _ state_fields state_held]
  simp [Op.eqFields, go_sem]
theorem run_neq_state (w : World) (a b c : Int) : (binOp .neq 131 (.agg #[.int .u64 a, .int .i64 b, .int .i64 c]) (.agg #[.int .u64 a, .int .i64 b, .int .i64 c])).run Tryz.prog w = .ok (.bool false) w := by
  rw [run_neq_struct, run_equalIn_agg _ _ _ _ _ state_fields state_held]
  simp [Op.eqFields, go_sem]
theorem run_eql_refx (w : World) (a b c : Int) : (binOp .eql 123 (.agg #[.int .u64 a, .int .i64 b, .int .i64 c]) (.agg #[.int .u64 a, .int .i64 b, .int .i64 c])).run Tryz.prog w = .ok (.bool true) w := by
  rw [run_eql_struct, run_equalIn_agg _ _ _ _ _ refx_fields refx_held]
  simp [Op.eqFields, go_sem]

end Go.Proofs.YtkjkdiijlgoagaaGreatDoor
