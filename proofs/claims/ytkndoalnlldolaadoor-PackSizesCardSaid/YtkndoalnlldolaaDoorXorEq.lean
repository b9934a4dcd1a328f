/-
  Two states, held against each other.
-/
import Derived.Test.YtkndoalnlldolaaDoorWords
import Derived.Laws.StructEq
namespace Go.Proofs.YtkndoalnlldolaaDoor
open Go.RowKit

theorem state_fields : Tryd.prog.underlying 71 = some (.struct (Tryd.prog.fieldsOf 71)) := by kernel_rfl
theorem state_held : Tryd.prog.stoodInHeld 71 = false := by kernel_rfl
theorem refx_fields : Tryd.prog.underlying 63 = some (.struct (Tryd.prog.fieldsOf 63)) := by kernel_rfl
theorem refx_held : Tryd.prog.stoodInHeld 63 = false := by kernel_rfl
theorem state_guard : Tryd.prog.eqGuardType Tryd.prog.depth 71 = false := by kernel_rfl
theorem refx_guard : Tryd.prog.eqGuardType Tryd.prog.depth 63 = false := by kernel_rfl
theorem run_eql_state (w : World) (a b c : Int) : (binOp .eql 71 (.agg #[.int .u64 a, .int .i64 b, .int .i64 c]) (.agg #[.int .u64 a, .int .i64 b, .int .i64 c])).run Tryd.prog w = .ok (.bool true) w := by
  rw [run_eql_struct, run_equalIn_agg _ _ _ _ _ state_fields state_held]
  simp [Op.eqFields, go_sem]
theorem run_neq_state (w : World) (a b c : Int) : (binOp .neq 71 (.agg #[.int .u64 a, .int .i64 b, .int .i64 c]) (.agg #[.int .u64 a, .int .i64 b, .int .i64 c])).run Tryd.prog w = .ok (.bool false) w := by
  rw [run_neq_struct, run_equalIn_agg _ _ _ _ _ state_fields state_held]
  simp [Op.eqFields, go_sem]
theorem run_eql_refx (w : World) (a b c : Int) : (binOp .eql 63 (.agg #[.int .u64 a, .int .i64 b, .int .i64 c]) (.agg #[.int .u64 a, .int .i64 b, .int .i64 c])).run Tryd.prog w = .ok (.bool true) w := by
  rw [run_eql_struct, run_equalIn_agg _ _ _ _ _ refx_fields refx_held]
  simp [Op.eqFields, go_sem]

end Go.Proofs.YtkndoalnlldolaaDoor
