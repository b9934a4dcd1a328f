/-
  Two states, held against each other.
-/
import Derived.Test.YthgbkchdonpfoaaDoorWords
import Derived.Laws.StructEq
namespace Go.Proofs.YthgbkchdonpfoaaDoor
open Go.RowKit

theorem state_fields : Tryd.prog.underlying 43 = some (.struct (Tryd.prog.fieldsOf 43)) := by kernel_rfl
theorem state_held : Tryd.prog.stoodInHeld 43 = false := by kernel_rfl
theorem refx_fields : Tryd.prog.underlying 50 = some (.struct (Tryd.prog.fieldsOf 50)) := by kernel_rfl
theorem refx_held : Tryd.prog.stoodInHeld 50 = false := by kernel_rfl
theorem state_guard : Tryd.prog.eqGuardType Tryd.prog.depth 43 = false := by kernel_rfl
theorem refx_guard : Tryd.prog.eqGuardType Tryd.prog.depth 50 = false := by kernel_rfl
theorem run_eql_state (w : World) (a b c : Int) : (binOp .eql 43 (.agg #[.int .u64 a, .int .i64 b, .int .i64 c]) (.agg #[.int .u64 a, .int .i64 b, .int .i64 c])).run Tryd.prog w = .ok (.bool true) w := by
  rw [run_eql_struct, run_equalIn_agg _ _ _ _ _ state_fields state_held]
  simp [Op.eqFields, go_sem]
theorem run_neq_state (w : World) (a b c : Int) : (binOp .neq 43 (.agg #[.int .u64 a, .int .i64 b, .int .i64 c]) (.agg #[.int .u64 a, .int .i64 b, .int .i64 c])).run Tryd.prog w = .ok (.bool false) w := by
  rw [run_neq_struct, run_equalIn_agg _ _ _ _ _ state_fields state_held]
  simp [Op.eqFields, go_sem]
theorem run_eql_refx (w : World) (a b c : Int) : (binOp .eql 50 (.agg #[.int .u64 a, .int .i64 b, .int .i64 c]) (.agg #[.int .u64 a, .int .i64 b, .int .i64 c])).run Tryd.prog w = .ok (.bool true) w := by
  rw [run_eql_struct, run_equalIn_agg _ _ _ _ _ refx_fields refx_held]
  simp [Op.eqFields, go_sem]

end Go.Proofs.YthgbkchdonpfoaaDoor
