/-
  Two states, held against each other.
-/
import Derived.Test.YtnjohmgacmcdnaaDoorWords
import Derived.Laws.StructEq
namespace Go.Proofs.YtnjohmgacmcdnaaDoor
open Go.RowKit

theorem state_fields : Tryd.prog.underlying 44 = some (.struct (Tryd.prog.fieldsOf 44)) := by kernel_rfl
theorem state_held : Tryd.prog.stoodInHeld 44 = false := by kernel_rfl
theorem refx_fields : Tryd.prog.underlying 53 = some (.struct (Tryd.prog.fieldsOf 53)) := by kernel_rfl
theorem refx_held : Tryd.prog.stoodInHeld 53 = false := by kernel_rfl
theorem state_guard : Tryd.prog.eqGuardType Tryd.prog.depth 44 = false := by kernel_rfl
theorem refx_guard : Tryd.prog.eqGuardType Tryd.prog.depth 53 = false := by kernel_rfl
theorem run_eql_state (w : World) (a b c : Int) : (binOp .eql 44 (.agg #[.int .u64 a, .int .i64 b, .int .i64 c]) (.agg #[.int .u64 a, .int .i64 b, .int .i64 c])).run Tryd.prog w = .ok (.bool true) w := by
  rw [run_eql_struct, run_equalIn_agg _ _ _ _ _ state_fields state_held]
  simp [Op.eqFields, go_sem]
theorem run_neq_state (w : World) (a b c : Int) : (binOp .neq 44 (.agg #[.int .u64 a, .int .i64 b, .int .i64 c]) (.agg #[.int .u64 a, .int .i64 b, .int .i64 c])).run Tryd.prog w = .ok (.bool false) w := by
  rw [run_neq_struct, run_equalIn_agg _ _ _ _ _ state_fields state_held]
  simp [Op.eqFields, go_sem]
theorem run_eql_refx (w : World) (a b c : Int) : (binOp .eql 53 (.agg #[.int .u64 a, .int .i64 b, .int .i64 c]) (.agg #[.int .u64 a, .int .i64 b, .int .i64 c])).run Tryd.prog w = .ok (.bool true) w := by
  rw [run_eql_struct, run_equalIn_agg _ _ _ _ _ refx_fields refx_held]
  simp [Op.eqFields, go_sem]

end Go.Proofs.YtnjohmgacmcdnaaDoor
