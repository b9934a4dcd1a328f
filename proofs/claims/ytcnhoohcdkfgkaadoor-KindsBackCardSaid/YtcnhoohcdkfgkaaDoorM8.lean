/-
  Texts of this proof, one behind the other: XorEq, KinEq.
-/
import Derived.Test.YtcnhoohcdkfgkaaDoorM2
import Derived.Test.YtcnhoohcdkfgkaaDoorM1
import Derived.Laws.StructEq

/-
  Two states, held against each other.
-/
namespace Go.Proofs.YtcnhoohcdkfgkaaDoor
open Go.RowKit

theorem state_fields : Tryd.prog.underlying 27 = some (.struct (Tryd.prog.fieldsOf 27)) := by kernel_rfl
theorem state_held : Tryd.prog.stoodInHeld 27 = false := by kernel_rfl
theorem refx_fields : Tryd.prog.underlying 30 = some (.struct (Tryd.prog.fieldsOf 30)) := by kernel_rfl
theorem refx_held : Tryd.prog.stoodInHeld 30 = false := by kernel_rfl
theorem state_guard : Tryd.prog.eqGuardType Tryd.prog.depth 27 = false := by kernel_rfl
theorem refx_guard : Tryd.prog.eqGuardType Tryd.prog.depth 30 = false := by kernel_rfl
theorem run_eql_state (w : World) (a b c : Int) : (binOp .eql 27 (.agg #[.int .u64 a, .int .i64 b, .int .i64 c]) (.agg #[.int .u64 a, .int .i64 b, .int .i64 c])).run Tryd.prog w = .ok (.bool true) w := by
  rw [run_eql_struct, run_equalIn_agg _ _ _ _ _ state_fields state_held]
  simp [Op.eqFields, go_sem]
theorem run_neq_state (w : World) (a b c : Int) : (binOp .neq 27 (.agg #[.int .u64 a, .int .i64 b, .int .i64 c]) (.agg #[.int .u64 a, .int .i64 b, .int .i64 c])).run Tryd.prog w = .ok (.bool false) w := by
  rw [run_neq_struct, run_equalIn_agg _ _ _ _ _ state_fields state_held]
  simp [Op.eqFields, go_sem]
theorem run_eql_refx (w : World) (a b c : Int) : (binOp .eql 30 (.agg #[.int .u64 a, .int .i64 b, .int .i64 c]) (.agg #[.int .u64 a, .int .i64 b, .int .i64 c])).run Tryd.prog w = .ok (.bool true) w := by
  rw [run_eql_struct, run_equalIn_agg _ _ _ _ _ refx_fields refx_held]
  simp [Op.eqFields, go_sem]

end Go.Proofs.YtcnhoohcdkfgkaaDoor

/-
  States of layer 8, and samples, held against themselves.
-/
namespace Go.Proofs.YtcnhoohcdkfgkaaDoor
open Go.RowKit

theorem kst_fields : Tryd.prog.underlying 29 = some (.struct (Tryd.prog.fieldsOf 29)) := by kernel_rfl
theorem kst_held : Tryd.prog.stoodInHeld 29 = false := by kernel_rfl
theorem kst_guard : Tryd.prog.eqGuardType Tryd.prog.depth 29 = false := by kernel_rfl
theorem rst_fields : Tryd.prog.underlying 32 = some (.struct (Tryd.prog.fieldsOf 32)) := by kernel_rfl
theorem rst_held : Tryd.prog.stoodInHeld 32 = false := by kernel_rfl
theorem rst_guard : Tryd.prog.eqGuardType Tryd.prog.depth 32 = false := by kernel_rfl
theorem smp_fields : Tryd.prog.underlying 40 = some (.struct (Tryd.prog.fieldsOf 40)) := by kernel_rfl
theorem smp_held : Tryd.prog.stoodInHeld 40 = false := by kernel_rfl
theorem smp_guard : Tryd.prog.eqGuardType Tryd.prog.depth 40 = false := by kernel_rfl

theorem run_neq_kst (w : World) (s : KS) : (binOp .neq 29 (.agg #[.int .i64 (s.n : Int), .int .i64 s.t, .int .i64 s.d, .int .u64 (s.v : Int), .int .u64 (s.e : Int), .int .u64 (s.x.prev : Int), .int .i64 (s.x.lead : Int), .int .i64 (s.x.len : Int)]) (.agg #[.int .i64 (s.n : Int), .int .i64 s.t, .int .i64 s.d, .int .u64 (s.v : Int), .int .u64 (s.e : Int), .int .u64 (s.x.prev : Int), .int .i64 (s.x.lead : Int), .int .i64 (s.x.len : Int)])).run Tryd.prog w = .ok (.bool false) w := by
  rw [run_neq_struct, run_equalIn_agg _ _ _ _ _ kst_fields kst_held]
  simp [Op.eqFields, go_sem]
theorem run_neq_rst (w : World) (s : KS) : (binOp .neq 32 (.agg #[.int .i64 (s.n : Int), .int .i64 s.t, .int .i64 s.d, .int .u64 (s.v : Int), .int .u64 (s.e : Int), .int .u64 (s.x.prev : Int), .int .i64 (s.x.lead : Int), .int .i64 (s.x.len : Int)]) (.agg #[.int .i64 (s.n : Int), .int .i64 s.t, .int .i64 s.d, .int .u64 (s.v : Int), .int .u64 (s.e : Int), .int .u64 (s.x.prev : Int), .int .i64 (s.x.lead : Int), .int .i64 (s.x.len : Int)])).run Tryd.prog w = .ok (.bool false) w := by
  rw [run_neq_struct, run_equalIn_agg _ _ _ _ _ rst_fields rst_held]
  simp [Op.eqFields, go_sem]
theorem run_neq_smp (w : World) (t v : Int) : (binOp .neq 40 (.agg #[.int .i64 t, .int .u64 v]) (.agg #[.int .i64 t, .int .u64 v])).run Tryd.prog w = .ok (.bool false) w := by
  rw [run_neq_struct, run_equalIn_agg _ _ _ _ _ smp_fields smp_held]
  simp [Op.eqFields, go_sem]

end Go.Proofs.YtcnhoohcdkfgkaaDoor
