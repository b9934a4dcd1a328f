/-
  States of layer 8, and samples, held against themselves.
-/
import Derived.Test.YtkndoalnlldolaaDoorXorEq
import Derived.Test.YtkndoalnlldolaaDoorPlain
namespace Go.Proofs.YtkndoalnlldolaaDoor
open Go.RowKit

theorem kst_fields : Tryd.prog.underlying 73 = some (.struct (Tryd.prog.fieldsOf 73)) := by kernel_rfl
theorem kst_held : Tryd.prog.stoodInHeld 73 = false := by kernel_rfl
theorem kst_guard : Tryd.prog.eqGuardType Tryd.prog.depth 73 = false := by kernel_rfl
theorem rst_fields : Tryd.prog.underlying 65 = some (.struct (Tryd.prog.fieldsOf 65)) := by kernel_rfl
theorem rst_held : Tryd.prog.stoodInHeld 65 = false := by kernel_rfl
theorem rst_guard : Tryd.prog.eqGuardType Tryd.prog.depth 65 = false := by kernel_rfl
theorem smp_fields : Tryd.prog.underlying 44 = some (.struct (Tryd.prog.fieldsOf 44)) := by kernel_rfl
theorem smp_held : Tryd.prog.stoodInHeld 44 = false := by kernel_rfl
theorem smp_guard : Tryd.prog.eqGuardType Tryd.prog.depth 44 = false := by kernel_rfl

theorem run_neq_kst (w : World) (s : KS) : (binOp .neq 73 (.agg #[.int .i64 (s.n : Int), .int .i64 s.t, .int .i64 s.d, .int .u64 (s.v : Int), .int .u64 (s.e : Int), .int .u64 (s.x.prev : Int), .int .i64 (s.x.lead : Int), .int .i64 (s.x.len : Int)]) (.agg #[.int .i64 (s.n : Int), .int .i64 s.t, .int .i64 s.d, .int .u64 (s.v : Int), .int .u64 (s.e : Int), .int .u64 (s.x.prev : Int), .int .i64 (s.x.lead : Int), .int .i64 (s.x.len : Int)])).run Tryd.prog w = .ok (.bool false) w := by
  rw [run_neq_struct, run_equalIn_agg _ _ _ _ _ kst_fields kst_held]
  simp [Op.eqFields, go_sem]
theorem run_neq_rst (w : World) (s : KS) : (binOp .neq 65 (.agg #[.int .i64 (s.n : Int), .int .i64 s.t, .int .i64 s.d, .int .u64 (s.v : Int), .int .u64 (s.e : Int), .int .u64 (s.x.prev : Int), .int .i64 (s.x.lead : Int), .int .i64 (s.x.len : Int)]) (.agg #[.int .i64 (s.n : Int), .int .i64 s.t, .int .i64 s.d, .int .u64 (s.v : Int), .int .u64 (s.e : Int), .int .u64 (s.x.prev : Int), .int .i64 (s.x.lead : Int), .int .i64 (s.x.len : Int)])).run Tryd.prog w = .ok (.bool false) w := by
  rw [run_neq_struct, run_equalIn_agg _ _ _ _ _ rst_fields rst_held]
  simp [Op.eqFields, go_sem]
theorem run_neq_smp (w : World) (t v : Int) : (binOp .neq 44 (.agg #[.int .i64 t, .int .u64 v]) (.agg #[.int .i64 t, .int .u64 v])).run Tryd.prog w = .ok (.bool false) w := by
  rw [run_neq_struct, run_equalIn_agg _ _ _ _ _ smp_fields smp_held]
  simp [Op.eqFields, go_sem]

end Go.Proofs.YtkndoalnlldolaaDoor
