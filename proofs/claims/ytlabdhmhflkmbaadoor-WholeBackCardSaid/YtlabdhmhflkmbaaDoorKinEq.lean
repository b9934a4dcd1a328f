/-
  States of layer 8, and samples, held against themselves.
-/
import Derived.Test.YtlabdhmhflkmbaaDoorXorEq
import Derived.Test.YtlabdhmhflkmbaaDoorPlain
namespace Go.Proofs.YtlabdhmhflkmbaaDoor
open Go.RowKit

theorem kst_fields : Tryd.prog.underlying 75 = some (.struct (Tryd.prog.fieldsOf 75)) := by kernel_rfl
theorem kst_held : Tryd.prog.stoodInHeld 75 = false := by kernel_rfl
theorem kst_guard : Tryd.prog.eqGuardType Tryd.prog.depth 75 = false := by kernel_rfl
theorem rst_fields : Tryd.prog.underlying 82 = some (.struct (Tryd.prog.fieldsOf 82)) := by kernel_rfl
theorem rst_held : Tryd.prog.stoodInHeld 82 = false := by kernel_rfl
theorem rst_guard : Tryd.prog.eqGuardType Tryd.prog.depth 82 = false := by kernel_rfl
theorem smp_fields : Tryd.prog.underlying 56 = some (.struct (Tryd.prog.fieldsOf 56)) := by kernel_rfl
theorem smp_held : Tryd.prog.stoodInHeld 56 = false := by kernel_rfl
theorem smp_guard : Tryd.prog.eqGuardType Tryd.prog.depth 56 = false := by kernel_rfl

theorem run_neq_kst (w : World) (s : KS) : (binOp .neq 75 (.agg #[.int .i64 (s.n : Int), .int .i64 s.t, .int .i64 s.d, .int .u64 (s.v : Int), .int .u64 (s.e : Int), .int .u64 (s.x.prev : Int), .int .i64 (s.x.lead : Int), .int .i64 (s.x.len : Int)]) (.agg #[.int .i64 (s.n : Int), .int .i64 s.t, .int .i64 s.d, .int .u64 (s.v : Int), .int .u64 (s.e : Int), .int .u64 (s.x.prev : Int), .int .i64 (s.x.lead : Int), .int .i64 (s.x.len : Int)])).run Tryd.prog w = .ok (.bool false) w := by
  rw [run_neq_struct, run_equalIn_agg _ _ _ _ _ kst_fields kst_held]
  simp [Op.eqFields, go_sem]
theorem run_neq_rst (w : World) (s : KS) : (binOp .neq 82 (.agg #[.int .i64 (s.n : Int), .int .i64 s.t, .int .i64 s.d, .int .u64 (s.v : Int), .int .u64 (s.e : Int), .int .u64 (s.x.prev : Int), .int .i64 (s.x.lead : Int), .int .i64 (s.x.len : Int)]) (.agg #[.int .i64 (s.n : Int), .int .i64 s.t, .int .i64 s.d, .int .u64 (s.v : Int), .int .u64 (s.e : Int), .int .u64 (s.x.prev : Int), .int .i64 (s.x.lead : Int), .int .i64 (s.x.len : Int)])).run Tryd.prog w = .ok (.bool false) w := by
  rw [run_neq_struct, run_equalIn_agg _ _ _ _ _ rst_fields rst_held]
  simp [Op.eqFields, go_sem]
theorem run_neq_smp (w : World) (t v : Int) : (binOp .neq 56 (.agg #[.int .i64 t, .int .u64 v]) (.agg #[.int .i64 t, .int .u64 v])).run Tryd.prog w = .ok (.bool false) w := by
  rw [run_neq_struct, run_equalIn_agg _ _ _ _ _ smp_fields smp_held]
  simp [Op.eqFields, go_sem]

end Go.Proofs.YtlabdhmhflkmbaaDoor
