/-
  States of layer 8, and samples, held against themselves.
-/
import Derived.Test.YtnjohmgacmcdnaaDoorXorEq
import Derived.Test.YtnjohmgacmcdnaaDoorPlain
namespace Go.Proofs.YtnjohmgacmcdnaaDoor
open Go.RowKit

theorem kst_fields : Tryd.prog.underlying 46 = some (.struct (Tryd.prog.fieldsOf 46)) := by kernel_rfl
theorem kst_held : Tryd.prog.stoodInHeld 46 = false := by kernel_rfl
theorem kst_guard : Tryd.prog.eqGuardType Tryd.prog.depth 46 = false := by kernel_rfl
theorem rst_fields : Tryd.prog.underlying 55 = some (.struct (Tryd.prog.fieldsOf 55)) := by kernel_rfl
theorem rst_held : Tryd.prog.stoodInHeld 55 = false := by kernel_rfl
theorem rst_guard : Tryd.prog.eqGuardType Tryd.prog.depth 55 = false := by kernel_rfl
theorem smp_fields : Tryd.prog.underlying 41 = some (.struct (Tryd.prog.fieldsOf 41)) := by kernel_rfl
theorem smp_held : Tryd.prog.stoodInHeld 41 = false := by kernel_rfl
theorem smp_guard : Tryd.prog.eqGuardType Tryd.prog.depth 41 = false := by kernel_rfl

theorem run_neq_kst (w : World) (s : KS) : (binOp .neq 46 (.agg #[.int .i64 (s.n : Int), .int .i64 s.t, .int .i64 s.d, .int .u64 (s.v : Int), .int .u64 (s.e : Int), .int .u64 (s.x.prev : Int), .int .i64 (s.x.lead : Int), .int .i64 (s.x.len : Int)]) (.agg #[.int .i64 (s.n : Int), .int .i64 s.t, .int .i64 s.d, .int .u64 (s.v : Int), .int .u64 (s.e : Int), .int .u64 (s.x.prev : Int), .int .i64 (s.x.lead : Int), .int .i64 (s.x.len : Int)])).run Tryd.prog w = .ok (.bool false) w := by
  rw [run_neq_struct, run_equalIn_agg _ _ _ _ _ kst_fields kst_held]
  simp [Op.eqFields, go_sem]
theorem run_neq_rst (w : World) (s : KS) : (binOp .neq 55 (.agg #[.int .i64 (s.n : Int), .int .i64 s.t, .int .i64 s.d, .int .u64 (s.v : Int), .int .u64 (s.e : Int), .int .u64 (s.x.prev : Int), .int .i64 (s.x.lead : Int), .int .i64 (s.x.len : Int)]) (.agg #[.int .i64 (s.n : Int), .int .i64 s.t, .int .i64 s.d, .int .u64 (s.v : Int), .int .u64 (s.e : Int), .int .u64 (s.x.prev : Int), .int .i64 (s.x.lead : Int), .int .i64 (s.x.len : Int)])).run Tryd.prog w = .ok (.bool false) w := by
  rw [run_neq_struct, run_equalIn_agg _ _ _ _ _ rst_fields rst_held]
  simp [Op.eqFields, go_sem]
theorem run_neq_smp (w : World) (t v : Int) : (binOp .neq 41 (.agg #[.int .i64 t, .int .u64 v]) (.agg #[.int .i64 t, .int .u64 v])).run Tryd.prog w = .ok (.bool false) w := by
  rw [run_neq_struct, run_equalIn_agg _ _ _ _ _ smp_fields smp_held]
  simp [Op.eqFields, go_sem]

end Go.Proofs.YtnjohmgacmcdnaaDoor
