/-
  The contract of the laws' own State.
-/
import Derived.Test.YtchkpbhbdbafdaaDoorPlain
import Derived.Test.YtchkpbhbdbafdaaDoorWords
import Derived.Test.YtchkpbhbdbafdaaDoorLawXor
import Derived.Test.YtchkpbhbdbafdaaDoorXorEq
import Derived.Deep.DeepCutAuto
import Derived.Deep.RegionHeld3
import Derived.Test.YtchkpbhbdbafdaaDoorCode
namespace Go.Proofs.YtchkpbhbdbafdaaDoor
open Go.RowKit

theorem lawxor_as (x : XS) (w : World) : Calls Tryd.prog 21 #[(.agg #[.int .u64 (x.prev : Int), .int .i64 (x.lead : Int), .int .i64 (x.len : Int)])] w fun e w' => e = .returned (.agg #[.int .u64 (x.prev : Int), .int .i64 (x.lead : Int), .int .i64 (x.len : Int)]) ∧ Below w.heap.size w w' := lawxor_any _ _ _ w
set_option maxRecDepth 20000 in
set_option maxHeartbeats 2000000 in
theorem lawstate_any (s : KS) (w : World) :
    Calls Tryd.prog 11 #[(.agg #[.int .i64 (s.n : Int), .int .i64 s.t, .int .i64 s.d, .int .u64 (s.v : Int), .int .u64 (s.e : Int), .int .u64 (s.x.prev : Int), .int .i64 (s.x.lead : Int), .int .i64 (s.x.len : Int)])] w fun e w' => e = .returned (.agg #[.int .i64 (s.n : Int), .int .i64 s.t, .int .i64 s.d, .int .u64 (s.v : Int), .int .u64 (s.e : Int), .int .u64 (s.x.prev : Int), .int .i64 (s.x.lead : Int), .int .i64 (s.x.len : Int)]) ∧ Below w.heap.size w w' := by
  have hX := fun X => lawxor_as s.x X
  have b1 := (BoxL.new w [.int .i64 (s.n : Int), .int .i64 s.t, .int .i64 s.d, .int .u64 (s.v : Int), .int .u64 (s.e : Int), .int .u64 (s.x.prev : Int), .int .i64 (s.x.lead : Int), .int .i64 (s.x.len : Int)] 32).onA (.cells #[.int .i64 0, .int .i64 0, .int .i64 0, .int .u64 0, .int .u64 0, .int .u64 0, .int .i64 0, .int .i64 0] 35)
  have b2 := BoxL.new (w.alloc (.cells #[.int .i64 (s.n : Int), .int .i64 s.t, .int .i64 s.d, .int .u64 (s.v : Int), .int .u64 (s.e : Int), .int .u64 (s.x.prev : Int), .int .i64 (s.x.lead : Int), .int .i64 (s.x.len : Int)] 32)) [.int .i64 0, .int .i64 0, .int .i64 0, .int .u64 0, .int .u64 0, .int .u64 0, .int .i64 0, .int .i64 0] 35
  simp only [World.size_alloc] at b2
  have hb : Below w.heap.size w ((w.alloc (.cells #[.int .i64 (s.n : Int), .int .i64 s.t, .int .i64 s.d, .int .u64 (s.v : Int), .int .u64 (s.e : Int), .int .u64 (s.x.prev : Int), .int .i64 (s.x.lead : Int), .int .i64 (s.x.len : Int)] 32)).alloc (.cells #[.int .i64 0, .int .i64 0, .int .i64 0, .int .u64 0, .int .u64 0, .int .u64 0, .int .i64 0, .int .i64 0] 35)) := by repeat (first | with_reducible exact Below.refl _ _ | assumption | with_reducible refine Below.drew ?_ | with_reducible refine Below.alloc ?_ (by (first | assumption | omega | (simp; done) | (simp; omega))) _)
  go_enter Tryd.func11, Tryd.ntmps11
  go_upto_region 1 with fail
  generalize (w.alloc (.cells #[.int .i64 (s.n : Int), .int .i64 s.t, .int .i64 s.d, .int .u64 (s.v : Int), .int .u64 (s.e : Int), .int .u64 (s.x.prev : Int), .int .i64 (s.x.lead : Int), .int .i64 (s.x.len : Int)] 32)).alloc (.cells #[.int .i64 0, .int .i64 0, .int .i64 0, .int .u64 0, .int .u64 0, .int .u64 0, .int .i64 0, .int .i64 0] 35) = W at *
  replace b1 := b1.drew
  replace b2 := b2.drew
  replace hb := hb.drew
  have q0 := b1.get8
  go_region_held3 (fun w' => (w'.cell? ⟨w.heap.size, 0, none⟩ = some (.int .i64 (s.n : Int)) ∧ w'.cell? ⟨w.heap.size, 1, none⟩ = some (.int .i64 s.t) ∧ w'.cell? ⟨w.heap.size, 2, none⟩ = some (.int .i64 s.d) ∧ w'.cell? ⟨w.heap.size, 3, none⟩ = some (.int .u64 (s.v : Int)) ∧ w'.cell? ⟨w.heap.size, 4, none⟩ = some (.int .u64 (s.e : Int)) ∧ w'.cell? ⟨w.heap.size, 5, none⟩ = some (.int .u64 (s.x.prev : Int)) ∧ w'.cell? ⟨w.heap.size, 6, none⟩ = some (.int .i64 (s.x.lead : Int)) ∧ w'.cell? ⟨w.heap.size, 7, none⟩ = some (.int .i64 (s.x.len : Int)))) (with_reducible first | exact b1.get8 | exact (b1.oth8 (by omega) _ _ _ _ _ _ _ _).get8) (first
    | (go_at_call 21; (with_reducible refine (hX _).mono ?_); rintro e w3 ⟨rfl, HB⟩; replace hb := hb.trans (HB.mono hb.size); replace b1 := b1.below HB; replace b2 := b2.below HB; clear HB; obtain ⟨u0, u1, u2, u3, u4, u5, u6, u7⟩ := b2.get8; obtain ⟨f0, f1, f2, f3, f4, f5, f6, f7⟩ := b2.free8))
  all_goals
    clear q0 u0 u1 u2 u3 u4 u5 u6 u7 f0 f1 f2 f3 f4 f5 f6 f7 b1 hX
    go_wp2
    replace b2 := b2.all8 (.int .i64 (s.n : Int)) (.int .i64 s.t) (.int .i64 s.d) (.int .u64 (s.v : Int)) (.int .u64 (s.e : Int)) (.int .u64 (s.x.prev : Int)) (.int .i64 (s.x.lead : Int)) (.int .i64 (s.x.len : Int))
    replace hb := below_set8 hb (d := w.heap.size + 1) (by omega) (.int .i64 (s.n : Int)) (.int .i64 s.t) (.int .i64 s.d) (.int .u64 (s.v : Int)) (.int .u64 (s.e : Int)) (.int .u64 (s.x.prev : Int)) (.int .i64 (s.x.lead : Int)) (.int .i64 (s.x.len : Int))
    generalize ((((((((w3.setCell ⟨w.heap.size + 1, 0, none⟩ (.int .i64 (s.n : Int))).setCell ⟨w.heap.size + 1, 1, none⟩ (.int .i64 s.t)).setCell ⟨w.heap.size + 1, 2, none⟩ (.int .i64 s.d)).setCell ⟨w.heap.size + 1, 3, none⟩ (.int .u64 (s.v : Int))).setCell ⟨w.heap.size + 1, 4, none⟩ (.int .u64 (s.e : Int))).setCell ⟨w.heap.size + 1, 5, none⟩ (.int .u64 (s.x.prev : Int))).setCell ⟨w.heap.size + 1, 6, none⟩ (.int .i64 (s.x.lead : Int))).setCell ⟨w.heap.size + 1, 7, none⟩ (.int .i64 (s.x.len : Int))) = X at *
    obtain ⟨d0, d1, d2, d3, d4, d5, d6, d7⟩ := b2.get8
    refine bodyPost_ret (v := (.agg #[.int .i64 (s.n : Int), .int .i64 s.t, .int .i64 s.d, .int .u64 (s.v : Int), .int .u64 (s.e : Int), .int .u64 (s.x.prev : Int), .int .i64 (s.x.lead : Int), .int .i64 (s.x.len : Int)])) ?_ rfl ⟨rfl, hb⟩
    simp [results, Tryd.results11, go_sem, d0, d1, d2, d3, d4, d5, d6, d7]

end Go.Proofs.YtchkpbhbdbafdaaDoor
