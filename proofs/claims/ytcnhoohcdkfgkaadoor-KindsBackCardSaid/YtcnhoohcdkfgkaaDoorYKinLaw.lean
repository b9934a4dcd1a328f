/-
  The contracts of the laws' own State, and of the example at the head of the laws of layer 8.
-/
import Derived.Test.YtcnhoohcdkfgkaaDoorM7
import Derived.Test.YtcnhoohcdkfgkaaDoorYLawXor
import Derived.Test.YtcnhoohcdkfgkaaDoorM8
import Derived.Test.YtcnhoohcdkfgkaaDoorYCode
namespace Go.Proofs.YtcnhoohcdkfgkaaDoor
open Go.RowKit

theorem lawxor_as (x : XS) (w : World) : Calls Tryd.prog 27 #[(.agg #[.int .u64 (x.prev : Int), .int .i64 (x.lead : Int), .int .i64 (x.len : Int)])] w fun e w' => e = .returned (.agg #[.int .u64 (x.prev : Int), .int .i64 (x.lead : Int), .int .i64 (x.len : Int)]) ∧ Below w.heap.size w w' := lawxor_any _ _ _ w
set_option maxRecDepth 20000 in
set_option maxHeartbeats 2000000 in
theorem lawstate_any (s : KS) (w : World) :
    Calls Tryd.prog 10 #[(.agg #[.int .i64 (s.n : Int), .int .i64 s.t, .int .i64 s.d, .int .u64 (s.v : Int), .int .u64 (s.e : Int), .int .u64 (s.x.prev : Int), .int .i64 (s.x.lead : Int), .int .i64 (s.x.len : Int)])] w fun e w' => e = .returned (.agg #[.int .i64 (s.n : Int), .int .i64 s.t, .int .i64 s.d, .int .u64 (s.v : Int), .int .u64 (s.e : Int), .int .u64 (s.x.prev : Int), .int .i64 (s.x.lead : Int), .int .i64 (s.x.len : Int)]) ∧ Below w.heap.size w w' := by
  have hX := fun X => lawxor_as s.x X
  have b1 := (BoxL.new w [.int .i64 (s.n : Int), .int .i64 s.t, .int .i64 s.d, .int .u64 (s.v : Int), .int .u64 (s.e : Int), .int .u64 (s.x.prev : Int), .int .i64 (s.x.lead : Int), .int .i64 (s.x.len : Int)] 29).onA (.cells #[.int .i64 0, .int .i64 0, .int .i64 0, .int .u64 0, .int .u64 0, .int .u64 0, .int .i64 0, .int .i64 0] 32)
  have b2 := BoxL.new (w.alloc (.cells #[.int .i64 (s.n : Int), .int .i64 s.t, .int .i64 s.d, .int .u64 (s.v : Int), .int .u64 (s.e : Int), .int .u64 (s.x.prev : Int), .int .i64 (s.x.lead : Int), .int .i64 (s.x.len : Int)] 29)) [.int .i64 0, .int .i64 0, .int .i64 0, .int .u64 0, .int .u64 0, .int .u64 0, .int .i64 0, .int .i64 0] 32
  simp only [World.size_alloc] at b2
  have hb : Below w.heap.size w ((w.alloc (.cells #[.int .i64 (s.n : Int), .int .i64 s.t, .int .i64 s.d, .int .u64 (s.v : Int), .int .u64 (s.e : Int), .int .u64 (s.x.prev : Int), .int .i64 (s.x.lead : Int), .int .i64 (s.x.len : Int)] 29)).alloc (.cells #[.int .i64 0, .int .i64 0, .int .i64 0, .int .u64 0, .int .u64 0, .int .u64 0, .int .i64 0, .int .i64 0] 32)) := by repeat (first | with_reducible exact Below.refl _ _ | assumption | with_reducible refine Below.drew ?_ | with_reducible refine Below.alloc ?_ (by (first | assumption | omega | (simp; done) | (simp; omega))) _)
  go_enter Tryd.func10, Tryd.ntmps10
  go_upto_region 1 with fail
  generalize (w.alloc (.cells #[.int .i64 (s.n : Int), .int .i64 s.t, .int .i64 s.d, .int .u64 (s.v : Int), .int .u64 (s.e : Int), .int .u64 (s.x.prev : Int), .int .i64 (s.x.lead : Int), .int .i64 (s.x.len : Int)] 29)).alloc (.cells #[.int .i64 0, .int .i64 0, .int .i64 0, .int .u64 0, .int .u64 0, .int .u64 0, .int .i64 0, .int .i64 0] 32) = W at *
  replace b1 := b1.drew
  replace b2 := b2.drew
  replace hb := hb.drew
  have q0 := b1.get8
  go_region_held3 (fun w' => (w'.cell? ⟨w.heap.size, 0, none⟩ = some (.int .i64 (s.n : Int)) ∧ w'.cell? ⟨w.heap.size, 1, none⟩ = some (.int .i64 s.t) ∧ w'.cell? ⟨w.heap.size, 2, none⟩ = some (.int .i64 s.d) ∧ w'.cell? ⟨w.heap.size, 3, none⟩ = some (.int .u64 (s.v : Int)) ∧ w'.cell? ⟨w.heap.size, 4, none⟩ = some (.int .u64 (s.e : Int)) ∧ w'.cell? ⟨w.heap.size, 5, none⟩ = some (.int .u64 (s.x.prev : Int)) ∧ w'.cell? ⟨w.heap.size, 6, none⟩ = some (.int .i64 (s.x.lead : Int)) ∧ w'.cell? ⟨w.heap.size, 7, none⟩ = some (.int .i64 (s.x.len : Int)))) (with_reducible first | exact b1.get8 | exact (b1.oth8 (by omega) _ _ _ _ _ _ _ _).get8) (first
    | (go_at_call 27; (with_reducible refine (hX _).mono ?_); rintro e w3 ⟨rfl, HB⟩; replace hb := hb.trans (HB.mono hb.size); replace b1 := b1.below HB; replace b2 := b2.below HB; clear HB; obtain ⟨u0, u1, u2, u3, u4, u5, u6, u7⟩ := b2.get8; obtain ⟨f0, f1, f2, f3, f4, f5, f6, f7⟩ := b2.free8))
  all_goals
    clear q0 u0 u1 u2 u3 u4 u5 u6 u7 f0 f1 f2 f3 f4 f5 f6 f7 b1 hX
    go_wp2
    replace b2 := b2.all8 (.int .i64 (s.n : Int)) (.int .i64 s.t) (.int .i64 s.d) (.int .u64 (s.v : Int)) (.int .u64 (s.e : Int)) (.int .u64 (s.x.prev : Int)) (.int .i64 (s.x.lead : Int)) (.int .i64 (s.x.len : Int))
    replace hb := below_set8 hb (d := w.heap.size + 1) (by omega) (.int .i64 (s.n : Int)) (.int .i64 s.t) (.int .i64 s.d) (.int .u64 (s.v : Int)) (.int .u64 (s.e : Int)) (.int .u64 (s.x.prev : Int)) (.int .i64 (s.x.lead : Int)) (.int .i64 (s.x.len : Int))
    generalize ((((((((w3.setCell ⟨w.heap.size + 1, 0, none⟩ (.int .i64 (s.n : Int))).setCell ⟨w.heap.size + 1, 1, none⟩ (.int .i64 s.t)).setCell ⟨w.heap.size + 1, 2, none⟩ (.int .i64 s.d)).setCell ⟨w.heap.size + 1, 3, none⟩ (.int .u64 (s.v : Int))).setCell ⟨w.heap.size + 1, 4, none⟩ (.int .u64 (s.e : Int))).setCell ⟨w.heap.size + 1, 5, none⟩ (.int .u64 (s.x.prev : Int))).setCell ⟨w.heap.size + 1, 6, none⟩ (.int .i64 (s.x.lead : Int))).setCell ⟨w.heap.size + 1, 7, none⟩ (.int .i64 (s.x.len : Int))) = X at *
    obtain ⟨d0, d1, d2, d3, d4, d5, d6, d7⟩ := b2.get8
    refine bodyPost_ret (v := (.agg #[.int .i64 (s.n : Int), .int .i64 s.t, .int .i64 s.d, .int .u64 (s.v : Int), .int .u64 (s.e : Int), .int .u64 (s.x.prev : Int), .int .i64 (s.x.lead : Int), .int .i64 (s.x.len : Int)])) ?_ rfl ⟨rfl, hb⟩
    simp [results, Tryd.results10, go_sem, d0, d1, d2, d3, d4, d5, d6, d7]

theorem up8_len : (putK 1 zeroK 1 2).length = 128 := by
  unfold putK timeK valK
  rw [List.length_append, if_pos (show zeroK.n = 0 from rfl), if_pos (show zeroK.n = 0 from rfl), low_length, low_length]
theorem up8_put (w : World) (hR : RoomW w) (hT : TzW w) :
    Calls Tryd.prog 6 #[.int .i64 1, (.agg #[.int .i64 0, .int .i64 0, .int .i64 0, .int .u64 0, .int .u64 0, .int .u64 0, .int .i64 0, .int .i64 0]), .agg #[.int .i64 1, .int .u64 2]] w fun e w' => ∃ A n c, e = .returned (.tuple #[.agg #[.slice A n c, .int .i64 128], .agg #[.int .i64 1, .int .i64 1, .int .i64 0, .int .u64 2, .int .u64 0, .int .u64 2, .int .i64 0, .int .i64 0], .nilIface]) ∧ Below w.heap.size w w' := by
  refine (put_yes8 1 zeroK 1 2 w (.inl rfl) zeroK_may (by simp [zeroK]) (by omega) rfl hR hT).mono ?_
  rintro e w' ⟨A, c, he, ho⟩
  rw [up8_len] at he
  exact ⟨A, _, c, he, ho.bel⟩
theorem up8_bad (w : World) :
    Calls Tryd.prog 6 #[.int .i64 3, (.agg #[.int .i64 0, .int .i64 0, .int .i64 0, .int .u64 0, .int .u64 0, .int .u64 0, .int .i64 0, .int .i64 0]), .agg #[.int .i64 0, .int .u64 0]] w fun e w' => e = .returned (.tuple #[.agg #[.slice none 0 0, .int .i64 0], (.agg #[.int .i64 0, .int .i64 0, .int .i64 0, .int .u64 0, .int .u64 0, .int .u64 0, .int .i64 0, .int .i64 0]), .iface 58 (.int .i64 6)]) ∧ Below w.heap.size w w' :=
  put_kind 3 zeroK 0 0 w (by decide) (by decide)

set_option maxRecDepth 20000 in
set_option maxHeartbeats 2000000 in
theorem up8_any (w : World) (hR : RoomW w) (hT : TzW w) : Calls Tryd.prog 5 #[] w fun e w' => e = .returned (.bool true) ∧ Below w.heap.size w w' := by
  have qs := fun w => run_eql_state w 2 0 0
  have sg := state_guard
  go_enter Tryd.func5, Tryd.ntmps5
  go_wp2_with fail
  refine (up8_put w hR hT).mono ?_
  rintro e w1 ⟨A, n, c, rfl, hb1⟩
  go_upto_region 2 with fail
  have x1 := (BoxL.new w1 [.slice A n c, .int .i64 128] 34).onA (.cells #[.int .i64 1, .int .i64 1, .int .i64 0, .int .u64 2, .int .u64 0, .int .u64 2, .int .i64 0, .int .i64 0] 29)
  have x2 := BoxL.new (w1.alloc (.cells #[.slice A n c, .int .i64 128] 34)) [.int .i64 1, .int .i64 1, .int .i64 0, .int .u64 2, .int .u64 0, .int .u64 2, .int .i64 0, .int .i64 0] 29
  have hb2 : Below w1.heap.size w1 ((w1.alloc (.cells #[.slice A n c, .int .i64 128] 34)).alloc (.cells #[.int .i64 1, .int .i64 1, .int .i64 0, .int .u64 2, .int .u64 0, .int .u64 2, .int .i64 0, .int .i64 0] 29)) := by repeat (first | with_reducible exact Below.refl _ _ | assumption | with_reducible refine Below.drew ?_ | with_reducible refine Below.alloc ?_ (by (first | assumption | omega | (simp; done) | (simp; omega))) _)
  simp only [World.size_alloc] at x2
  replace hb1 := hb1.trans (hb2.mono hb1.size)
  clear hb2
  generalize (w1.alloc (.cells #[.slice A n c, .int .i64 128] 34)).alloc (.cells #[.int .i64 1, .int .i64 1, .int .i64 0, .int .u64 2, .int .u64 0, .int .u64 2, .int .i64 0, .int .i64 0] 29) = W at *
  generalize w1.heap.size = g at *
  go_wp2_with fail
  refine (up8_bad W).mono ?_
  rintro e w2 ⟨rfl, hb3⟩
  have hal : Below w2.heap.size w2 ((w2.alloc (.cells #[.slice none 0 0, .int .i64 0] 34)).alloc (.cells #[.int .i64 0, .int .i64 0, .int .i64 0, .int .u64 0, .int .u64 0, .int .u64 0, .int .i64 0, .int .i64 0] 29)) := by repeat (first | with_reducible exact Below.refl _ _ | assumption | with_reducible refine Below.drew ?_ | with_reducible refine Below.alloc ?_ (by (first | assumption | omega | (simp; done) | (simp; omega))) _)
  go_upto_region 3 with fail
  replace x1 := (x1.below hb3).below hal
  replace x2 := (x2.below hb3).below hal
  replace hb1 := (hb1.trans (hb3.mono hb1.size))
  replace hb1 := hb1.trans (hal.mono hb1.size)
  clear hb3 hal
  generalize (w2.alloc (.cells #[.slice none 0 0, .int .i64 0] 34)).alloc (.cells #[.int .i64 0, .int .i64 0, .int .i64 0, .int .u64 0, .int .u64 0, .int .u64 0, .int .i64 0, .int .i64 0] 29) = W2 at *
  obtain ⟨a0, a1⟩ := x1.get2
  obtain ⟨d0, d1, d2, d3, d4, d5, d6, d7⟩ := x2.get8
  go_wp2_with fail
  refine (code_some 6 W2 (by omega) (by omega)).mono ?_
  rintro e w3 ⟨rfl, rfl⟩
  go_wp2
  go_ret
  exact ⟨rfl, hb1⟩

end Go.Proofs.YtcnhoohcdkfgkaaDoor
