/-
  Texts of this proof, one behind the other: Kin2, Kin3.
-/
import Derived.Test.YtaebljoacffghaaGreatDoorPlain
import Derived.Test.YtaebljoacffghaaGreatDoorWords
import Derived.Test.YtaebljoacffghaaGreatDoorDods
import Derived.Handy

/-
  The contracts of layer 8's small functions: known, rises.
-/
namespace Go.Proofs.YtaebljoacffghaaGreatDoor
open Go.RowKit

theorem known_yes (k : Nat) (w : World) (hk : k = 1 ∨ k = 2) :
    Calls Tryz.prog 99 #[.int .i64 (k : Int)] w fun e w' => e = .returned (.bool true) ∧ w = w' := by
  rcases hk with rfl | rfl
  all_goals
    go_enter Tryz.func99, Tryz.ntmps99
    go_wp2
    go_ret
    exact ⟨rfl, rfl⟩
theorem known_no (z : Int) (w : World) (h1 : (z == 1) = false) (h2 : (z == 2) = false) :
    Calls Tryz.prog 99 #[.int .i64 z] w fun e w' => e = .returned (.bool false) ∧ w = w' := by
  go_enter Tryz.func99, Tryz.ntmps99
  go_wp2
  go_ret
  exact ⟨rfl, rfl⟩

set_option maxRecDepth 20000 in
theorem rises_any (s : KS) (t : Int) (v : Nat) (w : World) :
    Calls Tryz.prog 100 #[(.agg #[.int .i64 (s.n : Int), .int .i64 s.t, .int .i64 s.d, .int .u64 (s.v : Int), .int .u64 (s.e : Int), .int .u64 (s.x.prev : Int), .int .i64 (s.x.lead : Int), .int .i64 (s.x.len : Int)]), (.agg #[.int .i64 t, .int .u64 (v : Int)])] w fun e w' => e = .returned (.bool (risesK s t)) ∧ Below w.heap.size w w' := by
  have hb := ((Below.refl w.heap.size w).alloc (Nat.le_refl _) (.cells #[.int .i64 (s.n : Int), .int .i64 s.t, .int .i64 s.d, .int .u64 (s.v : Int), .int .u64 (s.e : Int), .int .u64 (s.x.prev : Int), .int .i64 (s.x.lead : Int), .int .i64 (s.x.len : Int)] 151)).alloc (by simp) (.cells #[.int .i64 t, .int .u64 (v : Int)] 74)
  by_cases h0 : s.n = 0
  · have e : risesK s t = true := by unfold risesK; simp [h0]
    have h1 : ((s.n : Int) == 0) = true := by simp [h0]
    rw [e]
    clear h0
    go_enter Tryz.func100, Tryz.ntmps100
    go_wp2
    go_ret
    exact ⟨rfl, hb⟩
  · have h1 : ((s.n : Int) == 0) = false := by simp [h0]
    have e : risesK s t = decide (s.t < t) := by unfold risesK; simp [h0]
    rw [e]
    clear h0
    by_cases h2 : s.t < t
    all_goals
      go_enter Tryz.func100, Tryz.ntmps100
      go_wp2
      go_ret
      exact ⟨by simp [h2], hb⟩

end Go.Proofs.YtaebljoacffghaaGreatDoor

/-
  The contracts of layer 8's afterFirst and After; sums and differences as the walk spells them.
-/
namespace Go.Proofs.YtaebljoacffghaaGreatDoor
open Go.RowKit

theorem w64_wrap (x : Int) : wrap64 x = w64 x := wrap64_mod x
theorem stepT_wrap (s : KS) (t : Int) : wrap64 (wrap64 (t - s.t) - s.d) = stepT s t := by
  unfold stepT
  rw [w64_wrap, w64_wrap]
  unfold w64
  omega
theorem stepE_wrap (s : KS) (v : Nat) : wrap64 (IntKind.u64.wrap (IntKind.u64.wrap ((v : Int) - (s.v : Int)) - (s.e : Int))) = stepE s v := by
  unfold stepE
  rw [w64_wrap, u64_mod, u64_mod]
  unfold w64
  omega

/-- the state behind the first sample -/
def firstS (k : Nat) (t : Int) (v : Nat) : KS := ⟨1, t, 0, v, 0, if k = 1 then ⟨v, 0, 0⟩ else zeroX⟩
set_option maxRecDepth 20000 in
set_option maxHeartbeats 400000 in
theorem afterfirst_any (k : Nat) (t : Int) (v : Nat) (w : World) (hk : k = 1 ∨ k = 2) :
    Calls Tryz.prog 117 #[.int .i64 (k : Int), (.agg #[.int .i64 t, .int .u64 (v : Int)])] w fun e w' => e = .returned (.agg #[.int .i64 ((firstS k t v).n : Int), .int .i64 (firstS k t v).t, .int .i64 (firstS k t v).d, .int .u64 ((firstS k t v).v : Int), .int .u64 ((firstS k t v).e : Int), .int .u64 ((firstS k t v).x.prev : Int), .int .i64 ((firstS k t v).x.lead : Int), .int .i64 ((firstS k t v).x.len : Int)]) ∧ Below w.heap.size w w' := by
  rcases hk with rfl | rfl
  all_goals
    go_enter Tryz.func117, Tryz.ntmps117
    go_wp2
    go_returns
    exact ⟨rfl, by repeat (first | with_reducible exact Below.refl _ _ | assumption | with_reducible refine Below.drew ?_ | with_reducible refine Below.alloc ?_ (by (first | assumption | omega | (simp; done) | (simp; omega))) _)⟩

set_option maxRecDepth 20000 in
set_option maxHeartbeats 1000000 in
theorem after_any (k : Nat) (s : KS) (t : Int) (v : Nat) (y : XS) (w : World) (hk : k = 1 ∨ k = 2) (hn : s.n ≤ 1000000) :
    Calls Tryz.prog 103 #[.int .i64 (k : Int), (.agg #[.int .i64 (s.n : Int), .int .i64 s.t, .int .i64 s.d, .int .u64 (s.v : Int), .int .u64 (s.e : Int), .int .u64 (s.x.prev : Int), .int .i64 (s.x.lead : Int), .int .i64 (s.x.len : Int)]), (.agg #[.int .i64 t, .int .u64 (v : Int)]), (.agg #[.int .u64 (y.prev : Int), .int .i64 (y.lead : Int), .int .i64 (y.len : Int)])] w fun e w' => e = .returned (.agg #[.int .i64 ((afterK k s t v y).n : Int), .int .i64 (afterK k s t v y).t, .int .i64 (afterK k s t v y).d, .int .u64 ((afterK k s t v y).v : Int), .int .u64 ((afterK k s t v y).e : Int), .int .u64 ((afterK k s t v y).x.prev : Int), .int .i64 ((afterK k s t v y).x.lead : Int), .int .i64 ((afterK k s t v y).x.len : Int)]) ∧ Below w.heap.size w w' := by
  by_cases h0 : s.n = 0
  · have h1 : ((s.n : Int) == 0) = true := by simp [h0]
    have HA : Hid (afterK k s t v y = firstS k t v) := Lib.hid (by unfold afterK firstS; rw [if_pos h0])
    rw [HA.out]
    have hF := fun w => afterfirst_any k t v w hk
    generalize firstS k t v = s' at *
    clear h0
    go_enter Tryz.func103, Tryz.ntmps103
    go_wp2_with fail
    refine (hF _).mono ?_
    have hb0 : Below w.heap.size w ((((w.alloc (.cells #[.int .i64 (s.n : Int), .int .i64 s.t, .int .i64 s.d, .int .u64 (s.v : Int), .int .u64 (s.e : Int), .int .u64 (s.x.prev : Int), .int .i64 (s.x.lead : Int), .int .i64 (s.x.len : Int)] 151)).alloc (.cells #[.int .i64 t, .int .u64 (v : Int)] 74)).alloc (.cells #[.int .u64 (y.prev : Int), .int .i64 (y.lead : Int), .int .i64 (y.len : Int)] 149)).alloc (.cells #[.int .i64 0, .int .i64 0, .int .i64 0, .int .u64 0, .int .u64 0, .int .u64 0, .int .i64 0, .int .i64 0] 151)) := by repeat (first | with_reducible exact Below.refl _ _ | assumption | with_reducible refine Below.drew ?_ | with_reducible refine Below.alloc ?_ (by (first | assumption | omega | (simp; done) | (simp; omega))) _)
    have hx0 := BoxL.new (((w.alloc (.cells #[.int .i64 (s.n : Int), .int .i64 s.t, .int .i64 s.d, .int .u64 (s.v : Int), .int .u64 (s.e : Int), .int .u64 (s.x.prev : Int), .int .i64 (s.x.lead : Int), .int .i64 (s.x.len : Int)] 151)).alloc (.cells #[.int .i64 t, .int .u64 (v : Int)] 74)).alloc (.cells #[.int .u64 (y.prev : Int), .int .i64 (y.lead : Int), .int .i64 (y.len : Int)] 149)) [.int .i64 0, .int .i64 0, .int .i64 0, .int .u64 0, .int .u64 0, .int .u64 0, .int .i64 0, .int .i64 0] 151
    simp only [World.size_alloc] at hx0
    rintro e w1 ⟨rfl, hb1⟩
    replace hx0 := hx0.below hb1
    replace hb1 := hb0.trans (hb1.mono hb0.size)
    obtain ⟨c0, c1, c2, c3, c4, c5, c6, c7⟩ := hx0.get8
    obtain ⟨f0, f1, f2, f3, f4, f5, f6, f7⟩ := hx0.free8
    have hg : w.heap.size ≤ w.heap.size + 1 + 1 + 1 := by omega
    generalize w.heap.size + 1 + 1 + 1 = g at *
    go_wp2
    have hy := hx0.all8 (.int .i64 (s'.n : Int)) (.int .i64 s'.t) (.int .i64 s'.d) (.int .u64 (s'.v : Int)) (.int .u64 (s'.e : Int)) (.int .u64 (s'.x.prev : Int)) (.int .i64 (s'.x.lead : Int)) (.int .i64 (s'.x.len : Int))
    obtain ⟨d0, d1, d2, d3, d4, d5, d6, d7⟩ := hy.get8
    have hbs := below_set8 hb1 hg (.int .i64 (s'.n : Int)) (.int .i64 s'.t) (.int .i64 s'.d) (.int .u64 (s'.v : Int)) (.int .u64 (s'.e : Int)) (.int .u64 (s'.x.prev : Int)) (.int .i64 (s'.x.lead : Int)) (.int .i64 (s'.x.len : Int))
    refine bodyPost_ret (v := (.agg #[.int .i64 (s'.n : Int), .int .i64 s'.t, .int .i64 s'.d, .int .u64 (s'.v : Int), .int .u64 (s'.e : Int), .int .u64 (s'.x.prev : Int), .int .i64 (s'.x.lead : Int), .int .i64 (s'.x.len : Int)])) ?_ rfl ⟨rfl, hbs⟩
    clear hx0 hb1 hy hbs hF
    clear c0 c1 c2 c3 c4 c5 c6 c7 f0 f1 f2 f3 f4 f5 f6 f7
    generalize ((((((((w1.setCell ⟨g, 0, none⟩ (.int .i64 (s'.n : Int))).setCell ⟨g, 1, none⟩ (.int .i64 s'.t)).setCell ⟨g, 2, none⟩ (.int .i64 s'.d)).setCell ⟨g, 3, none⟩ (.int .u64 (s'.v : Int))).setCell ⟨g, 4, none⟩ (.int .u64 (s'.e : Int))).setCell ⟨g, 5, none⟩ (.int .u64 (s'.x.prev : Int))).setCell ⟨g, 6, none⟩ (.int .i64 (s'.x.lead : Int))).setCell ⟨g, 7, none⟩ (.int .i64 (s'.x.len : Int))) = W at *
    simp [results, Tryz.results103, go_sem, d0, d1, d2, d3, d4, d5, d6, d7]
  · have h1 : ((s.n : Int) == 0) = false := by simp [h0]
    have hw := w64_wrap (t - s.t)
    have hu : IntKind.u64.wrap ((v : Int) - (s.v : Int)) = ((un64 ((v : Int) - (s.v : Int)) : Nat) : Int) := by rw [u64_mod, un64_cast]
    rcases hk with rfl | rfl
    · have HA : Hid (afterK 1 s t v y = ⟨s.n + 1, t, w64 (t - s.t), v, 0, y⟩) := Lib.hid (by unfold afterK; rw [if_neg h0]; rfl)
      rw [HA.out]
      clear h0
      go_enter Tryz.func103, Tryz.ntmps103
      go_wp2
      go_returns
      exact ⟨rfl, by repeat (first | with_reducible exact Below.refl _ _ | assumption | with_reducible refine Below.drew ?_ | with_reducible refine Below.alloc ?_ (by (first | assumption | omega | (simp; done) | (simp; omega))) _)⟩
    · have HA : Hid (afterK 2 s t v y = ⟨s.n + 1, t, w64 (t - s.t), v, un64 ((v : Int) - (s.v : Int)), zeroX⟩) := Lib.hid (by unfold afterK; rw [if_neg h0]; rfl)
      rw [HA.out]
      clear h0
      go_enter Tryz.func103, Tryz.ntmps103
      go_wp2
      go_returns
      exact ⟨rfl, by repeat (first | with_reducible exact Below.refl _ _ | assumption | with_reducible refine Below.drew ?_ | with_reducible refine Below.alloc ?_ (by (first | assumption | omega | (simp; done) | (simp; omega))) _)⟩

end Go.Proofs.YtaebljoacffghaaGreatDoor
