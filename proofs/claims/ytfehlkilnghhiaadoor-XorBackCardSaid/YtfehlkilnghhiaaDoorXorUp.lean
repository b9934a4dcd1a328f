/-
  The contracts of the laws' own Xor, of the reference's MayXor; and of the example at the head of the laws of layer 7: it holds.
-/
import Derived.Test.YtfehlkilnghhiaaDoorXorAll
import Derived.Test.YtfehlkilnghhiaaDoorXorGet
import Derived.Test.YtfehlkilnghhiaaDoorXorEq
import Derived.Handy
import Derived.Deep.DeepCutAuto
namespace Go.Proofs.YtfehlkilnghhiaaDoor
open Go.RowKit

theorem lawxor_any (p a n : Int) (w : World) :
    Calls Tryd.prog 6 #[.agg #[.int .u64 p, .int .i64 a, .int .i64 n]] w fun e w' => e = .returned (.agg #[.int .u64 p, .int .i64 a, .int .i64 n]) ∧ Below w.heap.size w w' := by
  go_enter Tryd.func6, Tryd.ntmps6
  go_wp2
  go_returns
  exact ⟨rfl, two_below _ _ _⟩

/-- may a state be, told by its numbers -/
def mayI (a n : Int) : Bool := decide (0 ≤ a ∧ a ≤ 63 ∧ 0 ≤ n ∧ n ≤ 64 ∧ a + n ≤ 64 ∧ (0 < n ∨ a = 0))
set_option maxHeartbeats 1000000 in
theorem mayxor_any (p a n : Int) (w : World) (ha : -9223372036854775808 ≤ a ∧ a ≤ 9223372036854775807) (hn : -9223372036854775808 ≤ n ∧ n ≤ 9223372036854775807) :
    Calls Tryd.prog 7 #[.agg #[.int .u64 p, .int .i64 a, .int .i64 n]] w fun e w' => e = .returned (.bool (mayI a n)) ∧ Below w.heap.size w w' := by
  have hb := (Below.refl w.heap.size w).alloc (Nat.le_refl _) (.cells #[.int .u64 p, .int .i64 a, .int .i64 n] 27)
  by_cases h1 : 0 ≤ a ∧ a ≤ 63 ∧ 0 ≤ n ∧ n ≤ 64
  · obtain ⟨i1, i2, i3, i4⟩ := h1
    have hsum : IntKind.i64.wrap (a + n) = a + n := by rw [IntKind.wrap_i64]; omega
    by_cases i5 : a + n ≤ 64
    · by_cases i6 : 0 < n
      · have e : mayI a n = true := decide_eq_true ⟨i1, i2, i3, i4, i5, .inl i6⟩
        rw [e]
        go_enter Tryd.func7, Tryd.ntmps7
        go_wp2
        go_ret
        exact ⟨rfl, hb⟩
      · have hn0 : n = 0 := by omega
        subst hn0
        by_cases i7 : a = 0
        · have e : mayI a 0 = true := decide_eq_true ⟨i1, i2, i3, i4, i5, .inr i7⟩
          rw [e]
          subst i7
          go_enter Tryd.func7, Tryd.ntmps7
          go_wp2
          go_ret
          exact ⟨rfl, hb⟩
        · have e : mayI a 0 = false := decide_eq_false (by omega)
          rw [e]
          have i8 : (a == 0) = false := by simpa using i7
          go_enter Tryd.func7, Tryd.ntmps7
          go_wp2
          go_ret
          exact ⟨rfl, hb⟩
    · have e : mayI a n = false := decide_eq_false (by omega)
      rw [e]
      go_enter Tryd.func7, Tryd.ntmps7
      go_wp2
      go_ret
      exact ⟨rfl, hb⟩
  · have e : mayI a n = false := decide_eq_false (by omega)
    rw [e]
    by_cases i1 : 0 ≤ a
    · by_cases i2 : a ≤ 63
      · by_cases i3 : 0 ≤ n
        · have i4 : ¬ n ≤ 64 := by omega
          clear h1 e
          go_enter Tryd.func7, Tryd.ntmps7
          go_wp2
          go_ret
          exact ⟨rfl, hb⟩
        · clear h1 e
          go_enter Tryd.func7, Tryd.ntmps7
          go_wp2
          go_ret
          exact ⟨rfl, hb⟩
      · clear h1 e
        go_enter Tryd.func7, Tryd.ntmps7
        go_wp2
        go_ret
        exact ⟨rfl, hb⟩
    · clear h1 e
      go_enter Tryd.func7, Tryd.ntmps7
      go_wp2
      go_ret
      exact ⟨rfl, hb⟩

theorem up7_code : codeX ⟨5, 0, 0⟩ 5 = [false] := by decide
theorem up7_next : nextX ⟨5, 0, 0⟩ 5 = ⟨5, 0, 0⟩ := rfl
theorem up7_got : getX ⟨5, 0, 0⟩ (restL [0] 0) = ⟨5, ⟨5, 0, 0⟩, 1, 0⟩ := by
  have h : restL [0] 0 = [false, false, false, false, false, false, false, false] := by decide +kernel
  rw [h]
  rfl
theorem up7_may : XS.May ⟨5, 0, 0⟩ := ⟨by simp, by simp, by simp, fun _ => rfl⟩
theorem up7_put (w : World) (hR : TzW w) : Calls Tryd.prog 8 #[.agg #[.int .u64 5, .int .i64 0, .int .i64 0], .int .u64 5] w fun e w' => ∃ A n c, e = .returned (.tuple #[.agg #[.slice A n c, .int .i64 1], .agg #[.int .u64 5, .int .i64 0, .int .i64 0]]) ∧ Below w.heap.size w w' := by
  refine (xcode_any 5 0 0 5 w up7_may (by omega) hR).mono ?_
  rintro e w' ⟨A, c, he, hown⟩
  rw [up7_code, up7_next] at he
  exact ⟨_, _, _, he, hown.bel⟩
theorem up7_get (w : World) (hR : TzW (w.alloc (.cells #[.int .u8 0] 5))) : Calls Tryd.prog 10 #[.agg #[.int .u64 5, .int .i64 0, .int .i64 0], .slice (some ⟨w.heap.size, 0, none⟩) 1 1, .int .i64 0] (w.alloc (.cells #[.int .u8 0] 5)) fun e w' => e = .returned (.tuple #[.int .u64 5, .agg #[.int .u64 5, .int .i64 0, .int .i64 0], .int .i64 1, .nilIface]) ∧ Below (w.alloc (.cells #[.int .u8 0] 5)).heap.size (w.alloc (.cells #[.int .u8 0] 5)) w' := by
  refine (xget_any _ 1 1 _ [0] 0 5 0 0 _ (Rd.one w 0) (by simp) (by simp) (by omega) (by omega) up7_may hR).mono ?_
  rintro e w' ⟨he, hb⟩
  rw [up7_got] at he
  exact ⟨he, hb⟩

set_option maxHeartbeats 1000000 in
theorem up7_any (w : World) (hR : TzW w) : Calls Tryd.prog 5 #[] w fun e w' => e = .returned (.bool true) ∧ Below w.heap.size w w' := by
  have qs := fun w => run_eql_state w 5 0 0
  have sg := state_guard
  go_enter Tryd.func5, Tryd.ntmps5
  go_wp2_with fail
  refine (up7_put w hR).mono ?_
  rintro e w1 ⟨A, n, c, rfl, hb1⟩
  go_upto_region 2 with fail
  have x1 := (BoxAt.new w1 (.slice A n c) (.int .i64 1) 31).onA (.cells #[.int .u64 5, .int .i64 0, .int .i64 0] 24)
  have x2 := Box3.new (w1.alloc (.cells #[.slice A n c, .int .i64 1] 31)) (.int .u64 5) (.int .i64 0) (.int .i64 0) 24
  have hb2 := (hb1.alloc hb1.size (.cells #[.slice A n c, .int .i64 1] 31))
  replace hb2 := hb2.alloc hb2.size (.cells #[.int .u64 5, .int .i64 0, .int .i64 0] 24)
  simp only [World.size_alloc] at x2
  clear hb1
  generalize (w1.alloc (.cells #[.slice A n c, .int .i64 1] 31)).alloc (.cells #[.int .u64 5, .int .i64 0, .int .i64 0] 24) = W at *
  generalize w1.heap.size = g at *
  have hb3 := hb2.alloc hb2.size (.cells #[.int .u8 0] 5)
  go_wp2_with fail
  refine (up7_get W (hR.bel hb3)).mono ?_
  rintro e w2 ⟨rfl, hb4⟩
  obtain ⟨_, y0, y1, _, _⟩ := (x1.onA (.cells #[.int .u8 0] 5)).below hb4
  obtain ⟨_, z0, z1, z2, _, _, _⟩ := (x2.onA (.cells #[.int .u8 0] 5)).below hb4
  replace hb3 := hb3.trans (hb4.mono hb3.size)
  clear hb4 x1 x2
  go_wp2
  go_ret
  exact ⟨rfl, hb3.alloc hb3.size _⟩

end Go.Proofs.YtfehlkilnghhiaaDoor
