/-
  The contracts of layer 8's small functions: known, rises, word; sums and differences as the walk spells them.
-/
import Derived.Test.YtldodfdbaonmkaaDoorKin1
import Derived.Test.YtldodfdbaonmkaaDoorBoxL
import Derived.Test.YtldodfdbaonmkaaDoorDodCode
import Derived.Test.YtldodfdbaonmkaaDoorXorAll
import Derived.Handy
namespace Go.Proofs.YtldodfdbaonmkaaDoor
open Go.RowKit

theorem known_yes (k : Nat) (w : World) (hk : k = 1 ∨ k = 2) :
    Calls Tryd.prog 16 #[.int .i64 (k : Int)] w fun e w' => e = .returned (.bool true) ∧ w = w' := by
  rcases hk with rfl | rfl
  all_goals
    go_enter Tryd.func16, Tryd.ntmps16
    go_wp2
    go_ret
    exact ⟨rfl, rfl⟩
theorem known_no (z : Int) (w : World) (h1 : (z == 1) = false) (h2 : (z == 2) = false) :
    Calls Tryd.prog 16 #[.int .i64 z] w fun e w' => e = .returned (.bool false) ∧ w = w' := by
  go_enter Tryd.func16, Tryd.ntmps16
  go_wp2
  go_ret
  exact ⟨rfl, rfl⟩

set_option maxRecDepth 20000 in
theorem rises_any (s : KS) (t : Int) (v : Nat) (w : World) :
    Calls Tryd.prog 17 #[(.agg #[.int .i64 (s.n : Int), .int .i64 s.t, .int .i64 s.d, .int .u64 (s.v : Int), .int .u64 (s.e : Int), .int .u64 (s.x.prev : Int), .int .i64 (s.x.lead : Int), .int .i64 (s.x.len : Int)]), (.agg #[.int .i64 t, .int .u64 (v : Int)])] w fun e w' => e = .returned (.bool (risesK s t)) ∧ Below w.heap.size w w' := by
  have hb := ((Below.refl w.heap.size w).alloc (Nat.le_refl _) (.cells #[.int .i64 (s.n : Int), .int .i64 s.t, .int .i64 s.d, .int .u64 (s.v : Int), .int .u64 (s.e : Int), .int .u64 (s.x.prev : Int), .int .i64 (s.x.lead : Int), .int .i64 (s.x.len : Int)] 45)).alloc (by simp) (.cells #[.int .i64 t, .int .u64 (v : Int)] 38)
  by_cases h0 : s.n = 0
  · have e : risesK s t = true := by unfold risesK; simp [h0]
    have h1 : ((s.n : Int) == 0) = true := by simp [h0]
    rw [e]
    clear h0
    go_enter Tryd.func17, Tryd.ntmps17
    go_wp2
    go_ret
    exact ⟨rfl, hb⟩
  · have h1 : ((s.n : Int) == 0) = false := by simp [h0]
    have e : risesK s t = decide (s.t < t) := by unfold risesK; simp [h0]
    rw [e]
    clear h0
    by_cases h2 : s.t < t
    all_goals
      go_enter Tryd.func17, Tryd.ntmps17
      go_wp2
      go_ret
      exact ⟨by simp [h2], hb⟩

theorem word_any (v : Nat) (w : World) :
    Calls Tryd.prog 26 #[.int .u64 (v : Int)] w (RetBits w (low v 64)) := by
  have hb0 : Below w.heap.size w (w.alloc (.cells #[.slice none 0 0, .int .i64 0] 41)) := (Below.refl _ _).alloc (Nat.le_refl _) _
  go_enter Tryd.func26, Tryd.ntmps26
  go_wp2_with fail
  refine (put_yes none 0 0 [] v 64 _ Rd.nil_ (by simp) (by omega)).mono ?_
  rw [List.nil_append]
  rintro e w1 ⟨A1, c1, rfl, hown⟩
  have HL : Hid ((low v 64).length = 64) := Lib.hid (low_length _ _)
  generalize low v 64 = p at *
  rw [HL.out]
  have hx := (BoxAt.new w (.slice none 0 0) (.int .i64 0) 41).below hown.bel
  have hl : w.heap.size < (w.alloc (.cells #[.slice none 0 0, .int .i64 0] 41)).heap.size := by simp
  obtain ⟨xlt, xc0, xc1, xf0, xf1⟩ := hx
  go_wp2
  have hy := (BoxAt.mk xlt xc0 xc1 xf0 xf1).set (.slice A1 (pack p).length c1) (.int .i64 64)
  have h4 := hown.past2 hb0 (p := ⟨w.heap.size, 0, none⟩) (q := ⟨w.heap.size, 1, none⟩) (Nat.le_refl _) hl (Nat.le_refl _) hl (.slice A1 (pack p).length c1) (.int .i64 64)
  have e0 := hy.c0
  have e1 := hy.c1
  refine bodyPost_ret (v := .agg #[.slice A1 (pack p).length c1, .int .i64 64]) ?_ rfl (RetBits.mk h4 HL.out)
  simp [results, Tryd.results26, go_sem, e0, e1]

end Go.Proofs.YtldodfdbaonmkaaDoor
