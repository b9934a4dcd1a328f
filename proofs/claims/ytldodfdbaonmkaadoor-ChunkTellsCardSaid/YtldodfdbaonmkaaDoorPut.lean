/-
  The contract of the program's Put: bits, and the n lowest bits of a number behind them, in new memory.
-/
import Derived.Test.YtldodfdbaonmkaaDoorJoin
import Derived.Deep.RegionWith
namespace Go.Proofs.YtldodfdbaonmkaaDoor
open Go.RowKit

/-- the world behind a box and the result's place -/
def boxed1 (w : World) (a b : Value) : World := (w.alloc (.cells #[a, b] 41)).alloc (.cells #[.slice none 0 0, .int .i64 0] 41)
theorem boxed1_size (w : World) (a b : Value) : (boxed1 w a b).heap.size = w.heap.size + 2 := by simp [boxed1]
theorem boxed1_below (w : World) (a b : Value) : Below w.heap.size w (boxed1 w a b) := ((Below.refl _ _).alloc (Nat.le_refl _) _).alloc (by simp) _
theorem boxed1_heap (w : World) (a b : Value) : (boxed1 w a b).heap[w.heap.size]? = some (.cells #[a, b] 41 (0, 0)) ∧
    (boxed1 w a b).heap[w.heap.size + 1]? = some (.cells #[.slice none 0 0, .int .i64 0] 41 (0, 0)) := by
  unfold boxed1
  refine ⟨?_, ?_⟩
  · rw [Below.heap_alloc _ _ _ (by simp)]
    exact heap_alloc_new w _
  · have := heap_alloc_new (w.alloc (.cells #[a, b] 41)) (.cells #[.slice none 0 0, .int .i64 0] 41)
    simpa using this
theorem boxed1_cells {w wx : World} {a b : Value} (h : Below (boxed1 w a b).heap.size (boxed1 w a b) wx) :
    (wx.cell? ⟨w.heap.size, 0, none⟩ = some a ∧ wx.cell? ⟨w.heap.size, 1, none⟩ = some b) ∧
    (wx.cell? ⟨w.heap.size + 1, 0, none⟩ = some (.slice none 0 0) ∧ wx.cell? ⟨w.heap.size + 1, 1, none⟩ = some (.int .i64 0)) ∧ wx.frozen? ⟨w.heap.size + 1, 0, none⟩ = false ∧ wx.frozen? ⟨w.heap.size + 1, 1, none⟩ = false := by
  have hs := boxed1_size w a b
  obtain ⟨e0, e1⟩ := boxed1_heap w a b
  rw [← h.block _ (by rw [hs]; omega)] at e0 e1
  exact ⟨⟨cell_of_row _ _ _ _ _ _ e0, cell_of_row _ _ _ _ _ _ e0⟩, ⟨cell_of_row _ _ _ _ _ _ e1, cell_of_row _ _ _ _ _ _ e1⟩, frozen_of_row _ _ _ _ _ e1, frozen_of_row _ _ _ _ _ e1⟩
set_option maxRecDepth 20000 in
set_option maxHeartbeats 400000 in
theorem put_yes (A : Option Addr) (m c : Nat) (p : List Bool) (v n : Nat) (w : World) (h1 : Rd w w.heap.size A m c (pack p)) (hp : p.length ≤ 1000000) (hn : n ≤ 64) :
    Calls Tryd.prog 32 #[.agg #[.slice A m c, .int .i64 ((p.length : Nat) : Int)], .int .u64 (v : Int), .int .i64 (n : Int)] w (RetBits w (p ++ low v n)) := by
  go_enter Tryd.func32, Tryd.ntmps32
  go_wp2
  go_region_with (first
    | (go_at_call 39; refine (lowest_any v n _ hn).mono ?_; rintro e w1 ⟨A2, c2, rfl, hown⟩; have hb1 : Below (boxed1 w (.slice A m c) (.int .i64 ((p.length : Nat) : Int))).heap.size (boxed1 w (.slice A m c) (.int .i64 ((p.length : Nat) : Int))) w1 := below_like hown.bel rfl rfl rfl rfl; have hw1 : Below w.heap.size w w1 := (boxed1_below w _ _).trans (hb1.mono (by rw [boxed1_size]; omega)); obtain ⟨⟨cx0, cx1⟩, _⟩ := boxed1_cells hb1)
    | (go_at_call 13; refine (join_any _ _ _ _ _ _ p (low v n) _ ((h1.below hw1).more hw1.size) hown.rd (by omega) (by rw [low_length]; omega)).mono ?_; rintro e w3 ⟨A3, c3, rfl, hown3⟩; obtain ⟨_, ⟨cr0, cr1⟩, fr0, fr1⟩ := boxed1_cells (hb1.trans (hown3.bel.mono hb1.size))))
  all_goals go_wp2
  all_goals
    have e : ((p.length : Nat) : Int) + (((low v n).length : Nat) : Int) = (((p ++ low v n).length : Nat) : Int) := by simp
    rw [e]
    refine bodyPost_ret (v := .agg #[.slice A3 (pack (p ++ low v n)).length c3, .int .i64 (((p ++ low v n).length : Nat) : Int)]) ?_ rfl ?_
    · simp [results, Tryd.results32, go_sem, cr0, cr1]
    · exact RetBits.mk (hown3.past2 hw1 (by simp) (by have := hb1.size; rw [boxed1_size] at this; exact this) (by simp) (by have := hb1.size; rw [boxed1_size] at this; exact this) _ _) rfl

set_option maxRecDepth 20000 in
set_option maxHeartbeats 400000 in
theorem put_no (A : Option Addr) (m c : Nat) (p : List Bool) (v : Nat) (n : Int) (w : World) (h1 : Rd w w.heap.size A m c (pack p)) (hp : p.length ≤ 1000000) (hn : n < 0 ∨ (0 ≤ n ∧ 64 < n)) :
    Calls Tryd.prog 32 #[.agg #[.slice A m c, .int .i64 ((p.length : Nat) : Int)], .int .u64 (v : Int), .int .i64 n] w (RetBits w p) := by
  have HE : Hid (p ++ low v 0 = p) := Lib.hid (by simp [low])
  rcases hn with hn | hn
  all_goals
    go_enter Tryd.func32, Tryd.ntmps32
    go_wp2
    go_region_with (first
      | (go_at_call 39; refine (lowest_any v 0 _ (by omega)).mono ?_; rintro e w1 ⟨A2, c2, rfl, hown⟩; have hb1 : Below (boxed1 w (.slice A m c) (.int .i64 ((p.length : Nat) : Int))).heap.size (boxed1 w (.slice A m c) (.int .i64 ((p.length : Nat) : Int))) w1 := below_like hown.bel rfl rfl rfl rfl; have hw1 : Below w.heap.size w w1 := (boxed1_below w _ _).trans (hb1.mono (by rw [boxed1_size]; omega)); obtain ⟨⟨cx0, cx1⟩, _⟩ := boxed1_cells hb1)
      | (go_at_call 13; refine (join_any _ _ _ _ _ _ p (low v 0) _ ((h1.below hw1).more hw1.size) hown.rd (by omega) (by rw [low_length]; omega)).mono ?_; rintro e w3 ⟨A3, c3, rfl, hown3⟩; obtain ⟨_, ⟨cr0, cr1⟩, fr0, fr1⟩ := boxed1_cells (hb1.trans (hown3.bel.mono hb1.size))))
    all_goals go_wp2
    all_goals
      have e : ((p.length : Nat) : Int) + (((low v 0).length : Nat) : Int) = (((p ++ low v 0).length : Nat) : Int) := by simp
      rw [e]
      rw [HE.out] at hown3 ⊢
      refine bodyPost_ret (v := .agg #[.slice A3 (pack p).length c3, .int .i64 ((p.length : Nat) : Int)]) ?_ rfl ?_
      · simp [results, Tryd.results32, go_sem, cr0, cr1]
      · exact RetBits.mk (hown3.past2 hw1 (by simp) (by have := hb1.size; rw [boxed1_size] at this; exact this) (by simp) (by have := hb1.size; rw [boxed1_size] at this; exact this) _ _) rfl

end Go.Proofs.YtldodfdbaonmkaaDoor
