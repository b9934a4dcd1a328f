/-
  The contract of the example at the head of the laws of layer 1: it holds.
-/
import Derived.Test.YtanikfgagdncaaaPut
import Derived.Test.YtanikfgagdncaaaTake
namespace Go.Proofs.Ytanikfgagdncaaa
open Go.RowKit

theorem up_pack : pack ([] ++ low 5 3) = [160] := by decide +kernel
theorem up_len : ([] ++ low 5 3).length = 3 := by decide +kernel
theorem up_take : takeB [160] 0 3 = true ∧ takeN [160] 0 3 = 5 := by
  have h := takeB_yes (bs := [160]) (a := 0) (n := 3) (by omega) (by simp)
  refine ⟨h.1, h.2.trans ?_⟩
  decide +kernel

theorem up_put (w : World) : Calls Try.prog 12 #[.agg #[.slice none 0 0, .int .i64 0], .int .u64 5, .int .i64 3] w fun e w' => ∃ A c, e = .returned (.agg #[.slice A 1 c, .int .i64 3]) ∧ Own w w' (.slice A 1 c) [160] := by
  refine (put_yes none 0 0 [] 5 3 w (Rd.nil_ (w := w)) (by simp) (by omega)).mono ?_
  rintro e w' ⟨A, c, he, hown⟩
  rw [up_pack] at he hown
  rw [up_len] at he
  exact ⟨A, c, he, hown⟩
theorem up_got (W : World) : Calls Try.prog 9 #[.slice (some ⟨W.heap.size, 0, none⟩) 1 1, .int .i64 0, .int .i64 3] (W.alloc (.cells #[.int .u8 160] 5)) fun e w' => e = .returned (.tuple #[.int .u64 5, .bool true]) ∧ (W.alloc (.cells #[.int .u8 160] 5)) = w' := by
  refine (take_yes _ 1 1 _ [160] 0 3 _ (Rd.one W 160) (by simp) (by omega) (by omega) (by omega)).mono ?_
  rintro e w' ⟨he, hw⟩
  have h := up_take
  refine ⟨?_, hw⟩
  rw [he]
  simp only [Int.natCast_zero, show ((3 : Nat) : Int) = 3 from rfl, h.1, h.2]
  rfl

theorem up_got' (w : World) (o : Obj) : Calls Try.prog 9 #[.slice (some ⟨w.heap.size + 1, 0, none⟩) 1 1, .int .i64 0, .int .i64 3] ((w.alloc o).alloc (.cells #[.int .u8 160] 5)) fun e w' => e = .returned (.tuple #[.int .u64 5, .bool true]) ∧ ((w.alloc o).alloc (.cells #[.int .u8 160] 5)) = w' := by
  have := up_got (w.alloc o)
  simpa using this
theorem up_str (w : World) (x y : Obj) : (convert 22 9 (.slice (some ⟨w.heap.size + 1 + 1, 0, none⟩) 1 1)).run Try.prog (((w.alloc x).alloc y).alloc (.cells #[.int .u8 160] 5)) = .ok (.string (strB [160])) (((w.alloc x).alloc y).alloc (.cells #[.int .u8 160] 5)) := by
  have := run_str (Rd.one ((w.alloc x).alloc y) 160)
  simpa using this

set_option maxHeartbeats 400000 in
theorem up_any (w : World) : Calls Try.prog 5 #[] w fun e w' => e = .returned (.bool true) ∧ Below w.heap.size w w' := by
  go_enter Try.func5, Try.ntmps5
  go_wp2_with (first
    | (go_at_call 12; refine (up_put _).mono ?_; rintro e w1 ⟨A, c, rfl, hown⟩; have hb1 := hown.bel; have hq1 := run_str ((hown.alloc (.cells #[.slice A 1 c, .int .i64 3] 26)).alloc (.cells #[.int .u8 160] 5)).rd; have hq2 := up_str w1 (.cells #[.slice A 1 c, .int .i64 3] 26) (.cells #[.int .u8 160] 5); clear hown)
    | (go_at_call 9; refine (up_got' _ _).mono ?_; rintro e w2 ⟨rfl, rfl⟩))
  go_ret
  refine ⟨rfl, ((hb1.alloc hb1.size _).alloc ?_ _).alloc ?_ _⟩
  · have := hb1.size; simp; omega
  · have := hb1.size; simp; omega

end Go.Proofs.Ytanikfgagdncaaa
