/-
  The contract of the example at the head of the laws of layer 13: it holds.
-/
import Derived.Test.YtafchjedpkkbkaaCrc
import Derived.Lib.SmallJoins
namespace Go.Proofs.Ytafchjedpkkbkaa
open Go.RowKit

/-- nine bytes that are written out -/
def nineV : Array Value := #[.int .u8 49, .int .u8 50, .int .u8 51, .int .u8 52, .int .u8 53, .int .u8 54, .int .u8 55, .int .u8 56, .int .u8 57]
theorem up13_rd (w : World) : Rd (w.alloc (.cells nineV 5 (9, 10))) (w.heap.size + 1) (some ⟨w.heap.size, 0, none⟩) 9 9 [49, 50, 51, 52, 53, 54, 55, 56, 57] := by
  refine ⟨rfl, Nat.le_refl _, (fun h => by cases h), fun _ => ⟨_, rfl, by simp, fun j hj => ?_⟩⟩
  rw [show ((⟨w.heap.size, 0, none⟩ : Addr).add j) = ⟨w.heap.size, j, none⟩ by simp [Addr.add]; intro h; rw [h], World.cell?_alloc_mark w nineV _ _ j]
  rcases (by omega : j = 0 ∨ j = 1 ∨ j = 2 ∨ j = 3 ∨ j = 4 ∨ j = 5 ∨ j = 6 ∨ j = 7 ∨ j = 8) with rfl | rfl | rfl | rfl | rfl | rfl | rfl | rfl | rfl <;> rfl
theorem up13_sum (w : World) : Calls Try.prog 6 #[.slice (some ⟨w.heap.size, 0, none⟩) 9 9] (w.alloc (.cells nineV 5 (9, 10))) fun e w' => e = .returned (.int .u32 3421780262) ∧ (w.alloc (.cells nineV 5 (9, 10))) = w' := by
  have := sum_any _ _ _ _ _ _ (up13_rd w) (by decide) (by omega)
  rwa [crcS_one] at this
theorem up13_nil (w : World) : Calls Try.prog 6 #[.slice none 0 0] w fun e w' => e = .returned (.int .u32 0) ∧ w = w' := by
  have := sum_any none 0 0 0 [] w Rd.nil_ (by simp) (by omega)
  rwa [crcS_nil] at this

theorem up13_conv (w : World) : (convert 22 22 (.slice (some ⟨w.heap.size, 0, none⟩) 9 9)).run Try.prog (w.alloc (.cells nineV 5)) = .ok (.slice (some ⟨w.heap.size, 0, none⟩) 9 9) (w.alloc (.cells nineV 5 (9, 10))) :=
  Lib.run_convert_bytes_const (P := Try.prog) w 22 5 nineV 9 9 Try.underlying22 Try.underlying5

set_option maxRecDepth 20000 in
set_option maxHeartbeats 400000 in
theorem up13_any (w : World) : Calls Try.prog 5 #[] w fun e w' => e = .returned (.bool true) ∧ Below w.heap.size w w' := by
  have h1 := up13_sum w
  have h2 := up13_conv w
  unfold nineV at h1 h2
  go_enter Try.func5, Try.ntmps5
  go_wp2_with fail
  refine h1.mono ?_
  rintro e w1 ⟨rfl, rfl⟩
  go_wp2_with fail
  refine (up13_nil _).mono ?_
  rintro e w1 ⟨rfl, rfl⟩
  go_wp2
  go_ret
  exact ⟨rfl, (Below.refl _ _).alloc (Nat.le_refl _) _⟩

end Go.Proofs.Ytafchjedpkkbkaa
