/-
  The contract of Pick: a number modulo another one, from 0 on; it changes nothing.
-/
import Derived.Test.YtcnhagngcgoiaaaDoorWords
namespace Go.Proofs.YtcnhagngcgoiaaaDoor
open Go.RowKit

theorem tmod_fact (n b : Int) (hb : 0 < b) : (n.tmod b < 0 → n.tmod b + b = n % b) ∧ (0 ≤ n.tmod b → n.tmod b = n % b) ∧ -b < n.tmod b ∧ n.tmod b < b := by
  have h5 : n.tmod b < b := Int.tmod_lt_of_pos n hb
  have h6 : -b < n.tmod b := by
    have := Int.tmod_lt_of_pos (-n) hb
    rw [Int.neg_tmod] at this
    omega
  have h7 : n.tmod b % b = n % b := by
    have h8 := Int.tmod_add_mul_tdiv n b
    conv => rhs; rw [← h8]
    rw [Int.add_mul_emod_self_left]
  refine ⟨fun h => ?_, fun h => ?_, h6, h5⟩
  · rw [← h7, ← Int.add_emod_right, Int.emod_eq_of_lt (by omega) (by omega)]
  · rw [← h7, Int.emod_eq_of_lt h h5]

set_option maxRecDepth 20000 in
set_option maxHeartbeats 400000 in
theorem pick_any (n b : Int) (w : World) (hb : 0 < b) (hb2 : b ≤ 1000000000) :
    Calls Tryd.prog 14 #[.int .i64 n, .int .i64 b] w fun e w' => e = .returned (.int .i64 (n % b)) ∧ w = w' := by
  obtain ⟨h1, h2, h3, h4⟩ := tmod_fact n b hb
  have H1 := Lib.hid h1
  have H2 := Lib.hid h2
  clear h1 h2
  have h0 : ¬ b = 0 := by omega
  go_enter Tryd.func14, Tryd.ntmps14
  go_wp2
  · go_ret
    rw [← H1.out ‹_›]
    exact ⟨rfl, rfl⟩
  · go_ret
    rw [← H2.out ‹_›]
    exact ⟨rfl, rfl⟩

end Go.Proofs.YtcnhagngcgoiaaaDoor
