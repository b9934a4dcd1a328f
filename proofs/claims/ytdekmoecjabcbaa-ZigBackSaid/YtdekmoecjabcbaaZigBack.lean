/-
  The walk of ZigBack: it returns true.
-/
import Derived.Test.YtdekmoecjabcbaaZig
namespace Go.Proofs.Ytdekmoecjabcbaa
open Go.RowKit

theorem zig_odd (v : Int) : (!(zigV v % 2 == 1) == decide (v < 0)) = false := by
  unfold zigV
  by_cases h : 0 ≤ v
  · rw [if_pos h]
    have e : 2 * v % 2 = 0 := by omega
    simp [e, h]
  · rw [if_neg h]
    have e : (-2 * v - 1) % 2 = 1 := by omega
    have h' : v < 0 := by omega
    simp [e, h']
theorem zig_low {v : Int} (h : 0 < v) : zigV (v - 1) < zigV v ∧ zigV (-v) < zigV v := by
  unfold zigV
  rw [if_pos (by omega), if_pos (by omega), if_neg (by omega)]
  omega

theorem zback_all (v k : Int) (w : World) (hv : -9223372036854775808 ≤ v ∧ v ≤ 9223372036854775807) (hk : 0 ≤ k ∧ k ≤ 18446744073709551615) :
    Calls Try.prog 4 #[.int .i64 v, .int .u64 k] w (RetTrue w) := by
  have e1 := zag_zigV v
  have e2 := zig_zagV hk.1
  have h1 := zigV_in hv
  have h2 := zagV_in hk
  go_enter Try.func4, Try.ntmps4
  go_wp2_with (first
    | (go_at_call 5; refine (up4_any _).mono ?_; rintro e w1 ⟨rfl, rfl⟩)
    | (go_at_call 6; refine (zig_any _ _ (by omega)).mono ?_; rintro e w1 ⟨rfl, rfl⟩; (try simp only [e2]))
    | (go_at_call 8; refine (zag_any _ _ (by omega)).mono ?_; rintro e w1 ⟨rfl, rfl⟩; (try simp only [e1])))
  · rename_i hx
    rw [zig_odd] at hx
    cases hx
  · have hl := zig_low (v := v) (by omega)
    go_ret
    refine ⟨congrArg Ending.returned (congrArg Value.bool ?_), Below.refl _ _⟩
    simp [hl.2]
  · have hl := zig_low (v := v) (by omega)
    omega
  · go_ret
    exact ⟨rfl, Below.refl _ _⟩

end Go.Proofs.Ytdekmoecjabcbaa
