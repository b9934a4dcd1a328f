/-
  The contracts of layer 4's Zig and Zag, of the reference's, and of the example at the head of the laws.
-/
import Derived.Test.YtdekmoecjabcbaaLaw0
import Derived.Deep.QuietTactic
import Derived.BigQuiet
namespace Go.Proofs.Ytdekmoecjabcbaa
open Go.RowKit

/-- a number's place -/
def zigV (v : Int) : Int := if 0 ≤ v then 2 * v else -2 * v - 1
/-- the number of a place -/
def zagV (k : Int) : Int := if k % 2 = 0 then k / 2 else -(k / 2) - 1

theorem zigV_in {v : Int} (h : -9223372036854775808 ≤ v ∧ v ≤ 9223372036854775807) : 0 ≤ zigV v ∧ zigV v ≤ 18446744073709551615 := by
  unfold zigV; split <;> omega
theorem zagV_in {k : Int} (h : 0 ≤ k ∧ k ≤ 18446744073709551615) : -9223372036854775808 ≤ zagV k ∧ zagV k ≤ 9223372036854775807 := by
  unfold zagV; split <;> omega
theorem zag_zigV (v : Int) : zagV (zigV v) = v := by
  unfold zigV zagV; split <;> split <;> omega
theorem zig_zagV {k : Int} (h : 0 ≤ k) : zigV (zagV k) = k := by
  unfold zigV zagV; split <;> split <;> omega

/-- what a function that only computes comes to -/
def Only (r : Value) (w : World) (e : Ending) (w' : World) : Prop := e = .returned r ∧ w' = w

theorem zig_any (v : Int) (w : World) (h : -9223372036854775808 ≤ v ∧ v ≤ 9223372036854775807) :
    Calls Try.prog 6 #[.int .i64 v] w (Only (.int .u64 (zigV v)) w) := by
  go_enter Try.func6, Try.ntmps6
  by_cases h0 : 0 ≤ v
  · go_wp2
    go_ret
    refine ⟨?_, rfl⟩
    rw [zigV, if_pos h0]
    rfl
  · go_wp2
    go_ret
    refine ⟨?_, rfl⟩
    rw [zigV, if_neg (by omega), show 2 * -(v + 1) + 1 = -2 * v - 1 by omega]
    rfl
theorem rzig_any (v : Int) (w : World) (h : -9223372036854775808 ≤ v ∧ v ≤ 9223372036854775807) :
    Calls Try.prog 7 #[.int .i64 v] w (Only (.int .u64 (zigV v)) w) := by
  go_enter Try.func7, Try.ntmps7
  by_cases h0 : 0 ≤ v
  · go_wp2
    go_ret
    refine ⟨?_, rfl⟩
    rw [zigV, if_pos h0]
    rfl
  · go_wp2
    go_ret
    refine ⟨?_, rfl⟩
    rw [zigV, if_neg (by omega), show 2 * -(v + 1) + 1 = -2 * v - 1 by omega]
    rfl

theorem zag_any (k : Int) (w : World) (h : 0 ≤ k ∧ k ≤ 18446744073709551615) :
    Calls Try.prog 8 #[.int .u64 k] w (Only (.int .i64 (zagV k)) w) := by
  go_enter Try.func8, Try.ntmps8
  by_cases h0 : k % 2 = 0
  · go_wp2
    go_ret
    refine ⟨?_, rfl⟩
    rw [zagV, if_pos h0]
    rfl
  · go_wp2
    go_ret
    refine ⟨?_, rfl⟩
    rw [zagV, if_neg h0]
    rfl
theorem rzag_any (k : Int) (w : World) (h : 0 ≤ k ∧ k ≤ 18446744073709551615) :
    Calls Try.prog 9 #[.int .u64 k] w (Only (.int .i64 (zagV k)) w) := by
  go_enter Try.func9, Try.ntmps9
  by_cases h0 : k % 2 = 0
  · go_wp2
    go_ret
    refine ⟨?_, rfl⟩
    rw [zagV, if_pos h0]
    rfl
  · go_wp2
    go_ret
    refine ⟨?_, rfl⟩
    rw [zagV, if_neg h0]
    rfl

theorem up4_any (w : World) : Calls Try.prog 5 #[] w (Only (.bool true) w) := by
  go_enter Try.func5, Try.ntmps5
  have e1 : zigV (-1) = 1 := by decide
  have e2 : zigV 1 = 2 := by decide
  have e3 : zagV 3 = -2 := by decide
  go_wp2_with (first
    | (go_at_call 6; refine (zig_any _ _ (by omega)).mono ?_; rintro e w1 ⟨rfl, rfl⟩; simp only [e1, e2])
    | (go_at_call 8; refine (zag_any _ _ (by omega)).mono ?_; rintro e w1 ⟨rfl, rfl⟩; simp only [e3]))
  go_ret
  exact ⟨rfl, rfl⟩

end Go.Proofs.Ytdekmoecjabcbaa
