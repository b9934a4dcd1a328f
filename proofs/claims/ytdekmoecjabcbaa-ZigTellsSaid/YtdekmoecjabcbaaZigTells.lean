/-
  The walk of ZigTells: it returns true.
-/
import Derived.Test.YtdekmoecjabcbaaZig
namespace Go.Proofs.Ytdekmoecjabcbaa
open Go.RowKit

theorem ztells_all (v k : Int) (w : World) (hv : -9223372036854775808 ≤ v ∧ v ≤ 9223372036854775807) (hk : 0 ≤ k ∧ k ≤ 18446744073709551615) :
    Calls Try.prog 3 #[.int .i64 v, .int .u64 k] w (RetTrue w) := by
  go_enter Try.func3, Try.ntmps3
  go_wp2_with (first
    | (go_at_call 5; refine (up4_any _).mono ?_; rintro e w1 ⟨rfl, rfl⟩)
    | (go_at_call 6; refine (zig_any _ _ hv).mono ?_; rintro e w1 ⟨rfl, rfl⟩)
    | (go_at_call 7; refine (rzig_any _ _ hv).mono ?_; rintro e w1 ⟨rfl, rfl⟩)
    | (go_at_call 8; refine (zag_any _ _ hk).mono ?_; rintro e w1 ⟨rfl, rfl⟩)
    | (go_at_call 9; refine (rzag_any _ _ hk).mono ?_; rintro e w1 ⟨rfl, rfl⟩))
  go_ret
  exact ⟨rfl, Below.refl _ _⟩

end Go.Proofs.Ytdekmoecjabcbaa
