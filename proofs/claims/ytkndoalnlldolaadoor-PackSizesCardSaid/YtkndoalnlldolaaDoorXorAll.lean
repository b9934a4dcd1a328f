/-
  The contract of layer 7's Code, in any state that may be.
-/
import Derived.Test.YtkndoalnlldolaaDoorXorOld
import Derived.Test.YtkndoalnlldolaaDoorXorNew
namespace Go.Proofs.YtkndoalnlldolaaDoor
open Go.RowKit

theorem xcode_any (p a n v : Nat) (w : World) (hs : XS.May ⟨p, a, n⟩) (hv : v ≤ 18446744073709551615) (hR : TzW w) :
    Calls Tryd.prog 49 #[.agg #[.int .u64 (p : Int), .int .i64 (a : Int), .int .i64 (n : Int)], .int .u64 (v : Int)] w (RetX w (codeX ⟨p, a, n⟩ v) v (nextX ⟨p, a, n⟩ v).lead (nextX ⟨p, a, n⟩ v).len) := by
  have hp : p ≤ 18446744073709551615 := hs.p
  have han : a + n ≤ 64 := hs.b
  unfold codeX nextX nextOf codeOf
  simp only
  by_cases h0 : p ^^^ v = 0
  · rw [if_pos h0, if_pos (.inl h0)]
    have e := xor_zero_eq h0
    have := xcode_same p a n v w hp hv h0
    rw [e] at this ⊢
    exact this
  · rw [if_neg h0]
    by_cases hf : fitsX ⟨p, a, n⟩ (p ^^^ v)
    · rw [if_pos hf, if_pos (.inr hf)]
      exact xcode_old p a n v _ w hp hv han rfl h0 hf hR
    · rw [if_neg hf, if_neg (by simp [h0, hf])]
      exact xcode_new p a n v _ w hp hv han rfl h0 hf hR

end Go.Proofs.YtkndoalnlldolaaDoor
