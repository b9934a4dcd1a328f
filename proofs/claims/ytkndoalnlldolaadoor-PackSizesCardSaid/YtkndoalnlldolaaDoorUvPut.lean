/-
  The contracts of the program's own Put and of the reference's Uvar: a number's bytes, in new memory.
-/
import Derived.Test.YtkndoalnlldolaaDoorWords
import Derived.Test.YtkndoalnlldolaaDoorUv1
namespace Go.Proofs.YtkndoalnlldolaaDoor
open Go.RowKit

theorem or_128 : ∀ r : Fin 256, r.val ||| 128 = r.val % 128 + 128 := by decide +kernel
theorem low_or (x z : Nat) (hz : z = x % 128 + 128) : bits .or .u8 ((x : Int) % 256) 128 = (z : Int) := by
  have e : (x : Int) % 256 = ((x % 256 : Nat) : Int) := by simp
  rw [e, show (128 : Int) = ((128 : Nat) : Int) from rfl, u8_or_nat _ _ (by omega) (by omega), or_128 ⟨x % 256, by omega⟩, hz]
  congr 1
  simp only
  omega

/-- the loop's relation: what is laid, and what is left, are the number's bytes -/
def AtPut (w : World) (v : Nat) (x b : Value) (wr : World) : Prop :=
  ∃ (p : List Nat) (y : Nat), p ++ uvB y = uvB v ∧ y ≤ 18446744073709551615 ∧ x = .int .u64 (y : Int) ∧ Own w wr b p

theorem put_len {p : List Nat} {y v : Nat} (h : p ++ uvB y = uvB v) (hv : v ≤ 18446744073709551615) : p.length ≤ 10 := by
  have := uvB_ten v hv
  rw [← h, List.length_append] at this
  omega

set_option maxRecDepth 20000 in
set_option maxHeartbeats 400000 in
theorem uput_any (v : Nat) (w : World) (hv : v ≤ 18446744073709551615) :
    Calls Tryd.prog 24 #[.int .u64 (v : Int)] w (RetB w (uvB v)) := by
  go_enter Tryd.func24, Tryd.ntmps24
  go_wp2
  go_loopw [0, 3] (fun x b wr => AtPut w v x b wr) (fun x _ _ => (intOf x).toNat)
  case atStart => exact ⟨[], v, rfl, hv, rfl, Own.nil_ _ _ (Below.refl _ _)⟩
  case round =>
    obtain ⟨p, y, he, hy, rfl, hown⟩ := hrel
    have HE := Lib.hid he
    have hp := put_len he hv
    clear he
    by_cases hlt : 127 < y
    · obtain ⟨z, HZ⟩ : ∃ z, Hid (z = y % 128 + 128) := ⟨_, Lib.hid rfl⟩
      have hor := low_or y z HZ.out
      go_wp2_with (at_builtin; (refine wpList_app rfl (.tmp 6) (.tmp 10) rfl rfl rfl (hown.alloc _) (Rd.one _ z) (by omega) ?_; intro v' w' hown3))
      clear hor
      go_roundw
      case rel =>
        refine ⟨p ++ [z], y / 128, ?_, by omega, by go_num, hown3⟩
        rw [← HE.out, uvB_more hlt, ← HZ.out]
        simp
      case measure => simp [intOf]; omega
    · go_wp2_with (at_builtin; (refine wpList_app rfl (.tmp 14) (.tmp 17) rfl rfl rfl (hown.alloc _) (Rd.one _ y) (by omega) ?_; intro v' w' hown3))
      go_ret
      rw [← HE.out, uvB_last hlt]
      exact RetB.mk hown3

set_option maxRecDepth 20000 in
set_option maxHeartbeats 400000 in
theorem refuv_any (v : Nat) (w : World) (hv : v ≤ 18446744073709551615) :
    Calls Tryd.prog 29 #[.int .u64 (v : Int)] w (RetB w (uvB v)) := by
  go_enter Tryd.func29, Tryd.ntmps29
  go_wp2
  go_loopw [0, 3] (fun x b wr => AtPut w v x b wr) (fun x _ _ => (intOf x).toNat)
  case atStart => exact ⟨[], v, rfl, hv, rfl, Own.nil_ _ _ (Below.refl _ _)⟩
  case round =>
    obtain ⟨p, y, he, hy, rfl, hown⟩ := hrel
    have HE := Lib.hid he
    have hp := put_len he hv
    clear he
    by_cases hlt : 127 < y
    · go_wp2_with (at_builtin; (refine wpList_app rfl (.tmp 6) (.tmp 11) rfl rfl rfl (hown.alloc _) (Rd.one _ (y % 128 + 128)) (by omega) ?_; intro v' w' hown3))
      go_roundw
      case rel =>
        refine ⟨p ++ [y % 128 + 128], y / 128, ?_, by omega, by go_num, hown3⟩
        rw [← HE.out, uvB_more hlt]
        simp
      case measure => simp [intOf]; omega
    · go_wp2_with (at_builtin; (refine wpList_app rfl (.tmp 15) (.tmp 18) rfl rfl rfl (hown.alloc _) (Rd.one _ y) (by omega) ?_; intro v' w' hown3))
      go_ret
      rw [← HE.out, uvB_last hlt]
      exact RetB.mk hown3

end Go.Proofs.YtkndoalnlldolaaDoor
