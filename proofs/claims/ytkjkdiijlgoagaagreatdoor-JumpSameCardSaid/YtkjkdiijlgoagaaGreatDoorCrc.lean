/-
  The contracts of the program's eight and Sum: the register behind eight bits, and the sum of bytes; nothing changes.
-/
import Derived.Test.YtkjkdiijlgoagaaGreatDoorWords
import Derived.Test.YtkjkdiijlgoagaaGreatDoorIdxP
import Derived.Laws.BitsAllLaws
namespace Go.Proofs.YtkjkdiijlgoagaaGreatDoor
open Go.RowKit

theorem and_one (y : Nat) (h : y < 4294967296) : bits .and .u32 (y : Int) 1 = ((y % 2 : Nat) : Int) := by
  rw [show (1 : Int) = ((1 : Nat) : Int) from rfl, u32_and_nat _ _ h (by omega), Nat.and_one_is_mod]
theorem xor_crcP (y : Nat) (h : y < 4294967296) : bits .xor .u32 ((y : Int) / 2) 3988292384 = (((y / 2) ^^^ crcP : Nat) : Int) := by
  rw [show (3988292384 : Int) = ((3988292384 : Nat) : Int) from rfl, show (y : Int) / 2 = ((y / 2 : Nat) : Int) by simp, u32_xor_nat _ _ (by omega) (by omega)]
  rfl
theorem not_max (y : Nat) (h : y < 4294967296) : bits .xor .u32 IntKind.u32.max (y : Int) = ((4294967295 - y : Nat) : Int) := by
  rw [show IntKind.u32.max = ((4294967295 : Nat) : Int) from rfl, u32_xor_nat _ _ (by omega) h, not_is h]
theorem out1_odd {y : Nat} (h : y % 2 = 1) : out1 y = (y / 2) ^^^ crcP := by unfold out1; rw [if_pos h]
theorem out1_even {y : Nat} (h : y % 2 = 0) : out1 y = y / 2 := by unfold out1; rw [if_neg (by omega)]

set_option maxRecDepth 20000 in
set_option maxHeartbeats 400000 in
theorem eight_any (r : Nat) (w : World) (h : r < 4294967296) :
    Calls Tryz.prog 79 #[.int .u32 (r : Int)] w fun e w' => e = .returned (.int .u32 ((outN 8 r : Nat) : Int)) ∧ w = w' := by
  go_enter Tryz.func79, Tryz.ntmps79
  go_wp2
  go_loop [0, 4] (fun v i => ∃ k : Nat, k ≤ 8 ∧ i = .int .i64 (k : Int) ∧ v = .int .u32 ((outN k r : Nat) : Int)) (fun _ i => 8 - (intOf i).toNat)
  case atStart => exact ⟨0, by omega, rfl, rfl⟩
  case round =>
    obtain ⟨k, hk, rfl, rfl⟩ := hrel
    by_cases hlt : k < 8
    · have hy := outN_lt k h
      have H3 := Lib.hid (outN_succ k r)
      generalize outN k r = y at *
      have ha := and_one y hy
      have hx := xor_crcP y hy
      rcases Nat.mod_two_eq_zero_or_one y with he | he
      · have HO := Lib.hid (out1_even he)
        rw [he] at ha
        go_wp2
        go_round
        case rel => exact ⟨k + 1, by omega, by go_num, by rw [H3.out, HO.out]; go_num⟩
        case measure => simp [intOf]; omega
      · have HO := Lib.hid (out1_odd he)
        rw [he] at ha
        go_wp2
        go_round
        case rel => exact ⟨k + 1, by omega, by go_num, by rw [H3.out, HO.out]⟩
        case measure => simp [intOf]; omega
    · go_wp2
      go_ret
      have e : k = 8 := by omega
      subst e
      exact ⟨rfl, rfl⟩

theorem crcR_take (bs : List Nat) (r k : Nat) (h : k < bs.length) : crcR r (bs.take (k + 1)) = outN 8 (crcR r (bs.take k) ^^^ bs.getD k 0) := by
  rw [List.take_succ_eq_append_getElem h, crcR_app, crcR_cons, crcR_nil, List.getD_eq_getElem?_getD, List.getElem?_eq_getElem h]
  rfl
theorem byte_at {bs : List Nat} (hb : ∀ x ∈ bs, x < 256) (k : Nat) : bs.getD k 0 < 256 := by
  rcases Nat.lt_or_ge k bs.length with h | h
  · rw [List.getD_eq_getElem?_getD, List.getElem?_eq_getElem h]
    exact hb _ (List.getElem_mem h)
  · rw [List.getD_eq_getElem?_getD, List.getElem?_eq_none h]
    simp

set_option maxRecDepth 20000 in
set_option maxHeartbeats 400000 in
theorem sum_any (A : Option Addr) (n c B : Nat) (bs : List Nat) (w : World) (h : Rd w B A n c bs) (hb : ∀ x ∈ bs, x < 256) (hn : n ≤ 9223372036854775807) :
    Calls Tryz.prog 58 #[.slice A n c] w fun e w' => e = .returned (.int .u32 ((crcS bs : Nat) : Int)) ∧ w = w' := by
  have HL := Lib.hid h.len
  go_enter Tryz.func58, Tryz.ntmps58
  go_wp2
  go_loop [3, 8] (fun v i => ∃ k : Nat, k ≤ n ∧ i = .int .i64 (k : Int) ∧ v = .int .u32 ((crcR 4294967295 (bs.take k) : Nat) : Int)) (fun _ i => n - (intOf i).toNat)
  case atStart => exact ⟨0, by omega, rfl, rfl⟩
  case round =>
    obtain ⟨k, hk, rfl, rfl⟩ := hrel
    by_cases hlt : k < n
    · obtain ⟨ad, rfl, hbb, hc⟩ := h.at_ hlt
      have hy := crcR_lt (bs.take k) (r := 4294967295) (by omega) (fun x hx => hb x (List.mem_of_mem_take hx))
      have hx := byte_at hb k
      have H3 := Lib.hid (crcR_take bs 4294967295 k (by have := HL.out; omega))
      generalize crcR 4294967295 (bs.take k) = y at *
      generalize bs.getD k 0 = x at *
      have hxor := u32_xor_nat y x hy (by omega)
      have hlt2 : y ^^^ x < 4294967296 := Nat.xor_lt_two_pow (n := 32) hy (by omega)
      generalize y ^^^ x = z at *
      go_wp2_with (go_at_call 79; refine (eight_any z w hlt2).mono ?_; rintro e w1 ⟨rfl, rfl⟩)
      go_round
      case rel => exact ⟨k + 1, by omega, by go_num, by rw [H3.out]⟩
      case measure => simp [intOf]; omega
    · have e : bs.take k = bs := List.take_of_length_le (by have := HL.out; omega)
      rw [e]
      have hy := crcR_lt bs (r := 4294967295) (by omega) hb
      have HS : Hid (crcS bs = 4294967295 - crcR 4294967295 bs) := Lib.hid (not_is hy).symm
      generalize crcR 4294967295 bs = y at *
      have HN := Lib.hid (not_max y hy)
      go_wp2
      go_ret
      rw [HS.out, HN.out]
      exact ⟨rfl, rfl⟩

set_option maxRecDepth 20000 in
set_option maxHeartbeats 400000 in
theorem rsum_any (A : Option Addr) (n c B : Nat) (bs : List Nat) (w : World) (h : Rd w B A n c bs) (hb : ∀ x ∈ bs, x < 256) (hn : n ≤ 9223372036854775807) :
    Calls Tryz.prog 51 #[.slice A n c] w fun e w' => e = .returned (.int .u32 ((crcS bs : Nat) : Int)) ∧ w = w' := by
  have HL := Lib.hid h.len
  go_enter Tryz.func51, Tryz.ntmps51
  go_wp2
  go_loop [3, 4] (fun v i => ∃ k : Nat, k ≤ n ∧ i = .int .i64 (k : Int) ∧ v = .int .u32 ((crcR 4294967295 (bs.take k) : Nat) : Int)) (fun _ i => n - (intOf i).toNat)
  case atStart => exact ⟨0, by omega, rfl, rfl⟩
  case round =>
    obtain ⟨k, hk, rfl, rfl⟩ := hrel
    by_cases hlt : k < n
    · obtain ⟨ad, rfl, hbb, hc⟩ := h.at_ hlt
      have hy := crcR_lt (bs.take k) (r := 4294967295) (by omega) (fun x hx => hb x (List.mem_of_mem_take hx))
      have hx := byte_at hb k
      have H3 := Lib.hid (crcR_take bs 4294967295 k (by have := HL.out; omega))
      generalize crcR 4294967295 (bs.take k) = y at *
      generalize bs.getD k 0 = x at *
      have hxor := u32_xor_nat y x hy (by omega)
      have hlt2 : y ^^^ x < 4294967296 := Nat.xor_lt_two_pow (n := 32) hy (by omega)
      generalize y ^^^ x = z at *
      go_wp2
      go_loop [3, 5] (fun v i => ∃ j : Nat, j ≤ 8 ∧ i = .int .i64 (j : Int) ∧ v = .int .u32 ((outN j z : Nat) : Int)) (fun _ i => 8 - (intOf i).toNat)
      case atStart => exact ⟨0, by omega, rfl, rfl⟩
      case round =>
        obtain ⟨j, hj, rfl, rfl⟩ := hrel
        clear hxor
        by_cases hj8 : j < 8
        · have hy2 := outN_lt j hlt2
          have H4 := Lib.hid (outN_succ j z)
          generalize outN j z = y at *
          have hxx := xor_crcP y hy2
          rcases Nat.mod_two_eq_zero_or_one y with he | he
          · have HO := Lib.hid (out1_even he)
            go_wp2
            go_round
            case rel => exact ⟨j + 1, by omega, by go_num, by rw [H4.out, HO.out]; go_num⟩
            case measure => simp [intOf]; omega
          · have HO := Lib.hid (out1_odd he)
            go_wp2
            go_round
            case rel => exact ⟨j + 1, by omega, by go_num, by rw [H4.out, HO.out]⟩
            case measure => simp [intOf]; omega
        · have e : j = 8 := by omega
          subst e
          go_wp2
          go_round
          case rel => exact ⟨k + 1, by omega, by go_num, by rw [H3.out]⟩
          case measure => simp [intOf]; omega
    · have e : bs.take k = bs := List.take_of_length_le (by have := HL.out; omega)
      rw [e]
      have hy := crcR_lt bs (r := 4294967295) (by omega) hb
      have HS : Hid (crcS bs = 4294967295 - crcR 4294967295 bs) := Lib.hid (not_is hy).symm
      generalize crcR 4294967295 bs = y at *
      go_wp2
      go_ret
      rw [HS.out]
      exact ⟨by go_num, rfl⟩

end Go.Proofs.YtkjkdiijlgoagaaGreatDoor
