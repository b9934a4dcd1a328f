/-
  The contract of the reference's Number: of up to 64 bits it returns their number, and changes nothing.
-/
import Derived.Test.YtfehlkilnghhiaaDoorMem
namespace Go.Proofs.YtfehlkilnghhiaaDoor
open Go.RowKit

theorem num_take_succ (p : List Bool) (k : Nat) (h : k < p.length) : num (p.take (k + 1)) = 2 * num (p.take k) + ((enc p).getD k 0) := by
  rw [List.take_succ_eq_append_getElem h, num_snoc, enc_getD]
  simp [List.getD_eq_getElem?_getD, h]
theorem enc_le (p : List Bool) (i : Nat) : (enc p).getD i 0 ≤ 1 := by
  rw [enc_getD]; cases p.getD i false <;> simp
theorem num_take_le (p : List Bool) (k : Nat) (h : k < 64) : num (p.take k) ≤ 9223372036854775807 := by
  have h1 := num_lt (p.take k)
  have h2 : 2 ^ (p.take k).length ≤ 2 ^ 63 := Nat.pow_le_pow_right (by omega) (by rw [List.length_take]; omega)
  omega

set_option maxHeartbeats 400000 in
theorem number_any (A : Option Addr) (n c B : Nat) (p : List Bool) (w : World) (h : Rd w B A n c (enc p)) (hn : n ≤ 64) :
    Calls Tryd.prog 24 #[.slice A n c] w fun e w' => e = .returned (.int .u64 ((num p : Nat) : Int)) ∧ w = w' := by
  have hl : p.length = n := by have := h.len; rwa [enc_length] at this
  have HL := Lib.hid hl
  clear hl
  go_enter Tryd.func24, Tryd.ntmps24
  go_wp2
  go_loop [3, 4] (fun v i => ∃ k : Nat, k ≤ n ∧ i = .int .i64 k ∧ v = .int .u64 ((num (p.take k) : Nat) : Int)) (fun _ i => n - (intOf i).toNat)
  case atStart => exact ⟨0, Nat.zero_le _, rfl, rfl⟩
  case round =>
    obtain ⟨k, hk, rfl, rfl⟩ := hrel
    by_cases hlt : k < n
    · obtain ⟨ad, rfl, hb, hc⟩ := h.at_ hlt
      have h1 := num_take_le p k (by omega)
      have h2 := enc_le p k
      have H3 := Lib.hid (num_take_succ p k (by have := HL.out; omega))
      generalize (enc p).getD k 0 = x at *
      generalize num (p.take k) = y at *
      go_wp2
      go_round
      case rel => exact ⟨k + 1, by omega, by go_num, by rw [H3.out]; go_num⟩
      case measure => simp [intOf]; omega
    · go_wp2
      go_ret
      have e : p.take k = p := List.take_of_length_le (by have := HL.out; omega)
      rw [e]
      exact ⟨rfl, rfl⟩

end Go.Proofs.YtfehlkilnghhiaaDoor
