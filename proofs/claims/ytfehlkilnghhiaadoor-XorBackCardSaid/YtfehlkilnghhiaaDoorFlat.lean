/-
  The contract of the reference's Flat: of any bytes it returns all their bits, in new memory.
-/
import Derived.Test.YtfehlkilnghhiaaDoorMem
namespace Go.Proofs.YtfehlkilnghhiaaDoor
open Go.RowKit

def sh (b j : Nat) : Nat := b * 2 ^ j % 256
theorem sh_lt (b j : Nat) : sh b j ≤ 255 := by unfold sh; omega
theorem sh_zero (b : Nat) (h : b < 256) : sh b 0 = b := by unfold sh; omega
theorem sh_succ (b j : Nat) : sh b j * 2 % 256 = sh b (j + 1) := by
  unfold sh
  rw [Nat.pow_succ, ← Nat.mul_assoc, Nat.mod_mul_mod]
theorem sh_top (b j : Nat) (h : b < 256) (hj : j < 8) : sh b j / 128 = (b.testBit (7 - j)).toNat := by
  unfold sh
  rw [Nat.toNat_testBit]
  rcases (by omega : j = 0 ∨ j = 1 ∨ j = 2 ∨ j = 3 ∨ j = 4 ∨ j = 5 ∨ j = 6 ∨ j = 7) with rfl | rfl | rfl | rfl | rfl | rfl | rfl | rfl <;> simp <;> omega
theorem flat_step (bs : List Nat) (hb : ∀ x ∈ bs, x < 256) (k j : Nat) (hk : k < bs.length) (hj : j < 8) :
    enc ((flat bs).take (8 * k + j)) ++ [sh (bs.getD k 0) j / 128] = enc ((flat bs).take (8 * k + (j + 1))) := by
  have h1 : 8 * k + j < (flat bs).length := by rw [flat_length]; omega
  have e1 : 8 * k + (j + 1) = 8 * k + j + 1 := by omega
  rw [e1, List.take_succ_eq_append_getElem h1, enc_app, sh_top _ _ (getD_lt hb k) hj]
  have e2 : (flat bs)[8 * k + j] = bit bs (8 * k + j) := by
    rw [← flat_getD]
    simp [List.getD_eq_getElem?_getD, h1]
  rw [e2]
  unfold bit
  have e3 : (8 * k + j) / 8 = k := by omega
  have e4 : 7 - (8 * k + j) % 8 = 7 - j := by omega
  rw [e3, e4]
  rfl
theorem flat_len (bs : List Nat) (m : Nat) (h : m ≤ 8 * bs.length) : (enc ((flat bs).take m)).length = m := by
  rw [enc_length, List.length_take, flat_length]; omega

set_option maxHeartbeats 400000 in
theorem flat_any (A : Option Addr) (n c : Nat) (bs : List Nat) (w : World) (h : Rd w w.heap.size A n c bs) (hb : ∀ x ∈ bs, x < 256) (hn : n ≤ 100000) :
    Calls Tryd.prog 17 #[.slice A n c] w (RetB w (enc (flat bs))) := by
  have HL := Lib.hid h.len
  have HB := Lib.hid hb
  clear hb
  go_enter Tryd.func17, Tryd.ntmps17
  go_wp2
  go_loopw [3, 4] (fun v i wr => ∃ k : Nat, k ≤ n ∧ i = .int .i64 k ∧ Own w wr v (enc ((flat bs).take (8 * k)))) (fun _ i _ => n - (intOf i).toNat)
  case atStart => exact ⟨0, Nat.zero_le _, rfl, Own.nil_ _ _ (Below.refl _ _)⟩
  case round =>
    obtain ⟨k, hk, rfl, hown⟩ := hrel
    by_cases hlt : k < n
    · obtain ⟨ad, rfl, hbl, hc⟩ := (h.below hown.bel).at_ hlt
      have h2 := getD_lt HB.out k
      have H3 := Lib.hid (fun j hj => flat_step bs HB.out k j (by have := HL.out; omega) hj)
      have H5 := Lib.hid (fun j (hj : j ≤ 8) => flat_len bs (8 * k + j) (by have := HL.out; omega))
      generalize bs.getD k 0 = x at *
      go_wp2
      go_loopw [3, 5, 6] (fun v cc jj wr => ∃ j : Nat, j ≤ 8 ∧ jj = .int .i64 j ∧ cc = .int .u8 ((sh x j : Nat) : Int) ∧ Own w wr v (enc ((flat bs).take (8 * k + j)))) (fun _ _ jj _ => 8 - (intOf jj).toNat)
      case atStart => exact ⟨0, by omega, rfl, by rw [sh_zero _ h2], hown⟩
      case round =>
        obtain ⟨j, hj, rfl, rfl, hown2⟩ := hrel
        have h6 := sh_lt x j
        by_cases hjlt : j < 8
        · have H4 := Lib.hid (H3.out j hjlt)
          have H6 := Lib.hid (H5.out j hj)
          have H7 := Lib.hid (sh_succ x j)
          go_wp2_with (at_builtin; (refine wpList_app rfl (.tmp 21) (.tmp 24) rfl rfl rfl (hown2.alloc _) (Rd.one _ _) (by rw [H6.out]; omega) ?_; intro v' w' hown3))
          go_roundw
          case rel =>
            refine ⟨j + 1, by omega, by go_num, ?_, ?_⟩
            · rw [← H7.out]; go_num
            · rw [← H4.out]; exact hown3
          case measure => simp [intOf]; omega
        · have e8 : 8 * k + j = 8 * (k + 1) := by omega
          rw [e8] at hown2
          go_wp2
          go_roundw
          case rel => exact ⟨k + 1, by omega, by go_num, hown2⟩
          case measure => simp [intOf]; omega
    · go_wp2
      go_ret
      have e : (flat bs).take (8 * k) = flat bs := List.take_of_length_le (by rw [flat_length]; have := HL.out; omega)
      rw [e] at hown
      exact RetB.mk hown

end Go.Proofs.YtfehlkilnghhiaaDoor
