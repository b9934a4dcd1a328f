/-
  The contracts of the program's size and lowest: the bytes that bits need; the n lowest bits of a number as bits.
-/
import Derived.Test.YtldodfdbaonmkaaDoorMem
namespace Go.Proofs.YtldodfdbaonmkaaDoor
open Go.RowKit

theorem size_any (n : Nat) (w : World) (hn : n ≤ 100000000) :
    Calls Tryd.prog 21 #[.int .i64 (n : Int)] w fun e w' => e = .returned (.int .i64 (((n + 7) / 8 : Nat) : Int)) ∧ w = w' := by
  go_enter Tryd.func21, Tryd.ntmps21
  go_wp2
  go_ret
  exact ⟨rfl, rfl⟩

/-- what a function that makes bits comes to -/
def RetBits (w : World) (p : List Bool) (e : Ending) (w' : World) : Prop :=
  ∃ A c, e = .returned (.agg #[.slice A (pack p).length c, .int .i64 ((p.length : Nat) : Int)]) ∧ Own w w' (.slice A (pack p).length c) (pack p)

theorem RetBits.mk {w w' : World} {A : Option Addr} {m n c : Nat} {p : List Bool} (h : Own w w' (.slice A m c) (pack p)) (hn : p.length = n) : RetBits w p (.returned (.agg #[.slice A m c, .int .i64 (n : Int)])) w' := by
  have hl := h.rd.len
  subst hl hn
  exact ⟨A, c, rfl, h⟩

/-- the i-th byte of a number of 64 bits -/
def byteOf64 (V i : Nat) : Nat := V / 2 ^ (56 - 8 * i) % 256
def bytesTo (V m k : Nat) : List Nat := (List.range m).map fun i => if i < k then byteOf64 V i else 0
theorem bytesTo_zero (V m : Nat) : List.replicate m 0 = bytesTo V m 0 := by
  apply getD_extN (by simp [bytesTo])
  intro i hi
  have hi' : i < m := by simpa using hi
  simp [bytesTo, List.getD_eq_getElem?_getD, hi']
theorem bytesTo_succ (V m k : Nat) : (bytesTo V m k).set k (byteOf64 V k) = bytesTo V m (k + 1) := by
  apply getD_extN (by simp [bytesTo])
  intro i hi
  have hi' : i < m := by simpa [bytesTo] using hi
  by_cases e : k = i
  · subst e
    simp [bytesTo, List.getD_eq_getElem?_getD, hi']
  · have e3 : (i < k + 1) ↔ (i < k) := by omega
    simp [bytesTo, List.getD_eq_getElem?_getD, hi', e, e3]
theorem bytesTo_all (v n : Nat) (hn : n ≤ 64) : bytesTo (v * 2 ^ (64 - n) % 2 ^ 64) ((n + 7) / 8) ((n + 7) / 8) = pack (low v n) := by
  apply eq_pack
  · intro x hx
    simp only [bytesTo, List.mem_map, List.mem_range] at hx
    obtain ⟨i, hi, rfl⟩ := hx
    rw [if_pos hi]
    unfold byteOf64
    omega
  · simp [bytesTo, low_length]
  · intro i hi
    simp only [bytesTo, List.length_map, List.length_range] at hi
    have h8 : i / 8 < (n + 7) / 8 := by omega
    have e : (bytesTo (v * 2 ^ (64 - n) % 2 ^ 64) ((n + 7) / 8) ((n + 7) / 8)).getD (i / 8) 0 = byteOf64 (v * 2 ^ (64 - n) % 2 ^ 64) (i / 8) := by
      simp [bytesTo, List.getD_eq_getElem?_getD, h8]
    unfold bit
    rw [e]
    unfold byteOf64
    rw [show (256 : Nat) = 2 ^ 8 from rfl, Nat.testBit_mod_two_pow, Nat.testBit_div_two_pow, Nat.testBit_mod_two_pow, Nat.mul_comm v, Nat.testBit_two_pow_mul]
    have h7 : 7 - i % 8 < 8 := by omega
    have h64 : 7 - i % 8 + (56 - 8 * (i / 8)) < 64 := by omega
    by_cases h : i < n
    · rw [low_getD _ _ _ h]
      have h1 : 64 - n ≤ 7 - i % 8 + (56 - 8 * (i / 8)) := by omega
      have h2 : 7 - i % 8 + (56 - 8 * (i / 8)) - (64 - n) = n - 1 - i := by omega
      simp [h7, h64, h1, h2]
    · have h1 : ¬ 64 - n ≤ 7 - i % 8 + (56 - 8 * (i / 8)) := by omega
      rw [List.getD_eq_getElem?_getD, List.getElem?_eq_none (by rw [low_length]; omega)]
      simp [h1]
theorem shl_wrap (v s : Nat) : IntKind.u64.wrap ((v : Int) * 2 ^ s) = ((v * 2 ^ s % 2 ^ 64 : Nat) : Int) := by
  have e : ∀ x : Int, IntKind.u64.wrap x = x % 18446744073709551616 := by intro x; simp [IntKind.wrap, IntKind.bits, IntKind.signed]
  rw [e]
  simp

set_option maxRecDepth 20000 in
set_option maxHeartbeats 400000 in
theorem lowest_any (v n : Nat) (w : World) (hn : n ≤ 64) :
    Calls Tryd.prog 39 #[.int .u64 (v : Int), .int .i64 (n : Int)] w (RetBits w (low v n)) := by
  go_enter Tryd.func39, Tryd.ntmps39
  go_wp2_with (first
    | (go_at_call 21; refine (size_any _ _ (by omega)).mono ?_; rintro e w1 ⟨rfl, rfl⟩)
    | (at_make; (refine wpList_mk rfl (.tmp 12) (.tmp 12) rfl (Below.refl _ _) ((n + 7) / 8) rfl rfl rfl rfl (by omega) ?_; intro w1 hown hb1)))
  rw [shl_wrap]
  have hV : v * 2 ^ (64 - n) % 2 ^ 64 ≤ 18446744073709551615 := by omega
  have HA := Lib.hid (bytesTo_all v n hn)
  generalize v * 2 ^ (64 - n) % 2 ^ 64 = V at *
  rw [bytesTo_zero V] at hown
  have hown : Own (w.alloc (.cells #[.slice none 0 0, .int .i64 0] 41)) w1 (.slice (some ⟨w.heap.size + 1, 0, none⟩) ((n + 7) / 8) ((n + 7) / 8)) (bytesTo V ((n + 7) / 8) 0) := by simpa using hown
  go_loopw [16] (fun i wr => ∃ k : Nat, k ≤ (n + 7) / 8 ∧ i = .int .i64 k ∧ Own (w.alloc (.cells #[.slice none 0 0, .int .i64 0] 41)) wr (.slice (some ⟨w.heap.size + 1, 0, none⟩) ((n + 7) / 8) ((n + 7) / 8)) (bytesTo V ((n + 7) / 8) k)) (fun i _ => (n + 7) / 8 - (intOf i).toNat)
  case atStart => exact ⟨0, by omega, rfl, hown⟩
  case round =>
    clear hown
    obtain ⟨k, hk, rfl, hown⟩ := hrel
    by_cases hlt : k < (n + 7) / 8
    · have hc := hown.cell k hlt
      have hf := hown.free k
      have H1 := Lib.hid (bytesTo_succ V ((n + 7) / 8) k)
      generalize (bytesTo V ((n + 7) / 8) k).getD k 0 = y at *
      go_wp2
      go_roundw
      case rel =>
        have h3 := hown.set k (byteOf64 V k)
        rw [H1.out] at h3
        refine ⟨k + 1, by omega, by go_num, ?_⟩
        exact h3
      case measure => simp [intOf]; omega
    · obtain ⟨c0, c1, f0, f1⟩ := two_new hown.bel
      go_wp2
      have e : k = (n + 7) / 8 := by omega
      subst e
      rw [HA.out] at hown
      exact bodyPost_ret (v := .agg #[.slice (some ⟨w.heap.size + 1, 0, none⟩) ((n + 7) / 8) ((n + 7) / 8), .int .i64 (n : Int)]) (by simp [results, Tryd.results39, go_sem, c0, c1]) rfl
        (RetBits.mk (hown.past2 ((Below.refl _ _).alloc (Nat.le_refl _) _) (Nat.le_refl _) (by simp) (Nat.le_refl _) (by simp) _ _) (low_length v n))

end Go.Proofs.YtldodfdbaonmkaaDoor
