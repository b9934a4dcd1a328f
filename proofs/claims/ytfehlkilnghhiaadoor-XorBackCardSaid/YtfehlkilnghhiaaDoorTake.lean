/-
  The contract of the program's own Take: the number of n bits from the a-th on, if they are there.
-/
import Derived.Test.YtfehlkilnghhiaaDoorMem
import Derived.Test.YtfehlkilnghhiaaDoorBits2
namespace Go.Proofs.YtfehlkilnghhiaaDoor
open Go.RowKit

/-- what the program's Take comes to -/
def RetS (w : World) (bs : List Nat) (a n : Int) (e : Ending) (w' : World) : Prop :=
  e = .returned (.tuple #[.int .u64 ((takeN bs a n : Nat) : Int), .bool (takeB bs a n)]) ∧ w = w'

theorem wrap_u64 (n : Nat) (h : n ≤ 18446744073709551615) : IntKind.u64.wrap (n : Int) = n := by
  have e : IntKind.u64.wrap (n : Int) = (n : Int) % 18446744073709551616 := by simp [IntKind.wrap, IntKind.bits, IntKind.signed]
  rw [e]
  omega
theorem or_step (y x s : Nat) (hy : y ≤ 9223372036854775807) (hx : x < 256) :
    bits .or .u64 ((y : Int) * 2) (IntKind.u64.wrap (bits .and .u8 ((x : Int) / 2 ^ s) 1)) = ((2 * y + (x.testBit s).toNat : Nat) : Int) := by
  have e1 : ((x : Int) / 2 ^ s) = ((x / 2 ^ s : Nat) : Int) := by simp
  have e2 : (y : Int) * 2 = ((y * 2 : Nat) : Int) := by simp
  have h1 : x / 2 ^ s < 256 := Nat.lt_of_le_of_lt (Nat.div_le_self _ _) hx
  rw [e1, e2, show (1 : Int) = ((1 : Nat) : Int) from rfl, u8_and_nat _ _ h1 (by omega), nat_mask1, wrap_u64 _ (by omega), u64_or_nat _ _ (by omega) (by omega), nat_join 1 _ _ (by omega) (by omega), Nat.toNat_testBit, Nat.mul_comm]
theorem take_step (bs : List Nat) (a k : Nat) (h : a + k < 8 * bs.length) : num (cut (flat bs) a (k + 1)) = 2 * num (cut (flat bs) a k) + ((bs.getD ((a + k) / 8) 0).testBit (7 - (a + k) % 8)).toNat := by
  rw [cut_succ _ _ _ (by rw [flat_length]; exact h), num_snoc, flat_getD]
  rfl

set_option maxHeartbeats 400000 in
theorem take_no (A : Option Addr) (m c : Nat) (bs : List Nat) (a n : Int) (w : World) (hl : bs.length = m) (hm : m ≤ 100000000)
    (ha : -9223372036854775808 ≤ a ∧ a ≤ 9223372036854775807) (hn : -9223372036854775808 ≤ n ∧ n ≤ 9223372036854775807) (hno : n < 0 ∨ (0 ≤ n ∧ 64 < n) ∨ (0 ≤ n ∧ n ≤ 64 ∧ a < 0) ∨ (0 ≤ n ∧ n ≤ 64 ∧ 0 ≤ a ∧ 8 * (m : Int) - n < a)) :
    Calls Tryd.prog 31 #[.slice A m c, .int .i64 a, .int .i64 n] w (RetS w bs a n) := by
  have HT := Lib.hid (takeB_no (bs := bs) (a := a) (n := n) (by omega))
  clear hl
  rcases hno with h1 | h1 | h1 | h1
  all_goals
    go_enter Tryd.func31, Tryd.ntmps31
    go_wp2
    go_ret2
    unfold RetS
    rw [HT.out.1, HT.out.2]
    exact ⟨rfl, rfl⟩

set_option maxHeartbeats 400000 in
theorem take_yes (A : Option Addr) (m c B : Nat) (bs : List Nat) (a n : Nat) (w : World) (h : Rd w B A m c bs) (hb : ∀ x ∈ bs, x < 256) (hm : m ≤ 100000000)
    (hn : n ≤ 64) (han : a + n ≤ 8 * m) :
    Calls Tryd.prog 31 #[.slice A m c, .int .i64 a, .int .i64 n] w (RetS w bs a n) := by
  have HT := Lib.hid (takeB_yes (bs := bs) (a := a) (n := n) hn (by have := h.len; omega))
  have HB := Lib.hid hb
  clear hb
  have HL := Lib.hid h.len
  go_enter Tryd.func31, Tryd.ntmps31
  go_wp2
  go_loop [8, 9] (fun v i => ∃ k : Nat, k ≤ n ∧ i = .int .i64 ((a : Int) + k) ∧ v = .int .u64 ((num (cut (flat bs) a k) : Nat) : Int)) (fun _ i => ((a : Int) + n - intOf i).toNat)
  case atStart => exact ⟨0, Nat.zero_le _, by go_num, by rw [cut_zero]; rfl⟩
  case round =>
    obtain ⟨k, hk, rfl, rfl⟩ := hrel
    by_cases hlt : k < n
    · obtain ⟨ad, rfl, hbl, hc⟩ := h.at_ (k := (a + k) / 8) (by omega)
      have hx := getD_lt HB.out ((a + k) / 8)
      have H3 := Lib.hid (take_step bs a k (by rw [HL.out]; omega))
      generalize bs.getD ((a + k) / 8) 0 = x at *
      have hy : num (cut (flat bs) a k) ≤ 9223372036854775807 := by
        have h1 := num_lt (cut (flat bs) a k)
        rw [cut_length _ _ _ (by rw [flat_length, HL.out]; omega)] at h1
        have h2 : 2 ^ k ≤ 2 ^ 63 := Nat.pow_le_pow_right (by omega) (by omega)
        omega
      generalize num (cut (flat bs) a k) = y at *
      go_wp2
      go_round
      case rel =>
        exact ⟨k + 1, by omega, by go_num, by rw [H3.out, or_step _ _ _ hy hx]⟩
      case measure => simp [intOf]; omega
    · have e : k = n := by omega
      subst e
      go_wp2
      go_ret2
      unfold RetS
      rw [HT.out.1, HT.out.2]
      exact ⟨rfl, rfl⟩

theorem take_all (A : Option Addr) (m c B : Nat) (bs : List Nat) (a n : Int) (w : World) (h : Rd w B A m c bs) (hb : ∀ x ∈ bs, x < 256) (hm : m ≤ 100000)
    (ha : -9223372036854775808 ≤ a ∧ a ≤ 9223372036854775807) (hn : -9223372036854775808 ≤ n ∧ n ≤ 9223372036854775807) :
    Calls Tryd.prog 31 #[.slice A m c, .int .i64 a, .int .i64 n] w (RetS w bs a n) := by
  by_cases hy : 0 ≤ n ∧ n ≤ 64 ∧ 0 ≤ a ∧ a ≤ 8 * (m : Int) - n
  · obtain ⟨n', rfl⟩ := Int.eq_ofNat_of_zero_le hy.1
    obtain ⟨a', rfl⟩ := Int.eq_ofNat_of_zero_le hy.2.2.1
    exact take_yes A m c B bs a' n' w h hb (by omega) (by omega) (by omega)
  · exact take_no A m c bs a n w h.len (by omega) ha hn (by omega)

end Go.Proofs.YtfehlkilnghhiaaDoor
