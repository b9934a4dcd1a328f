/-
  The contract of the program's own Get: what bytes begin with, from a place on; it changes nothing.
-/
import Derived.Test.YtgmnhfkmneohcaaMem
import Derived.Test.YtgmnhfkmneohcaaUv1
import Derived.Test.YtgmnhfkmneohcaaCode
namespace Go.Proofs.Ytgmnhfkmneohcaa
open Go.RowKit

/-- what bytes begin with, from any place on -/
def UAt (bs : List Nat) (a : Int) (v n e : Nat) : Prop :=
  ((a < 0 ∨ (bs.length : Int) < a) ∧ v = 0 ∧ n = 0 ∧ e = 2) ∨ (∃ k : Nat, a = (k : Int) ∧ k ≤ bs.length ∧ UGets (bs.drop k) v n e)
theorem UAt.same {bs : List Nat} {a : Int} {v n e v' n' e' : Nat} (h : UAt bs a v n e) (h' : UAt bs a v' n' e') : v = v' ∧ n = n' ∧ e = e' := by
  rcases h with ⟨h1, h2, h3, h4⟩ | ⟨k, h1, h2, h3⟩ <;> rcases h' with ⟨g1, g2, g3, g4⟩ | ⟨j, g1, g2, g3⟩
  · omega
  · omega
  · omega
  · obtain rfl : k = j := by omega
    exact h3.same g3
/-- what Get comes to -/
def RetG (w : World) (bs : List Nat) (a : Int) (e : Ending) (w' : World) : Prop :=
  ∃ v n k : Nat, UAt bs a v n k ∧ e = .returned (.tuple #[.int .u64 (v : Int), .int .i64 (n : Int), errV k]) ∧ w = w'

theorem Rd.cutFrom {w : World} {B m c a : Nat} {A : Option Addr} {bs : List Nat} (h : Rd w B A m c bs) (hk : a ≤ m) : Rd w B (A.map (fun x => x.add a)) (m - a) (c - a) (bs.drop a) := by
  have := h.cutTo (a := a) (n := m - a) (by omega)
  rwa [List.take_of_length_le (by rw [List.length_drop, h.len]; omega)] at this
theorem Rd.cutLast {w : World} {B m a : Nat} {A : Option Addr} {bs : List Nat} (h : Rd w B A m a bs) (hk : a ≤ m) : Rd w B A (m - a) 0 (bs.drop a) := by
  have := h.cutEnd (n := m - a) (by omega)
  rwa [List.take_of_length_le (by rw [List.length_drop, h.len]; omega)] at this

set_option maxRecDepth 20000 in
set_option maxHeartbeats 400000 in
theorem uget_no (A : Option Addr) (m c : Nat) (bs : List Nat) (a : Int) (w : World) (hl : bs.length = m) (_hm : m ≤ 100000000) (ha : -9223372036854775808 ≤ a ∧ a ≤ 9223372036854775807)
    (hno : a < 0 ∨ (0 ≤ a ∧ (m : Int) < a)) :
    Calls Try.prog 34 #[.slice A m c, .int .i64 a] w (RetG w bs a) := by
  have HT : Hid (UAt bs a 0 0 2) := Lib.hid (.inl ⟨by omega, rfl, rfl, rfl⟩)
  clear hl
  rcases hno with h1 | h1
  all_goals
    go_enter Try.func34, Try.ntmps34
    go_wp2
    go_ret3
    exact ⟨0, 0, 2, HT.out, rfl, rfl⟩

theorem and_128 : ∀ r : Fin 256, r.val &&& 128 = if 128 ≤ r.val then 128 else 0 := by decide +kernel
theorem top_yes {x : Nat} (h : x < 256) (h1 : 128 ≤ x) : bits .and .u8 (x : Int) 128 = 128 := by
  rw [show (128 : Int) = ((128 : Nat) : Int) from rfl, u8_and_nat _ _ h (by omega), and_128 ⟨x, h⟩, if_pos h1]
theorem top_no {x : Nat} (h : x < 256) (h1 : ¬ 128 ≤ x) : bits .and .u8 (x : Int) 128 = 0 := by
  rw [show (128 : Int) = ((128 : Nat) : Int) from rfl, u8_and_nat _ _ h (by omega), and_128 ⟨x, h⟩, if_neg h1]
  rfl

theorem wrap_le (n : Nat) (h : n ≤ 18446744073709551615) : IntKind.u64.wrap (n : Int) = n := by
  have e : IntKind.u64.wrap (n : Int) = (n : Int) % 18446744073709551616 := by simp [IntKind.wrap, IntKind.bits, IntKind.signed]
  rw [e]
  omega
theorem pow_seven (k : Nat) : 2 ^ (7 * k) = 128 ^ k := by rw [Nat.pow_mul]
theorem or_seven (y x k : Nat) (hy : y < 128 ^ k) (hx : x < 256) (hk : k ≤ 8 ∨ (k = 9 ∧ x ≤ 1)) :
    bits .or .u64 (y : Int) (IntKind.u64.wrap (IntKind.u64.wrap (bits .and .u8 (x : Int) 127) * 2 ^ (7 * k))) = ((y + 128 ^ k * (x % 128) : Nat) : Int) := by
  have h5 : 0 < 128 ^ k := Nat.pow_pos (by omega)
  have h1 : x % 128 * 128 ^ k + 128 ^ k ≤ 18446744073709551616 := by
    rcases hk with h | ⟨rfl, h⟩
    · have h2 : 128 ^ k ≤ 128 ^ 8 := Nat.pow_le_pow_right (by omega) h
      have h3 : x % 128 * 128 ^ k ≤ 127 * 128 ^ 8 := Nat.mul_le_mul (by omega) h2
      omega
    · omega
  have h4 : 128 ^ k ≤ 128 ^ 9 := Nat.pow_le_pow_right (by omega) (by omega)
  rw [show (127 : Int) = ((127 : Nat) : Int) from rfl, u8_and_nat _ _ hx (by omega), nat_mask7, wrap_le _ (by omega)]
  have e : ((x % 128 : Nat) : Int) * 2 ^ (7 * k) = ((x % 128 * 128 ^ k : Nat) : Int) := by rw [← pow_seven]; simp
  rw [e, wrap_le _ (by omega), u64_or_nat _ _ (by omega) (by omega), Nat.or_comm, nat_join (7 * k) _ _ (by rw [pow_seven]; exact Nat.mul_mod_left _ _) (by rw [pow_seven]; exact hy)]
  rw [Nat.add_comm, Nat.mul_comm]

set_option maxRecDepth 20000 in
set_option maxHeartbeats 400000 in
theorem uget_end (A : Option Addr) (m c : Nat) (bs : List Nat) (w : World) (hl : bs.length = m) (_hcap : m ≤ c) (_hm : m ≤ 100000000) :
    Calls Try.prog 34 #[.slice A m c, .int .i64 (m : Int)] w (RetG w bs m) := by
  have HT : Hid (UAt bs m 0 0 2) := Lib.hid (.inr ⟨m, rfl, by omega, .short 0 (by omega) (by simp; omega) (Lead.zero _)⟩)
  clear hl
  have hd0 : decide ((m : Int) < 0) = false := by simp
  go_enter Try.func34, Try.ntmps34
  go_wp2
  all_goals
    clear _hcap hd0
    go_loop [23] (fun i => i = .int .i64 0) (fun _ => 0)
    case atStart => rfl
    case round =>
      subst hrel
      go_wp2
      go_ret3
      exact ⟨0, 0, 2, HT.out, rfl, rfl⟩

set_option maxRecDepth 20000 in
set_option maxHeartbeats 400000 in
theorem uget_yes (A : Option Addr) (m c B : Nat) (bs : List Nat) (a : Nat) (w : World) (h : Rd w B A m c bs) (hb : ∀ x ∈ bs, x < 256) (hm : m ≤ 100000000) (ha : a < m) :
    Calls Try.prog 34 #[.slice A m c, .int .i64 (a : Int)] w (RetG w bs a) := by
  have hcap := h.cap
  have HT : Hid (∀ v n e, UGets (bs.drop a) v n e → UAt bs a v n e) := Lib.hid fun v n e hu => .inr ⟨a, rfl, by have := h.len; omega, hu⟩
  have HB : Hid (∀ x ∈ bs.drop a, x < 256) := Lib.hid fun x hx => hb x (List.mem_of_mem_drop hx)
  clear hb
  have hr := h.cutFrom (Nat.le_of_lt ha)
  obtain ⟨ad, hA, _⟩ := h.at_ ha
  subst hA
  clear h
  have hd0 : decide ((a : Int) < 0) = false := by simp
  have hd1 : decide (m < a) = false := by simp; omega
  go_enter Try.func34, Try.ntmps34
  go_wp2
  clear hcap hd0 hd1
  generalize bs.drop a = l at *
  have hn : m - a ≤ 100000000 := by omega
  have HL := Lib.hid hr.len
  generalize m - a = n at *
  clear ha
  go_loop [7, 23] (fun v i => ∃ k : Nat, k ≤ n ∧ k ≤ 9 ∧ Lead l k ∧ i = .int .i64 (k : Int) ∧ v = .int .u64 ((uval (l.take k) : Nat) : Int)) (fun _ i => n - (intOf i).toNat)
  case atStart => exact ⟨0, by omega, by omega, Lead.zero l, rfl, rfl⟩
  case round =>
    obtain ⟨k, hk, hk9, hlead, rfl, rfl⟩ := hrel
    have HLe := Lib.hid hlead
    clear hlead
    by_cases hlt : k < n
    · obtain ⟨ad, hA, hbl, hc⟩ := hr.at_ hlt
      injection hA with hA
      subst hA
      have hx := getD_lt HB.out k
      obtain ⟨x, ex⟩ : ∃ x, l.getD k 0 = x := ⟨_, rfl⟩
      rw [ex] at hc hx
      have hx0 : 0 ≤ (x : Int) := by omega
      obtain ⟨z, HZ⟩ : ∃ z, Hid (z = uval (l.take (k + 1))) := ⟨_, Lib.hid rfl⟩
      have HN : Hid (l.getD k 0 = x) := Lib.hid ex
      have HS : Hid (uval (l.take (k + 1)) = uval (l.take k) + 128 ^ k * (x % 128)) := Lib.hid (by rw [← ex]; exact uval_step (by rw [HL.out]; exact hlt))
      have HY : Hid (uval (l.take k) < 128 ^ k) := Lib.hid (uval_take_lt l k)
      clear ex
      generalize uval (l.take k) = y at *
      by_cases h9 : k = 9
      · have hk9' : ((k : Int) == 9) = true := by simp; omega
        have H9 := Lib.hid h9
        have h8 : 8 < k := by omega
        clear h9
        by_cases h1 : 1 < x
        · go_wp2
          go_ret3
          refine ⟨0, 0, 3, HT.out _ _ _ (.ten (by have := HL.out; omega) (by have := HLe.out; rwa [H9.out] at this) ?_), rfl, rfl⟩
          have := HN.out
          rw [H9.out] at this
          omega
        · have hand := top_no hx (by omega)
          have hor := or_seven y x k HY.out hx (by omega)
          rw [← HS.out, ← HZ.out] at hor
          by_cases hx1 : x = 0
          · have hx2 : ((x : Int) == 0) = true := by simp; omega
            have HX := Lib.hid hx1
            clear hx1
            go_wp2
            go_ret3
            exact ⟨0, 0, 3, HT.out _ _ _ (.zero k (by omega) (by omega) (by rw [HL.out]; exact hlt) HLe.out (HN.out.trans HX.out)), rfl, rfl⟩
          · have hx2 : ((x : Int) == 0) = false := by simp; omega
            go_wp2
            go_ret3
            refine ⟨z, k + 1, 0, HT.out _ _ _ ?_, rfl, rfl⟩
            rw [HZ.out]
            exact .ok k hk9 (by rw [HL.out]; exact hlt) HLe.out (by have := HN.out; omega) (fun e => by have := HN.out; rw [e] at this; omega) (fun _ => by have := HN.out; omega)
      · have hk9' : ((k : Int) == 9) = false := by simp; omega
        have hor := or_seven y x k HY.out hx (by omega)
        rw [← HS.out, ← HZ.out] at hor
        by_cases htop : 128 ≤ x
        · have hand := top_yes hx htop
          go_wp2
          go_round
          case rel => exact ⟨k + 1, by omega, by omega, HLe.out.succ (by rw [HN.out]; exact htop), by go_num, by rw [HZ.out]⟩
          case measure => simp [intOf]; omega
        · have hand := top_no hx htop
          by_cases hk0 : 0 < k
          · by_cases hx1 : x = 0
            · have hx2 : ((x : Int) == 0) = true := by simp; omega
              have HX := Lib.hid hx1
              clear hx1
              go_wp2
              go_ret3
              exact ⟨0, 0, 3, HT.out _ _ _ (.zero k (by omega) (by omega) (by rw [HL.out]; exact hlt) HLe.out (HN.out.trans HX.out)), rfl, rfl⟩
            · have hx2 : ((x : Int) == 0) = false := by simp; omega
              go_wp2
              go_ret3
              refine ⟨z, k + 1, 0, HT.out _ _ _ ?_, rfl, rfl⟩
              rw [HZ.out]
              exact .ok k hk9 (by rw [HL.out]; exact hlt) HLe.out (by have := HN.out; omega) (fun e => absurd e h9) (fun _ => by have := HN.out; omega)
          · have hk1 : decide (0 < (k : Int)) = false := by simp; omega
            go_wp2
            go_ret3
            refine ⟨z, k + 1, 0, HT.out _ _ _ ?_, rfl, rfl⟩
            rw [HZ.out]
            exact .ok k hk9 (by rw [HL.out]; exact hlt) HLe.out (by have := HN.out; omega) (fun e => absurd e h9) (fun h => absurd h hk0)
    · go_wp2
      go_ret3
      exact ⟨0, 0, 2, HT.out _ _ _ (.short k hk9 (by rw [HL.out]; omega) HLe.out), rfl, rfl⟩

theorem uget_all (A : Option Addr) (m c B : Nat) (bs : List Nat) (a : Int) (w : World) (h : Rd w B A m c bs) (hb : ∀ x ∈ bs, x < 256) (hm : m ≤ 100000000) (ha : -9223372036854775808 ≤ a ∧ a ≤ 9223372036854775807) :
    Calls Try.prog 34 #[.slice A m c, .int .i64 a] w (RetG w bs a) := by
  by_cases hy : 0 ≤ a ∧ a ≤ m
  · obtain ⟨a', rfl⟩ := Int.eq_ofNat_of_zero_le hy.1
    by_cases he : a' = m
    · subst he
      exact uget_end A a' c bs w h.len h.cap hm
    · exact uget_yes A m c B bs a' w h hb hm (by omega)
  · exact uget_no A m c bs a w h.len hm ha (by omega)

end Go.Proofs.Ytgmnhfkmneohcaa
