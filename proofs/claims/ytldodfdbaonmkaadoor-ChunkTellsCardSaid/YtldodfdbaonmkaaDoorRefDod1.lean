/-
  The contracts of the reference's sizes, Room and Ones: with how many 1s a number's code begins.
-/
import Derived.Test.YtldodfdbaonmkaaDoorDod
namespace Go.Proofs.YtldodfdbaonmkaaDoor
open Go.RowKit

set_option maxRecDepth 20000 in
set_option maxHeartbeats 400000 in
theorem sizes_any (k : Nat) (w : World) (hk : k ≤ 4) :
    Calls Tryd.prog 31 #[.int .i64 (k : Int)] w fun e w' => e = .returned (.int .i64 ((roomN k : Nat) : Int)) ∧ Below w.heap.size w w' := by
  rcases (by omega : k = 0 ∨ k = 1 ∨ k = 2 ∨ k = 3 ∨ k = 4) with rfl | rfl | rfl | rfl | rfl
  all_goals
    go_enter Tryd.func31, Tryd.ntmps31
    go_wp2
    go_ret
    exact ⟨rfl, (Below.refl _ _).alloc (Nat.le_refl _) _⟩

theorem pow_one_le (i n : Nat) (h : i ≤ n) (hn : n ≤ 12) : 2 ^ i ≤ 4096 := by
  have := Nat.pow_le_pow_right (n := 2) (by omega) (by omega : i ≤ 12)
  omega

set_option maxRecDepth 20000 in
set_option maxHeartbeats 400000 in
theorem room_any (v : Int) (m T : Nat) (w : World) (_hv : -9223372036854775808 ≤ v ∧ v ≤ 9223372036854775807) (hm : m ≤ 11) (hT : 2 ^ m = T) :
    Calls Tryd.prog 38 #[.int .i64 v, .int .i64 ((m + 1 : Nat) : Int)] w fun e w' => e = .returned (.bool (decide (-(T : Int) ≤ v ∧ v ≤ (T : Int) - 1))) ∧ w = w' := by
  have HT := Lib.hid hT
  clear hT
  go_enter Tryd.func38, Tryd.ntmps38
  go_wp2
  go_loop [5, 6] (fun t i => ∃ j : Nat, j ≤ m ∧ i = .int .i64 (((j + 1 : Nat)) : Int) ∧ t = .int .i64 ((2 ^ j : Nat) : Int)) (fun _ i => m + 1 - (intOf i).toNat)
  case atStart => exact ⟨0, by omega, rfl, rfl⟩
  case round =>
    obtain ⟨j, hj, rfl, rfl⟩ := hrel
    have h1 := pow_one_le j m (by omega) (by omega)
    have HP := Lib.hid (Nat.pow_succ 2 j)
    by_cases hlt : j < m
    · generalize 2 ^ j = t at *
      go_wp2
      go_round
      case rel => exact ⟨j + 1, by omega, by go_num, by rw [HP.out]; go_num⟩
      case measure => simp [intOf]; omega
    · obtain rfl : j = m := by omega
      clear HP
      have h0 : 1 ≤ 2 ^ j := Nat.one_le_two_pow
      rw [HT.out] at h1 h0 ⊢
      by_cases ha : -(T : Int) ≤ v
      · by_cases hb : v ≤ (T : Int) - 1
        · go_wp2
          go_ret
          refine ⟨congrArg Ending.returned (congrArg Value.bool ?_), rfl⟩
          first | (simp; done) | (simp; omega)
        · go_wp2
          go_ret
          refine ⟨congrArg Ending.returned (congrArg Value.bool ?_), rfl⟩
          first | (simp; done) | (simp; omega)
      · go_wp2
        go_ret
        refine ⟨congrArg Ending.returned (congrArg Value.bool ?_), rfl⟩
        first | (simp; done) | (simp; omega)

theorem ones_room (v : Int) (k : Nat) (hk : 1 ≤ k ∧ k ≤ 3) : ∃ m T : Nat, roomN k = m + 1 ∧ m ≤ 11 ∧ 2 ^ m = T ∧ decide (-(T : Int) ≤ v ∧ v ≤ (T : Int) - 1) = decide (onesN v ≤ k) := by
  obtain ⟨_, f1, f2, f3⟩ := ones_fit v
  rcases (by omega : k = 1 ∨ k = 2 ∨ k = 3) with rfl | rfl | rfl
  · exact ⟨6, 64, rfl, by omega, rfl, decide_eq_decide.2 (by rw [f1]; omega)⟩
  · exact ⟨8, 256, rfl, by omega, rfl, decide_eq_decide.2 (by rw [f2]; omega)⟩
  · exact ⟨11, 2048, rfl, by omega, rfl, decide_eq_decide.2 (by rw [f3]; omega)⟩

set_option maxRecDepth 20000 in
set_option maxHeartbeats 400000 in
theorem refones_any (v : Int) (w : World) (hv : -9223372036854775808 ≤ v ∧ v ≤ 9223372036854775807) :
    Calls Tryd.prog 30 #[.int .i64 v] w fun e w' => e = .returned (.int .i64 ((onesN v : Nat) : Int)) ∧ Below w.heap.size w w' := by
  by_cases h0 : v = 0
  · subst h0
    go_enter Tryd.func30, Tryd.ntmps30
    go_wp2
    go_ret
    exact ⟨rfl, Below.refl _ _⟩
  · have hz : (v == 0) = false := by simp [h0]
    have h1 : 1 ≤ onesN v := by have := (ones_fit v).1; omega
    have h4 := onesN_le v
    have HR := Lib.hid (fun k (hk : 1 ≤ k ∧ k ≤ 3) => ones_room v k hk)
    clear h0
    generalize onesN v = n at *
    go_enter Tryd.func30, Tryd.ntmps30
    go_wp2
    clear hz
    go_loopw [3] (fun i wr => ∃ k : Nat, 1 ≤ k ∧ k ≤ n ∧ i = .int .i64 (k : Int) ∧ Below w.heap.size w wr) (fun i _ => 4 - (intOf i).toNat)
    case atStart => exact ⟨1, by omega, by omega, rfl, Below.refl _ _⟩
    case round =>
      obtain ⟨k, hk1, hk, rfl, hb⟩ := hrel
      by_cases hk4 : k < 4
      · obtain ⟨m, T, hm, hm2, hT, hd⟩ := HR.out k (by omega)
        have HD := Lib.hid hd
        have HT := Lib.hid hT
        clear hd hT
        have HM := Lib.hid hm
        clear hm
        by_cases hkn : k < n
        · go_wp2_with fail
          refine (sizes_any k _ (by omega)).mono ?_
          rintro e w2 ⟨rfl, hb2⟩
          rw [HM.out]
          go_wp2_with fail
          refine (room_any v m T _ hv hm2 HT.out).mono ?_
          rintro e w3 ⟨rfl, rfl⟩
          rw [HD.out, decide_eq_false (by omega : ¬ n ≤ k)]
          go_wp2
          go_roundw
          case rel => exact ⟨k + 1, by omega, by omega, by go_num, hb.trans (hb2.mono hb.size)⟩
          case measure => simp [intOf]; omega
        · obtain rfl : k = n := by omega
          go_wp2_with fail
          refine (sizes_any k _ (by omega)).mono ?_
          rintro e w2 ⟨rfl, hb2⟩
          rw [HM.out]
          go_wp2_with fail
          refine (room_any v m T _ hv hm2 HT.out).mono ?_
          rintro e w3 ⟨rfl, rfl⟩
          rw [HD.out, decide_eq_true (Nat.le_refl k)]
          go_wp2
          go_ret
          exact ⟨rfl, hb.trans (hb2.mono hb.size)⟩
      · obtain rfl : k = n := by omega
        obtain rfl : k = 4 := by omega
        go_wp2
        go_ret
        exact ⟨rfl, hb⟩

end Go.Proofs.YtldodfdbaonmkaaDoor
