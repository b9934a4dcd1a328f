/-
  Texts of this proof, one behind the other: Low, RefDod1, RefDod.
-/
import Derived.Test.YtbocpgffddkfdaaGreatDoorWords
import Derived.Test.YtbocpgffddkfdaaGreatDoorDods
import Derived.Deep.RegionWith

namespace Go.Proofs.YtbocpgffddkfdaaGreatDoor
open Go.RowKit

def lowTo (v n k : Nat) : List Nat := (List.range n).map fun i => if i < n - k then 0 else (v.testBit (n - 1 - i)).toNat
theorem lowTo_zero (v n : Nat) : List.replicate n 0 = lowTo v n 0 := by
  apply getD_extN (by simp [lowTo])
  intro i hi
  have hi' : i < n := by simpa using hi
  simp [lowTo, List.getD_eq_getElem?_getD, hi']
theorem lowTo_all (v n : Nat) : lowTo v n n = enc (low v n) := by
  apply getD_extN (by simp [lowTo, enc, low])
  intro i hi
  have hi' : i < n := by simpa [lowTo] using hi
  simp [lowTo, enc, low, List.getD_eq_getElem?_getD, hi']
theorem lowTo_succ (v n k : Nat) (hk : k < n) : (lowTo v n k).set (n - 1 - k) (v / 2 ^ k % 2) = lowTo v n (k + 1) := by
  apply getD_extN (by simp [lowTo])
  intro i hi
  have hi' : i < n := by simpa [lowTo] using hi
  by_cases e : n - 1 - k = i
  · subst e
    have e2 : n - 1 - (n - 1 - k) = k := by omega
    have e3 : ¬ n - 1 - k < n - (k + 1) := by omega
    simp [lowTo, List.getD_eq_getElem?_getD, hi', e2, e3, Nat.toNat_testBit]
  · have e3 : (i < n - (k + 1)) ↔ (i < n - k) := by omega
    simp [lowTo, List.getD_eq_getElem?_getD, hi', e, e3]
theorem half (v k : Nat) : v / 2 ^ k / 2 = v / 2 ^ (k + 1) := by rw [Nat.pow_succ, Nat.div_div_eq_div_mul]
set_option maxRecDepth 20000 in
set_option maxHeartbeats 400000 in
theorem low_any (v n : Nat) (w : World) (hv : v ≤ 18446744073709551615) (hn : n ≤ 64) :
    Calls Tryz.prog 125 #[.int .u64 (v : Int), .int .i64 (n : Int)] w (RetB w (enc (low v n))) := by
  go_enter Tryz.func125, Tryz.ntmps125
  go_wp2_with (at_make; (refine wpList_mk rfl (.tmp 7) (.tmp 7) rfl (Below.refl w.heap.size w) n rfl rfl rfl rfl (by omega) ?_; intro w1 hown hb1))
  rw [lowTo_zero v n] at hown
  go_loopw [0, 6] (fun x i wr => ∃ k : Nat, k ≤ n ∧ i = .int .i64 ((n : Int) - 1 - k) ∧ x = .int .u64 ((v / 2 ^ k : Nat) : Int) ∧ Own w wr (.slice (some ⟨w.heap.size, 0, none⟩) n n) (lowTo v n k)) (fun _ i _ => (intOf i + 1).toNat)
  case atStart => exact ⟨0, by omega, by go_num, by simp, hown⟩
  case round =>
    clear hown
    obtain ⟨k, hk, rfl, rfl, hown⟩ := hrel
    by_cases hlt : k < n
    · have hx : v / 2 ^ k ≤ 18446744073709551615 := Nat.le_trans (Nat.div_le_self _ _) hv
      have hc := hown.cell (n - 1 - k) (by omega)
      have hf := hown.free (n - 1 - k)
      have H1 := Lib.hid (lowTo_succ v n k hlt)
      have H2 := Lib.hid (half v k)
      generalize v / 2 ^ k = x at *
      generalize (lowTo v n k).getD (n - 1 - k) 0 = y at *
      go_wp2
      go_roundw
      case rel =>
        have h3 := hown.set (n - 1 - k) (x % 2)
        rw [H1.out] at h3
        refine ⟨k + 1, by omega, by go_num, ?_, ?_⟩
        · rw [← H2.out]; go_num
        · exact h3
      case measure => simp [intOf]; omega
    · go_wp2
      go_ret
      have e : k = n := by omega
      subst e
      rw [lowTo_all] at hown
      exact RetB.mk hown
end Go.Proofs.YtbocpgffddkfdaaGreatDoor

namespace Go.Proofs.YtbocpgffddkfdaaGreatDoor
open Go.RowKit

set_option maxRecDepth 20000 in
set_option maxHeartbeats 400000 in
theorem sizes_any (k : Nat) (w : World) (hk : k ≤ 4) :
    Calls Tryz.prog 108 #[.int .i64 (k : Int)] w fun e w' => e = .returned (.int .i64 ((roomN k : Nat) : Int)) ∧ Below w.heap.size w w' := by
  rcases (by omega : k = 0 ∨ k = 1 ∨ k = 2 ∨ k = 3 ∨ k = 4) with rfl | rfl | rfl | rfl | rfl
  all_goals
    go_enter Tryz.func108, Tryz.ntmps108
    go_wp2
    go_ret
    exact ⟨rfl, (Below.refl _ _).alloc (Nat.le_refl _) _⟩
theorem pow_one_le (i n : Nat) (h : i ≤ n) (hn : n ≤ 12) : 2 ^ i ≤ 4096 := by
  have := Nat.pow_le_pow_right (n := 2) (by omega) (by omega : i ≤ 12)
  omega
set_option maxRecDepth 20000 in
set_option maxHeartbeats 400000 in
theorem room_any (v : Int) (m T : Nat) (w : World) (_hv : -9223372036854775808 ≤ v ∧ v ≤ 9223372036854775807) (hm : m ≤ 11) (hT : 2 ^ m = T) :
    Calls Tryz.prog 138 #[.int .i64 v, .int .i64 ((m + 1 : Nat) : Int)] w fun e w' => e = .returned (.bool (decide (-(T : Int) ≤ v ∧ v ≤ (T : Int) - 1))) ∧ w = w' := by
  have HT := Lib.hid hT
  clear hT
  go_enter Tryz.func138, Tryz.ntmps138
  go_wp2
  go_loop [5, 6] (fun t i => ∃ j : Nat, j ≤ m ∧ i = .int .i64 (((j + 1 : Nat)) : Int) ∧ t = .int .i64 ((2 ^ j : Nat) : Int)) (fun _ i => m + 1 - (intOf i).toNat)
  case atStart => exact ⟨0, by omega, rfl, rfl⟩
  case round =>
    obtain ⟨j, hj, rfl, rfl⟩ := hrel
    have h1 := pow_one_le j m (by omega) (by omega)
    have HP := Lib.hid (Nat.pow_succ 2 j)
    by_cases hlt : j < m
    · generalize 2 ^ j = t at *
      go_wp2
      go_round
      case rel => exact ⟨j + 1, by omega, by go_num, by rw [HP.out]; go_num⟩
      case measure => simp [intOf]; omega
    · obtain rfl : j = m := by omega
      clear HP
      have h0 : 1 ≤ 2 ^ j := Nat.one_le_two_pow
      rw [HT.out] at h1 h0 ⊢
      by_cases ha : -(T : Int) ≤ v
      · by_cases hb : v ≤ (T : Int) - 1
        · go_wp2
          go_ret
          refine ⟨congrArg Ending.returned (congrArg Value.bool ?_), rfl⟩
          first | (simp; done) | (simp; omega)
        · go_wp2
          go_ret
          refine ⟨congrArg Ending.returned (congrArg Value.bool ?_), rfl⟩
          first | (simp; done) | (simp; omega)
      · go_wp2
        go_ret
        refine ⟨congrArg Ending.returned (congrArg Value.bool ?_), rfl⟩
        first | (simp; done) | (simp; omega)
theorem ones_room (v : Int) (k : Nat) (hk : 1 ≤ k ∧ k ≤ 3) : ∃ m T : Nat, roomN k = m + 1 ∧ m ≤ 11 ∧ 2 ^ m = T ∧ decide (-(T : Int) ≤ v ∧ v ≤ (T : Int) - 1) = decide (onesN v ≤ k) := by
  obtain ⟨_, f1, f2, f3⟩ := ones_fit v
  rcases (by omega : k = 1 ∨ k = 2 ∨ k = 3) with rfl | rfl | rfl
  · exact ⟨6, 64, rfl, by omega, rfl, decide_eq_decide.2 (by rw [f1]; omega)⟩
  · exact ⟨8, 256, rfl, by omega, rfl, decide_eq_decide.2 (by rw [f2]; omega)⟩
  · exact ⟨11, 2048, rfl, by omega, rfl, decide_eq_decide.2 (by rw [f3]; omega)⟩
set_option maxRecDepth 20000 in
set_option maxHeartbeats 400000 in
theorem refones_any (v : Int) (w : World) (hv : -9223372036854775808 ≤ v ∧ v ≤ 9223372036854775807) :
    Calls Tryz.prog 124 #[.int .i64 v] w fun e w' => e = .returned (.int .i64 ((onesN v : Nat) : Int)) ∧ Below w.heap.size w w' := by
  by_cases h0 : v = 0
  · subst h0
    go_enter Tryz.func124, Tryz.ntmps124
    go_wp2
    go_ret
    exact ⟨rfl, Below.refl _ _⟩
  · have hz : (v == 0) = false := by simp [h0]
    have h1 : 1 ≤ onesN v := by have := (ones_fit v).1; omega
    have h4 := onesN_le v
    have HR := Lib.hid (fun k (hk : 1 ≤ k ∧ k ≤ 3) => ones_room v k hk)
    clear h0
    generalize onesN v = n at *
    go_enter Tryz.func124, Tryz.ntmps124
    go_wp2
    clear hz
    go_loopw [3] (fun i wr => ∃ k : Nat, 1 ≤ k ∧ k ≤ n ∧ i = .int .i64 (k : Int) ∧ Below w.heap.size w wr) (fun i _ => 4 - (intOf i).toNat)
    case atStart => exact ⟨1, by omega, by omega, rfl, Below.refl _ _⟩
    case round =>
      obtain ⟨k, hk1, hk, rfl, hb⟩ := hrel
      by_cases hk4 : k < 4
      · obtain ⟨m, T, hm, hm2, hT, hd⟩ := HR.out k (by omega)
        have HD := Lib.hid hd
        have HT := Lib.hid hT
        clear hd hT
        have HM := Lib.hid hm
        clear hm
        by_cases hkn : k < n
        · go_wp2_with fail
          refine (sizes_any k _ (by omega)).mono ?_
          rintro e w2 ⟨rfl, hb2⟩
          rw [HM.out]
          go_wp2_with fail
          refine (room_any v m T _ hv hm2 HT.out).mono ?_
          rintro e w3 ⟨rfl, rfl⟩
          rw [HD.out, decide_eq_false (by omega : ¬ n ≤ k)]
          go_wp2
          go_roundw
          case rel => exact ⟨k + 1, by omega, by omega, by go_num, hb.trans (hb2.mono hb.size)⟩
          case measure => simp [intOf]; omega
        · obtain rfl : k = n := by omega
          go_wp2_with fail
          refine (sizes_any k _ (by omega)).mono ?_
          rintro e w2 ⟨rfl, hb2⟩
          rw [HM.out]
          go_wp2_with fail
          refine (room_any v m T _ hv hm2 HT.out).mono ?_
          rintro e w3 ⟨rfl, rfl⟩
          rw [HD.out, decide_eq_true (Nat.le_refl k)]
          go_wp2
          go_ret
          exact ⟨rfl, hb.trans (hb2.mono hb.size)⟩
      · obtain rfl : k = n := by omega
        obtain rfl : k = 4 := by omega
        go_wp2
        go_ret
        exact ⟨rfl, hb⟩
end Go.Proofs.YtbocpgffddkfdaaGreatDoor

namespace Go.Proofs.YtbocpgffddkfdaaGreatDoor
open Go.RowKit

theorem enc_ones (k : Nat) : enc (List.replicate k true) = List.replicate k 1 := by simp [enc]
theorem head_more {k : Nat} (hk : k < 4) : List.replicate k 1 ++ [0] = enc (headL k) := by
  unfold headL
  rw [if_pos hk, enc_app, enc_ones]; rfl
theorem head_four {k : Nat} (hk : k ≤ 4) (h : ¬ k < 4) : List.replicate k 1 = enc (headL k) := by
  obtain rfl : k = 4 := by omega
  rfl
set_option maxRecDepth 20000 in
set_option maxHeartbeats 400000 in
theorem refdod_any (v : Int) (w : World) (hv : -9223372036854775808 ≤ v ∧ v ≤ 9223372036854775807) :
    Calls Tryz.prog 111 #[.int .i64 v] w (RetB w (enc (codeD v))) := by
  obtain ⟨k, hk⟩ : ∃ k, onesN v = k := ⟨_, rfl⟩
  have hk4 : k ≤ 4 := by rw [← hk]; exact onesN_le v
  have HK := Lib.hid hk
  clear hk
  obtain ⟨r, HE⟩ : ∃ r, Hid (enc (codeD v) = r) := ⟨_, Lib.hid rfl⟩
  rw [HE.out]
  have HH : Hid (enc (headL k) ++ enc (low (un64 v) (roomN k)) = r) := Lib.hid (by rw [← HE.out, ← enc_app]; unfold codeD; rw [HK.out])
  have HHL : Hid ((enc (headL k)).length = headN k) := Lib.hid (by rw [enc_length, headL_length hk4])
  have hhl := head_le k
  have huw : IntKind.u64.wrap v = ((un64 v : Nat) : Int) := by rw [u64_mod, un64_cast]
  go_enter Tryz.func111, Tryz.ntmps111
  go_wp2_with fail
  refine (refones_any v _ hv).mono ?_
  rintro e w1 ⟨rfl, hb1⟩
  rw [HK.out]
  go_wp2_with fail
  go_loopw [4, 5] (fun o i wr => ∃ j : Nat, j ≤ k ∧ i = .int .i64 (j : Int) ∧ Own w wr o (List.replicate j 1)) (fun _ i _ => k - (intOf i).toNat)
  case atStart => exact ⟨0, by omega, rfl, Own.nil_ _ _ hb1⟩
  case round =>
    clear hb1
    obtain ⟨j, hj, rfl, hown⟩ := hrel
    have HL : Hid ((List.replicate j 1).length = j) := Lib.hid List.length_replicate
    by_cases hjk : j < k
    · go_wp2_with (at_builtin; (refine wpList_app rfl (.tmp 13) (.tmp 14) rfl rfl rfl (hown.alloc _) (Rd.one _ 1) (by rw [HL.out]; omega) ?_; intro v' w' hown3))
      go_roundw
      case rel => exact ⟨j + 1, by omega, by go_num, by rw [List.replicate_succ']; exact hown3⟩
      case measure => simp [intOf]; omega
    · obtain rfl : j = k := by omega
      by_cases h4 : j < 4
      · go_wp2_with (at_builtin; (refine wpList_app rfl (.tmp 18) (.tmp 19) rfl rfl rfl (hown.alloc _) (Rd.one _ 0) (by rw [HL.out]; omega) ?_; intro v' w' hown3))
        rw [head_more h4] at hown3
        refine (sizes_any j _ hk4).mono ?_
        rintro e w2 ⟨rfl, hb2⟩
        replace hown3 := hown3.keep hb2
        go_wp2_with fail
        refine (low_any (un64 v) (roomN j) _ (un64_lt v) (room_le j)).mono ?_
        rintro e w3 ⟨A3, c3, rfl, hown4⟩
        replace hown3 := hown3.keep hown4.bel
        have hlow := hown4.rd
        have HLL : Hid ((enc (low (un64 v) (roomN j))).length = roomN j) := Lib.hid (by rw [enc_length, low_length])
        have hrl := room_le j
        rw [HLL.out] at hlow ⊢
        clear hown4 hb2
        go_wp2_with (at_builtin; (refine wpList_app rfl (.tmp 21) (.tmp 26) rfl rfl rfl hown3 hlow ?_ ?_; (· rw [HHL.out]; omega); intro v5 w5 hown5))
        go_ret
        rw [HH.out] at hown5
        exact RetB.mk hown5
      · have hown3 := hown
        rw [head_four hk4 h4] at hown3
        go_wp2_with fail
        refine (sizes_any j _ hk4).mono ?_
        rintro e w2 ⟨rfl, hb2⟩
        replace hown3 := hown3.keep hb2
        go_wp2_with fail
        refine (low_any (un64 v) (roomN j) _ (un64_lt v) (room_le j)).mono ?_
        rintro e w3 ⟨A3, c3, rfl, hown4⟩
        replace hown3 := hown3.keep hown4.bel
        have hlow := hown4.rd
        have HLL : Hid ((enc (low (un64 v) (roomN j))).length = roomN j) := Lib.hid (by rw [enc_length, low_length])
        have hrl := room_le j
        rw [HLL.out] at hlow ⊢
        clear hown4 hb2
        go_wp2_with (at_builtin; (refine wpList_app rfl (.tmp 21) (.tmp 26) rfl rfl rfl hown3 hlow ?_ ?_; (· rw [HHL.out]; omega); intro v5 w5 hown5))
        go_ret
        rw [HH.out] at hown5
        exact RetB.mk hown5
end Go.Proofs.YtbocpgffddkfdaaGreatDoor
