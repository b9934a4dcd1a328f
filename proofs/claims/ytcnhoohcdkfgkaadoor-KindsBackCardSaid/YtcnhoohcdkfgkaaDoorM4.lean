/-
  Texts of this proof, one behind the other: Dod, RefDod1, Law.
-/
import Derived.Test.YtcnhoohcdkfgkaaDoorM2
import Derived.Test.YtcnhoohcdkfgkaaDoorLaw0
import Derived.Test.YtcnhoohcdkfgkaaDoorM1

/-
  The contracts of layer 5's small functions: signed, headSize, onesFor; and what the table holds.
-/
namespace Go.Proofs.YtcnhoohcdkfgkaaDoor
open Go.RowKit

/-- the table is there -/
def RoomW (w : World) : Prop := 0 < w.heap.size ∧ ∀ i, i < 5 → w.cell? ⟨0, i, none⟩ = some (.int .i64 ((roomN i : Nat) : Int))
theorem RoomW.below {w w' : World} {B : Nat} (h : RoomW w) (hb : Below B w w') (hB : 0 < B) : RoomW w' :=
  ⟨by have := hb.size; have := h.1; omega, fun i hi => (hb.cell (p := ⟨0, i, none⟩) hB).trans (h.2 i hi)⟩
theorem RoomW.bel {w w' : World} (h : RoomW w) (hb : Below w.heap.size w w') : RoomW w' := h.below hb h.1
theorem RoomW.drewN {w : World} (h : RoomW w) (n : Nat) : RoomW (w.drewN n) := h
theorem RoomW.drew {w : World} (h : RoomW w) : RoomW w.drew := h

theorem u64_mod (x : Int) : IntKind.u64.wrap x = x % 18446744073709551616 := by simp [IntKind.wrap, IntKind.bits, IntKind.signed]
theorem wrap64_mod (x : Int) : wrap64 x = (x + 9223372036854775808) % 18446744073709551616 - 9223372036854775808 := by
  unfold wrap64; rfl
theorem sg_0 (x : Nat) : wrap64 (IntKind.u64.wrap ((x : Int) * 18446744073709551616)) / 18446744073709551616 = sgnN x 0 := by
  rw [u64_mod, wrap64_mod, sgn_zero]; omega
theorem sg_7 (x : Nat) : wrap64 (IntKind.u64.wrap ((x : Int) * 144115188075855872)) / 144115188075855872 = sgnN x 7 := by
  rw [u64_mod, wrap64_mod, sgn_7]; split <;> omega
theorem sg_9 (x : Nat) : wrap64 (IntKind.u64.wrap ((x : Int) * 36028797018963968)) / 36028797018963968 = sgnN x 9 := by
  rw [u64_mod, wrap64_mod, sgn_9]; split <;> omega
theorem sg_12 (x : Nat) : wrap64 (IntKind.u64.wrap ((x : Int) * 4503599627370496)) / 4503599627370496 = sgnN x 12 := by
  rw [u64_mod, wrap64_mod, sgn_12]; split <;> omega
theorem sg_64 (x : Nat) : wrap64 (x : Int) = sgnN x 64 := by
  rw [wrap64_mod, sgn_64]; split <;> omega

theorem signed_any (x k : Nat) (w : World) (hx : x ≤ 18446744073709551615) (hk : k ≤ 4) :
    Calls Tryd.prog 55 #[.int .u64 (x : Int), .int .i64 ((roomN k : Nat) : Int)] w fun e w' => e = .returned (.int .i64 (sgnN x (roomN k))) ∧ w = w' := by
  rcases room_cases hk with ⟨rfl, h1, _⟩ | ⟨rfl, h1, _⟩ | ⟨rfl, h1, _⟩ | ⟨rfl, h1, _⟩ | ⟨rfl, h1, _⟩ <;> rw [h1]
  · go_enter Tryd.func55, Tryd.ntmps55
    go_wp2
    go_ret
    rw [← sg_0]
    exact ⟨rfl, rfl⟩
  · go_enter Tryd.func55, Tryd.ntmps55
    go_wp2
    go_ret
    rw [← sg_7]
    exact ⟨rfl, rfl⟩
  · go_enter Tryd.func55, Tryd.ntmps55
    go_wp2
    go_ret
    rw [← sg_9]
    exact ⟨rfl, rfl⟩
  · go_enter Tryd.func55, Tryd.ntmps55
    go_wp2
    go_ret
    rw [← sg_12]
    exact ⟨rfl, rfl⟩
  · go_enter Tryd.func55, Tryd.ntmps55
    go_wp2
    go_ret
    rw [← sg_64]
    exact ⟨rfl, rfl⟩

theorem head_any (k : Nat) (w : World) (hk : k ≤ 4) :
    Calls Tryd.prog 51 #[.int .i64 (k : Int)] w fun e w' => e = .returned (.int .i64 ((headN k : Nat) : Int)) ∧ w = w' := by
  rcases (by omega : k = 0 ∨ k = 1 ∨ k = 2 ∨ k = 3 ∨ k = 4) with rfl | rfl | rfl | rfl | rfl
  all_goals
    go_enter Tryd.func51, Tryd.ntmps51
    go_wp2
    go_ret
    exact ⟨rfl, rfl⟩
theorem head_quiet (k : Nat) (w : World) (n : Nat) (hk : k ≤ 4) :
    Calls Tryd.prog 51 #[.int .i64 (k : Int)] (w.drewN n) fun e w' => e = .returned (.int .i64 ((headN k : Nat) : Int)) ∧ ∃ m, w' = w.drewN m :=
  (head_any k (w.drewN n) hk).mono fun _ _ ⟨he, hw⟩ => ⟨he, n, hw.symm⟩

theorem onesfor_any (v : Int) (w : World) (hv : -9223372036854775808 ≤ v ∧ v ≤ 9223372036854775807) (hR : RoomW w) :
    Calls Tryd.prog 50 #[.int .i64 v] w fun e w' => e = .returned (.int .i64 ((onesN v : Nat) : Int)) ∧ w = w' := by
  have h4 := onesN_le v
  have HS := Lib.hid (fun k (hk : k ≤ 4) => sgn_room hv hk)
  have hu := un64_cast v
  have HU := Lib.hid (un64_lt v)
  have huw : IntKind.u64.wrap v = ((un64 v : Nat) : Int) := by rw [u64_mod, hu]
  clear hu
  have HC := Lib.hid hR.2
  generalize onesN v = m at *
  go_enter Tryd.func50, Tryd.ntmps50
  go_wp2
  go_loop [3] (fun i => ∃ k : Nat, k ≤ m ∧ i = .int .i64 (k : Int)) (fun i => m - (intOf i).toNat)
  case atStart => exact ⟨0, by omega, rfl⟩
  case round =>
    obtain ⟨k, hk, rfl⟩ := hrel
    have hc := HC.out k (by omega)
    by_cases hlt : k < m
    · have hne : (sgnN (un64 v) (roomN k) != v) = true := by
        have := HS.out k (by omega)
        simp; omega
      go_wp2_with (go_at_call 55; refine (signed_any (un64 v) k _ HU.out (by omega)).mono ?_; rintro e w1 ⟨rfl, rfl⟩)
      go_round
      case rel => exact ⟨k + 1, by omega, by go_num⟩
      case measure => simp [intOf]; omega
    · obtain rfl : k = m := by omega
      have hne : (sgnN (un64 v) (roomN k) != v) = false := by
        have := HS.out k (by omega)
        simp; omega
      go_wp2_with (go_at_call 55; refine (signed_any (un64 v) k _ HU.out (by omega)).mono ?_; rintro e w1 ⟨rfl, rfl⟩)
      go_ret
      exact ⟨rfl, rfl⟩

end Go.Proofs.YtcnhoohcdkfgkaaDoor

/-
  The contracts of the reference's sizes, Room and Ones: with how many 1s a number's code begins.
-/
namespace Go.Proofs.YtcnhoohcdkfgkaaDoor
open Go.RowKit

set_option maxRecDepth 20000 in
set_option maxHeartbeats 400000 in
theorem sizes_any (k : Nat) (w : World) (hk : k ≤ 4) :
    Calls Tryd.prog 40 #[.int .i64 (k : Int)] w fun e w' => e = .returned (.int .i64 ((roomN k : Nat) : Int)) ∧ Below w.heap.size w w' := by
  rcases (by omega : k = 0 ∨ k = 1 ∨ k = 2 ∨ k = 3 ∨ k = 4) with rfl | rfl | rfl | rfl | rfl
  all_goals
    go_enter Tryd.func40, Tryd.ntmps40
    go_wp2
    go_ret
    exact ⟨rfl, (Below.refl _ _).alloc (Nat.le_refl _) _⟩

theorem pow_one_le (i n : Nat) (h : i ≤ n) (hn : n ≤ 12) : 2 ^ i ≤ 4096 := by
  have := Nat.pow_le_pow_right (n := 2) (by omega) (by omega : i ≤ 12)
  omega

set_option maxRecDepth 20000 in
set_option maxHeartbeats 400000 in
theorem room_any (v : Int) (m T : Nat) (w : World) (_hv : -9223372036854775808 ≤ v ∧ v ≤ 9223372036854775807) (hm : m ≤ 11) (hT : 2 ^ m = T) :
    Calls Tryd.prog 52 #[.int .i64 v, .int .i64 ((m + 1 : Nat) : Int)] w fun e w' => e = .returned (.bool (decide (-(T : Int) ≤ v ∧ v ≤ (T : Int) - 1))) ∧ w = w' := by
  have HT := Lib.hid hT
  clear hT
  go_enter Tryd.func52, Tryd.ntmps52
  go_wp2
  go_loop [5, 6] (fun t i => ∃ j : Nat, j ≤ m ∧ i = .int .i64 (((j + 1 : Nat)) : Int) ∧ t = .int .i64 ((2 ^ j : Nat) : Int)) (fun _ i => m + 1 - (intOf i).toNat)
  case atStart => exact ⟨0, by omega, rfl, rfl⟩
  case round =>
    obtain ⟨j, hj, rfl, rfl⟩ := hrel
    have h1 := pow_one_le j m (by omega) (by omega)
    have HP := Lib.hid (Nat.pow_succ 2 j)
    by_cases hlt : j < m
    · generalize 2 ^ j = t at *
      go_wp2
      go_round
      case rel => exact ⟨j + 1, by omega, by go_num, by rw [HP.out]; go_num⟩
      case measure => simp [intOf]; omega
    · obtain rfl : j = m := by omega
      clear HP
      have h0 : 1 ≤ 2 ^ j := Nat.one_le_two_pow
      rw [HT.out] at h1 h0 ⊢
      by_cases ha : -(T : Int) ≤ v
      · by_cases hb : v ≤ (T : Int) - 1
        · go_wp2
          go_ret
          refine ⟨congrArg Ending.returned (congrArg Value.bool ?_), rfl⟩
          first | (simp; done) | (simp; omega)
        · go_wp2
          go_ret
          refine ⟨congrArg Ending.returned (congrArg Value.bool ?_), rfl⟩
          first | (simp; done) | (simp; omega)
      · go_wp2
        go_ret
        refine ⟨congrArg Ending.returned (congrArg Value.bool ?_), rfl⟩
        first | (simp; done) | (simp; omega)

theorem ones_room (v : Int) (k : Nat) (hk : 1 ≤ k ∧ k ≤ 3) : ∃ m T : Nat, roomN k = m + 1 ∧ m ≤ 11 ∧ 2 ^ m = T ∧ decide (-(T : Int) ≤ v ∧ v ≤ (T : Int) - 1) = decide (onesN v ≤ k) := by
  obtain ⟨_, f1, f2, f3⟩ := ones_fit v
  rcases (by omega : k = 1 ∨ k = 2 ∨ k = 3) with rfl | rfl | rfl
  · exact ⟨6, 64, rfl, by omega, rfl, decide_eq_decide.2 (by rw [f1]; omega)⟩
  · exact ⟨8, 256, rfl, by omega, rfl, decide_eq_decide.2 (by rw [f2]; omega)⟩
  · exact ⟨11, 2048, rfl, by omega, rfl, decide_eq_decide.2 (by rw [f3]; omega)⟩

set_option maxRecDepth 20000 in
set_option maxHeartbeats 400000 in
theorem refones_any (v : Int) (w : World) (hv : -9223372036854775808 ≤ v ∧ v ≤ 9223372036854775807) :
    Calls Tryd.prog 39 #[.int .i64 v] w fun e w' => e = .returned (.int .i64 ((onesN v : Nat) : Int)) ∧ Below w.heap.size w w' := by
  by_cases h0 : v = 0
  · subst h0
    go_enter Tryd.func39, Tryd.ntmps39
    go_wp2
    go_ret
    exact ⟨rfl, Below.refl _ _⟩
  · have hz : (v == 0) = false := by simp [h0]
    have h1 : 1 ≤ onesN v := by have := (ones_fit v).1; omega
    have h4 := onesN_le v
    have HR := Lib.hid (fun k (hk : 1 ≤ k ∧ k ≤ 3) => ones_room v k hk)
    clear h0
    generalize onesN v = n at *
    go_enter Tryd.func39, Tryd.ntmps39
    go_wp2
    clear hz
    go_loopw [3] (fun i wr => ∃ k : Nat, 1 ≤ k ∧ k ≤ n ∧ i = .int .i64 (k : Int) ∧ Below w.heap.size w wr) (fun i _ => 4 - (intOf i).toNat)
    case atStart => exact ⟨1, by omega, by omega, rfl, Below.refl _ _⟩
    case round =>
      obtain ⟨k, hk1, hk, rfl, hb⟩ := hrel
      by_cases hk4 : k < 4
      · obtain ⟨m, T, hm, hm2, hT, hd⟩ := HR.out k (by omega)
        have HD := Lib.hid hd
        have HT := Lib.hid hT
        clear hd hT
        have HM := Lib.hid hm
        clear hm
        by_cases hkn : k < n
        · go_wp2_with fail
          refine (sizes_any k _ (by omega)).mono ?_
          rintro e w2 ⟨rfl, hb2⟩
          rw [HM.out]
          go_wp2_with fail
          refine (room_any v m T _ hv hm2 HT.out).mono ?_
          rintro e w3 ⟨rfl, rfl⟩
          rw [HD.out, decide_eq_false (by omega : ¬ n ≤ k)]
          go_wp2
          go_roundw
          case rel => exact ⟨k + 1, by omega, by omega, by go_num, hb.trans (hb2.mono hb.size)⟩
          case measure => simp [intOf]; omega
        · obtain rfl : k = n := by omega
          go_wp2_with fail
          refine (sizes_any k _ (by omega)).mono ?_
          rintro e w2 ⟨rfl, hb2⟩
          rw [HM.out]
          go_wp2_with fail
          refine (room_any v m T _ hv hm2 HT.out).mono ?_
          rintro e w3 ⟨rfl, rfl⟩
          rw [HD.out, decide_eq_true (Nat.le_refl k)]
          go_wp2
          go_ret
          exact ⟨rfl, hb.trans (hb2.mono hb.size)⟩
      · obtain rfl : k = n := by omega
        obtain rfl : k = 4 := by omega
        go_wp2
        go_ret
        exact ⟨rfl, hb⟩

end Go.Proofs.YtcnhoohcdkfgkaaDoor

/-
  An argument of a law opened as bytes.
-/
namespace Go.Proofs.YtcnhoohcdkfgkaaDoor
open Go.ChangeShapes Go.WideShapes Go.ChangeAt Go.RowKit

theorem Tryd.cellsB : Tryd.prog.cellsOf 5 = 1 := by kernel_rfl

section
variable {H : Type} {enc : TypeId × Value → H} {W W' : World}
set_option maxRecDepth 20000 in
/-- an argument of type []byte -/
theorem open_bytes {base : Nat} {v : Value} {d : DataW H} {p : List MemPlace} (hv : Value.okWide Tryd.prog W .any base 23 v) (h : DataW.Trod enc Tryd.prog W 0 (fun _ => true) true 23 v d p) :
    ∃ A n c bs, v = .slice A n c ∧ Rd W W.heap.size A n c bs ∧ (∀ x ∈ bs, x < 256) ∧ n ≤ 9223372036854775807 := by
  obtain ⟨A, n, c, rfl⟩ := okWide_slice Tryd.underlying23 hv
  obtain ⟨fuel, hf⟩ := h
  rcases open_ints Tryd.underlying23 Tryd.underlying5 Tryd.cellsB hf with ⟨hcs, _⟩ | ⟨a, len, cap, zs, hcs, _, hl, hm, hz, _, hcell, hwz⟩
  · simp [Value.cells] at hcs
    obtain ⟨rfl, rfl, rfl⟩ := hcs
    exact ⟨none, 0, 0, [], rfl, Rd.nil_, by simp, by omega⟩
  · simp [Value.cells] at hcs
    obtain ⟨rfl, rfl, rfl⟩ := hcs
    simp only [if_true] at hz
    have hw : ∀ x ∈ zs, 0 ≤ x ∧ x < 256 := by
      intro x hx
      have := hwz x hx
      simp [Lit.wf, IntKind.min, IntKind.max, IntKind.signed, IntKind.bits] at this
      omega
    refine ⟨some a, n, c, (zs.take n).map Int.toNat, rfl, ⟨by simp; omega, hl, (fun h => by cases h), fun hn => ⟨a, rfl, ?_, fun j hj => ?_⟩⟩, ?_, by unfold maxLen at hm; omega⟩
    · have := World.block_lt_of_cell? W _ (hcell 0 (by omega))
      rwa [add_block] at this
    · rw [hcell j (by omega)]
      have hjz : j < zs.length := by omega
      have h2 := hw zs[j] (List.getElem_mem hjz)
      simp only [List.getD_eq_getElem?_getD, List.getElem?_map, List.getElem?_take_of_lt hj, List.getElem?_eq_getElem hjz, Option.map_some, Option.getD_some]
      rw [Int.toNat_of_nonneg h2.1]
    · intro x hx
      obtain ⟨y, hy, rfl⟩ := List.mem_map.1 hx
      have := hw y (List.mem_of_mem_take hy)
      omega
end

end Go.Proofs.YtcnhoohcdkfgkaaDoor
