/-
  The contracts of layer 5's small functions: signed, headSize, onesFor; and what the table holds.
-/
import Derived.Test.YtldodfdbaonmkaaDoorMem
import Derived.Test.YtldodfdbaonmkaaDoorLaw0
import Derived.Test.YtldodfdbaonmkaaDoorDod1
namespace Go.Proofs.YtldodfdbaonmkaaDoor
open Go.RowKit

/-- the table is there -/
def RoomW (w : World) : Prop := 0 < w.heap.size ∧ ∀ i, i < 5 → w.cell? ⟨0, i, none⟩ = some (.int .i64 ((roomN i : Nat) : Int))
theorem RoomW.below {w w' : World} {B : Nat} (h : RoomW w) (hb : Below B w w') (hB : 0 < B) : RoomW w' :=
  ⟨by have := hb.size; have := h.1; omega, fun i hi => (hb.cell (p := ⟨0, i, none⟩) hB).trans (h.2 i hi)⟩
theorem RoomW.bel {w w' : World} (h : RoomW w) (hb : Below w.heap.size w w') : RoomW w' := h.below hb h.1
theorem RoomW.drewN {w : World} (h : RoomW w) (n : Nat) : RoomW (w.drewN n) := h
theorem RoomW.drew {w : World} (h : RoomW w) : RoomW w.drew := h

theorem u64_mod (x : Int) : IntKind.u64.wrap x = x % 18446744073709551616 := by simp [IntKind.wrap, IntKind.bits, IntKind.signed]
theorem wrap64_mod (x : Int) : wrap64 x = (x + 9223372036854775808) % 18446744073709551616 - 9223372036854775808 := by
  unfold wrap64; rfl
theorem sg_0 (x : Nat) : wrap64 (IntKind.u64.wrap ((x : Int) * 18446744073709551616)) / 18446744073709551616 = sgnN x 0 := by
  rw [u64_mod, wrap64_mod, sgn_zero]; omega
theorem sg_7 (x : Nat) : wrap64 (IntKind.u64.wrap ((x : Int) * 144115188075855872)) / 144115188075855872 = sgnN x 7 := by
  rw [u64_mod, wrap64_mod, sgn_7]; split <;> omega
theorem sg_9 (x : Nat) : wrap64 (IntKind.u64.wrap ((x : Int) * 36028797018963968)) / 36028797018963968 = sgnN x 9 := by
  rw [u64_mod, wrap64_mod, sgn_9]; split <;> omega
theorem sg_12 (x : Nat) : wrap64 (IntKind.u64.wrap ((x : Int) * 4503599627370496)) / 4503599627370496 = sgnN x 12 := by
  rw [u64_mod, wrap64_mod, sgn_12]; split <;> omega
theorem sg_64 (x : Nat) : wrap64 (x : Int) = sgnN x 64 := by
  rw [wrap64_mod, sgn_64]; split <;> omega

theorem signed_any (x k : Nat) (w : World) (hx : x ≤ 18446744073709551615) (hk : k ≤ 4) :
    Calls Tryd.prog 43 #[.int .u64 (x : Int), .int .i64 ((roomN k : Nat) : Int)] w fun e w' => e = .returned (.int .i64 (sgnN x (roomN k))) ∧ w = w' := by
  rcases room_cases hk with ⟨rfl, h1, _⟩ | ⟨rfl, h1, _⟩ | ⟨rfl, h1, _⟩ | ⟨rfl, h1, _⟩ | ⟨rfl, h1, _⟩ <;> rw [h1]
  · go_enter Tryd.func43, Tryd.ntmps43
    go_wp2
    go_ret
    rw [← sg_0]
    exact ⟨rfl, rfl⟩
  · go_enter Tryd.func43, Tryd.ntmps43
    go_wp2
    go_ret
    rw [← sg_7]
    exact ⟨rfl, rfl⟩
  · go_enter Tryd.func43, Tryd.ntmps43
    go_wp2
    go_ret
    rw [← sg_9]
    exact ⟨rfl, rfl⟩
  · go_enter Tryd.func43, Tryd.ntmps43
    go_wp2
    go_ret
    rw [← sg_12]
    exact ⟨rfl, rfl⟩
  · go_enter Tryd.func43, Tryd.ntmps43
    go_wp2
    go_ret
    rw [← sg_64]
    exact ⟨rfl, rfl⟩

theorem head_any (k : Nat) (w : World) (hk : k ≤ 4) :
    Calls Tryd.prog 37 #[.int .i64 (k : Int)] w fun e w' => e = .returned (.int .i64 ((headN k : Nat) : Int)) ∧ w = w' := by
  rcases (by omega : k = 0 ∨ k = 1 ∨ k = 2 ∨ k = 3 ∨ k = 4) with rfl | rfl | rfl | rfl | rfl
  all_goals
    go_enter Tryd.func37, Tryd.ntmps37
    go_wp2
    go_ret
    exact ⟨rfl, rfl⟩
theorem head_quiet (k : Nat) (w : World) (n : Nat) (hk : k ≤ 4) :
    Calls Tryd.prog 37 #[.int .i64 (k : Int)] (w.drewN n) fun e w' => e = .returned (.int .i64 ((headN k : Nat) : Int)) ∧ ∃ m, w' = w.drewN m :=
  (head_any k (w.drewN n) hk).mono fun _ _ ⟨he, hw⟩ => ⟨he, n, hw.symm⟩

theorem onesfor_any (v : Int) (w : World) (hv : -9223372036854775808 ≤ v ∧ v ≤ 9223372036854775807) (hR : RoomW w) :
    Calls Tryd.prog 36 #[.int .i64 v] w fun e w' => e = .returned (.int .i64 ((onesN v : Nat) : Int)) ∧ w = w' := by
  have h4 := onesN_le v
  have HS := Lib.hid (fun k (hk : k ≤ 4) => sgn_room hv hk)
  have hu := un64_cast v
  have HU := Lib.hid (un64_lt v)
  have huw : IntKind.u64.wrap v = ((un64 v : Nat) : Int) := by rw [u64_mod, hu]
  clear hu
  have HC := Lib.hid hR.2
  generalize onesN v = m at *
  go_enter Tryd.func36, Tryd.ntmps36
  go_wp2
  go_loop [3] (fun i => ∃ k : Nat, k ≤ m ∧ i = .int .i64 (k : Int)) (fun i => m - (intOf i).toNat)
  case atStart => exact ⟨0, by omega, rfl⟩
  case round =>
    obtain ⟨k, hk, rfl⟩ := hrel
    have hc := HC.out k (by omega)
    by_cases hlt : k < m
    · have hne : (sgnN (un64 v) (roomN k) != v) = true := by
        have := HS.out k (by omega)
        simp; omega
      go_wp2_with (go_at_call 43; refine (signed_any (un64 v) k _ HU.out (by omega)).mono ?_; rintro e w1 ⟨rfl, rfl⟩)
      go_round
      case rel => exact ⟨k + 1, by omega, by go_num⟩
      case measure => simp [intOf]; omega
    · obtain rfl : k = m := by omega
      have hne : (sgnN (un64 v) (roomN k) != v) = false := by
        have := HS.out k (by omega)
        simp; omega
      go_wp2_with (go_at_call 43; refine (signed_any (un64 v) k _ HU.out (by omega)).mono ?_; rintro e w1 ⟨rfl, rfl⟩)
      go_ret
      exact ⟨rfl, rfl⟩

end Go.Proofs.YtldodfdbaonmkaaDoor
