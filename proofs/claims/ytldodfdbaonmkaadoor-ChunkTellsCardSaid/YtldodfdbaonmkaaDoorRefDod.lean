/-
  The contracts of the reference's Dod, starts and signed: a number's code; whether bits begin with others; the number of two's complement.
-/
import Derived.Test.YtldodfdbaonmkaaDoorRefDod1
import Derived.Test.YtldodfdbaonmkaaDoorLow
import Derived.Test.YtldodfdbaonmkaaDoorZeros
import Derived.Deep.RegionWith
namespace Go.Proofs.YtldodfdbaonmkaaDoor
open Go.RowKit

theorem enc_ones (k : Nat) : enc (List.replicate k true) = List.replicate k 1 := by simp [enc]
theorem head_more {k : Nat} (hk : k < 4) : List.replicate k 1 ++ [0] = enc (headL k) := by
  unfold headL
  rw [if_pos hk, enc_app, enc_ones]; rfl
theorem head_four {k : Nat} (hk : k ≤ 4) (h : ¬ k < 4) : List.replicate k 1 = enc (headL k) := by
  obtain rfl : k = 4 := by omega
  rfl

set_option maxRecDepth 20000 in
set_option maxHeartbeats 400000 in
theorem refdod_any (v : Int) (w : World) (hv : -9223372036854775808 ≤ v ∧ v ≤ 9223372036854775807) :
    Calls Tryd.prog 24 #[.int .i64 v] w (RetB w (enc (codeD v))) := by
  obtain ⟨k, hk⟩ : ∃ k, onesN v = k := ⟨_, rfl⟩
  have hk4 : k ≤ 4 := by rw [← hk]; exact onesN_le v
  have HK := Lib.hid hk
  clear hk
  obtain ⟨r, HE⟩ : ∃ r, Hid (enc (codeD v) = r) := ⟨_, Lib.hid rfl⟩
  rw [HE.out]
  have HH : Hid (enc (headL k) ++ enc (low (un64 v) (roomN k)) = r) := Lib.hid (by rw [← HE.out, ← enc_app]; unfold codeD; rw [HK.out])
  have HHL : Hid ((enc (headL k)).length = headN k) := Lib.hid (by rw [enc_length, headL_length hk4])
  have hhl := head_le k
  have huw : IntKind.u64.wrap v = ((un64 v : Nat) : Int) := by rw [u64_mod, un64_cast]
  go_enter Tryd.func24, Tryd.ntmps24
  go_wp2_with fail
  refine (refones_any v _ hv).mono ?_
  rintro e w1 ⟨rfl, hb1⟩
  rw [HK.out]
  go_wp2_with fail
  go_loopw [4, 5] (fun o i wr => ∃ j : Nat, j ≤ k ∧ i = .int .i64 (j : Int) ∧ Own w wr o (List.replicate j 1)) (fun _ i _ => k - (intOf i).toNat)
  case atStart => exact ⟨0, by omega, rfl, Own.nil_ _ _ hb1⟩
  case round =>
    clear hb1
    obtain ⟨j, hj, rfl, hown⟩ := hrel
    have HL : Hid ((List.replicate j 1).length = j) := Lib.hid List.length_replicate
    by_cases hjk : j < k
    · go_wp2_with (at_builtin; (refine wpList_app rfl (.tmp 13) (.tmp 14) rfl rfl rfl (hown.alloc _) (Rd.one _ 1) (by rw [HL.out]; omega) ?_; intro v' w' hown3))
      go_roundw
      case rel => exact ⟨j + 1, by omega, by go_num, by rw [List.replicate_succ']; exact hown3⟩
      case measure => simp [intOf]; omega
    · obtain rfl : j = k := by omega
      by_cases h4 : j < 4
      · go_wp2_with (at_builtin; (refine wpList_app rfl (.tmp 18) (.tmp 19) rfl rfl rfl (hown.alloc _) (Rd.one _ 0) (by rw [HL.out]; omega) ?_; intro v' w' hown3))
        rw [head_more h4] at hown3
        refine (sizes_any j _ hk4).mono ?_
        rintro e w2 ⟨rfl, hb2⟩
        replace hown3 := hown3.keep hb2
        go_wp2_with fail
        refine (low_any (un64 v) (roomN j) _ (un64_lt v) (room_le j)).mono ?_
        rintro e w3 ⟨A3, c3, rfl, hown4⟩
        replace hown3 := hown3.keep hown4.bel
        have hlow := hown4.rd
        have HLL : Hid ((enc (low (un64 v) (roomN j))).length = roomN j) := Lib.hid (by rw [enc_length, low_length])
        have hrl := room_le j
        rw [HLL.out] at hlow ⊢
        clear hown4 hb2
        go_wp2_with (at_builtin; (refine wpList_app rfl (.tmp 21) (.tmp 26) rfl rfl rfl hown3 hlow ?_ ?_; (· rw [HHL.out]; omega); intro v5 w5 hown5))
        go_ret
        rw [HH.out] at hown5
        exact RetB.mk hown5
      · have hown3 := hown
        rw [head_four hk4 h4] at hown3
        go_wp2_with fail
        refine (sizes_any j _ hk4).mono ?_
        rintro e w2 ⟨rfl, hb2⟩
        replace hown3 := hown3.keep hb2
        go_wp2_with fail
        refine (low_any (un64 v) (roomN j) _ (un64_lt v) (room_le j)).mono ?_
        rintro e w3 ⟨A3, c3, rfl, hown4⟩
        replace hown3 := hown3.keep hown4.bel
        have hlow := hown4.rd
        have HLL : Hid ((enc (low (un64 v) (roomN j))).length = roomN j) := Lib.hid (by rw [enc_length, low_length])
        have hrl := room_le j
        rw [HLL.out] at hlow ⊢
        clear hown4 hb2
        go_wp2_with (at_builtin; (refine wpList_app rfl (.tmp 21) (.tmp 26) rfl rfl rfl hown3 hlow ?_ ?_; (· rw [HHL.out]; omega); intro v5 w5 hown5))
        go_ret
        rw [HH.out] at hown5
        exact RetB.mk hown5

end Go.Proofs.YtldodfdbaonmkaaDoor
