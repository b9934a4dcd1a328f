/-
  Texts of this proof, one behind the other: Dod, DodCode.
-/
import Derived.Test.YtaebljoacffghaaGreatDoorWords
import Derived.Test.YtaebljoacffghaaGreatDoorPlain
import Derived.Test.YtaebljoacffghaaGreatDoorPut1
import Derived.Deep.DeepCutAuto

/-
  The contracts of layer 5's small functions: signed, headSize, onesFor; and what the table holds.
-/
namespace Go.Proofs.YtaebljoacffghaaGreatDoor
open Go.RowKit

/-- the table is there -/
def RoomW (w : World) : Prop := 0 < w.heap.size ∧ ∀ i, i < 5 → w.cell? ⟨0, i, none⟩ = some (.int .i64 ((roomN i : Nat) : Int))
theorem RoomW.below {w w' : World} {B : Nat} (h : RoomW w) (hb : Below B w w') (hB : 0 < B) : RoomW w' :=
  ⟨by have := hb.size; have := h.1; omega, fun i hi => (hb.cell (p := ⟨0, i, none⟩) hB).trans (h.2 i hi)⟩
theorem RoomW.bel {w w' : World} (h : RoomW w) (hb : Below w.heap.size w w') : RoomW w' := h.below hb h.1
theorem RoomW.drewN {w : World} (h : RoomW w) (n : Nat) : RoomW (w.drewN n) := h
theorem RoomW.drew {w : World} (h : RoomW w) : RoomW w.drew := h

theorem u64_mod (x : Int) : IntKind.u64.wrap x = x % 18446744073709551616 := by simp [IntKind.wrap, IntKind.bits, IntKind.signed]
theorem wrap64_mod (x : Int) : wrap64 x = (x + 9223372036854775808) % 18446744073709551616 - 9223372036854775808 := by
  unfold wrap64; rfl
theorem sg_0 (x : Nat) : wrap64 (IntKind.u64.wrap ((x : Int) * 18446744073709551616)) / 18446744073709551616 = sgnN x 0 := by
  rw [u64_mod, wrap64_mod, sgn_zero]; omega
theorem sg_7 (x : Nat) : wrap64 (IntKind.u64.wrap ((x : Int) * 144115188075855872)) / 144115188075855872 = sgnN x 7 := by
  rw [u64_mod, wrap64_mod, sgn_7]; split <;> omega
theorem sg_9 (x : Nat) : wrap64 (IntKind.u64.wrap ((x : Int) * 36028797018963968)) / 36028797018963968 = sgnN x 9 := by
  rw [u64_mod, wrap64_mod, sgn_9]; split <;> omega
theorem sg_12 (x : Nat) : wrap64 (IntKind.u64.wrap ((x : Int) * 4503599627370496)) / 4503599627370496 = sgnN x 12 := by
  rw [u64_mod, wrap64_mod, sgn_12]; split <;> omega
theorem sg_64 (x : Nat) : wrap64 (x : Int) = sgnN x 64 := by
  rw [wrap64_mod, sgn_64]; split <;> omega

theorem signed_any (x k : Nat) (w : World) (hx : x ≤ 18446744073709551615) (hk : k ≤ 4) :
    Calls Tryz.prog 135 #[.int .u64 (x : Int), .int .i64 ((roomN k : Nat) : Int)] w fun e w' => e = .returned (.int .i64 (sgnN x (roomN k))) ∧ w = w' := by
  rcases room_cases hk with ⟨rfl, h1, _⟩ | ⟨rfl, h1, _⟩ | ⟨rfl, h1, _⟩ | ⟨rfl, h1, _⟩ | ⟨rfl, h1, _⟩ <;> rw [h1]
  · go_enter Tryz.func135, Tryz.ntmps135
    go_wp2
    go_ret
    rw [← sg_0]
    exact ⟨rfl, rfl⟩
  · go_enter Tryz.func135, Tryz.ntmps135
    go_wp2
    go_ret
    rw [← sg_7]
    exact ⟨rfl, rfl⟩
  · go_enter Tryz.func135, Tryz.ntmps135
    go_wp2
    go_ret
    rw [← sg_9]
    exact ⟨rfl, rfl⟩
  · go_enter Tryz.func135, Tryz.ntmps135
    go_wp2
    go_ret
    rw [← sg_12]
    exact ⟨rfl, rfl⟩
  · go_enter Tryz.func135, Tryz.ntmps135
    go_wp2
    go_ret
    rw [← sg_64]
    exact ⟨rfl, rfl⟩

theorem head_any (k : Nat) (w : World) (hk : k ≤ 4) :
    Calls Tryz.prog 130 #[.int .i64 (k : Int)] w fun e w' => e = .returned (.int .i64 ((headN k : Nat) : Int)) ∧ w = w' := by
  rcases (by omega : k = 0 ∨ k = 1 ∨ k = 2 ∨ k = 3 ∨ k = 4) with rfl | rfl | rfl | rfl | rfl
  all_goals
    go_enter Tryz.func130, Tryz.ntmps130
    go_wp2
    go_ret
    exact ⟨rfl, rfl⟩
theorem head_quiet (k : Nat) (w : World) (n : Nat) (hk : k ≤ 4) :
    Calls Tryz.prog 130 #[.int .i64 (k : Int)] (w.drewN n) fun e w' => e = .returned (.int .i64 ((headN k : Nat) : Int)) ∧ ∃ m, w' = w.drewN m :=
  (head_any k (w.drewN n) hk).mono fun _ _ ⟨he, hw⟩ => ⟨he, n, hw.symm⟩

theorem onesfor_any (v : Int) (w : World) (hv : -9223372036854775808 ≤ v ∧ v ≤ 9223372036854775807) (hR : RoomW w) :
    Calls Tryz.prog 129 #[.int .i64 v] w fun e w' => e = .returned (.int .i64 ((onesN v : Nat) : Int)) ∧ w = w' := by
  have h4 := onesN_le v
  have HS := Lib.hid (fun k (hk : k ≤ 4) => sgn_room hv hk)
  have hu := un64_cast v
  have HU := Lib.hid (un64_lt v)
  have huw : IntKind.u64.wrap v = ((un64 v : Nat) : Int) := by rw [u64_mod, hu]
  clear hu
  have HC := Lib.hid hR.2
  generalize onesN v = m at *
  go_enter Tryz.func129, Tryz.ntmps129
  go_wp2
  go_loop [3] (fun i => ∃ k : Nat, k ≤ m ∧ i = .int .i64 (k : Int)) (fun i => m - (intOf i).toNat)
  case atStart => exact ⟨0, by omega, rfl⟩
  case round =>
    obtain ⟨k, hk, rfl⟩ := hrel
    have hc := HC.out k (by omega)
    by_cases hlt : k < m
    · have hne : (sgnN (un64 v) (roomN k) != v) = true := by
        have := HS.out k (by omega)
        simp; omega
      go_wp2_with (go_at_call 135; refine (signed_any (un64 v) k _ HU.out (by omega)).mono ?_; rintro e w1 ⟨rfl, rfl⟩)
      go_round
      case rel => exact ⟨k + 1, by omega, by go_num⟩
      case measure => simp [intOf]; omega
    · obtain rfl : k = m := by omega
      have hne : (sgnN (un64 v) (roomN k) != v) = false := by
        have := HS.out k (by omega)
        simp; omega
      go_wp2_with (go_at_call 135; refine (signed_any (un64 v) k _ HU.out (by omega)).mono ?_; rintro e w1 ⟨rfl, rfl⟩)
      go_ret
      exact ⟨rfl, rfl⟩

end Go.Proofs.YtaebljoacffghaaGreatDoor

/-
  The contract of layer 5's Code: a number's code as bits, in new memory.
-/
namespace Go.Proofs.YtaebljoacffghaaGreatDoor
open Go.RowKit

theorem low_ones (k : Nat) : low (2 ^ k - 1) k = List.replicate k true := by
  apply getD_ext
  · rw [low_length, List.length_replicate]
  · intro i hi
    rw [low_length] at hi
    rw [low_getD _ _ _ hi, Nat.testBit_two_pow_sub_one]
    have : k - 1 - i < k := by omega
    simp [List.getD_eq_getElem?_getD, hi, this]
theorem low_zeros (n : Nat) : low 0 n = List.replicate n false := by
  apply getD_ext
  · rw [low_length, List.length_replicate]
  · intro i hi
    rw [low_length] at hi
    rw [low_getD _ _ _ hi]
    simp [List.getD_eq_getElem?_getD, hi]
theorem head_put {k : Nat} (hk : k ≤ 4) : List.replicate k true ++ low 0 (headN k - k) = headL k := by
  unfold headL headN
  rw [low_zeros]
  split
  · rw [Nat.add_sub_cancel_left]; rfl
  · have : 4 - k = 0 := by omega
    rw [this]; rfl
theorem shl_ones {k : Nat} (hk : k ≤ 4) : IntKind.u64.wrap (IntKind.u64.wrap (2 ^ k) - 1) = ((2 ^ k - 1 : Nat) : Int) := by
  rcases (by omega : k = 0 ∨ k = 1 ∨ k = 2 ∨ k = 3 ∨ k = 4) with rfl | rfl | rfl | rfl | rfl <;> decide

set_option maxRecDepth 20000 in
set_option maxHeartbeats 400000 in
theorem dcode_any (v : Int) (w : World) (hv : -9223372036854775808 ≤ v ∧ v ≤ 9223372036854775807) (hR : RoomW w) :
    Calls Tryz.prog 116 #[.int .i64 v] w (RetBits w (codeD v)) := by
  obtain ⟨k, hk⟩ : ∃ k, onesN v = k := ⟨_, rfl⟩
  have hk4 : k ≤ 4 := by rw [← hk]; exact onesN_le v
  have hb0 : Below w.heap.size w (w.alloc (.cells #[.slice none 0 0, .int .i64 0] 148)) := (Below.refl _ _).alloc (Nat.le_refl _) _
  have hR0 := hR.bel hb0
  have HS := shl_ones hk4
  have HK := Lib.hid hk
  clear hk
  obtain ⟨r, HE⟩ : ∃ r, Hid (codeD v = r) := ⟨_, Lib.hid rfl⟩
  rw [HE.out]
  go_enter Tryz.func116, Tryz.ntmps116
  go_wp2_with fail
  refine (onesfor_any v _ hv hR0).mono ?_
  rintro e w1 ⟨rfl, rfl⟩
  rw [HK.out]
  go_wp2_with fail
  refine (put_yes none 0 0 [] (2 ^ k - 1) k _ Rd.nil_ (by simp) (by omega)).mono ?_
  rw [List.nil_append, low_ones]
  rintro e w1 ⟨A1, c1, rfl, hown⟩
  have HL : Hid ((List.replicate k true).length = k) := Lib.hid (List.length_replicate)
  obtain ⟨p, HP⟩ : ∃ p, Hid (p = List.replicate k true) := ⟨_, Lib.hid rfl⟩
  rw [← HP.out] at hown HL ⊢
  rw [HL.out]
  go_upto_region 3 with fail
  have hx := BoxAt.new w1 (.slice A1 (pack p).length c1) (.int .i64 (k : Int)) 148
  have ho := ((BoxAt.new w (.slice none 0 0) (.int .i64 0) 148).below (hown.bel)).below ((Below.refl _ _).alloc (Nat.le_refl _) (.cells #[.slice A1 (pack p).length c1, .int .i64 (k : Int)] 148))
  have hlt : w.heap.size < w1.heap.size := by have := hown.bel.size; simp at this; omega
  have hown2 := (hown.alloc (.cells #[.slice A1 (pack p).length c1, .int .i64 (k : Int)] 148)).weak hb0
  generalize w1.alloc (.cells #[.slice A1 (pack p).length c1, .int .i64 (k : Int)] 148) = W at *
  generalize w1.heap.size = x at *
  clear hown hR0
  obtain ⟨xlt, xc0, xc1, xf0, xf1⟩ := hx
  obtain ⟨d, hd', hd1⟩ : ∃ d : Nat, headN k - k = d ∧ d ≤ 1 := ⟨_, rfl, by unfold headN; split <;> omega⟩
  have hd : IntKind.i64.wrap (((headN k : Nat) : Int) - (k : Int)) = (d : Int) := by
    have h1 : k ≤ headN k := by unfold headN; split <;> omega
    have h2 := head_le k
    rw [IntKind.wrap_i64]; omega
  obtain ⟨q, HQ⟩ : ∃ q, Hid (q = p ++ low 0 d) := ⟨_, Lib.hid rfl⟩
  obtain ⟨M, HM⟩ : ∃ M, Hid (q.length = M) := ⟨_, Lib.hid rfl⟩
  have hM : M ≤ 8 := by rw [← HM.out, HQ.out, List.length_append, low_length, HL.out]; omega
  have HD := Lib.hid hd'
  clear hd'
  go_cut [18] (fun _ wx => ∃ A c, Own w wx (.slice A (pack q).length c) (pack q) ∧ BoxAt wx x (.slice A (pack q).length c) (.int .i64 (M : Int)) ∧ BoxAt wx w.heap.size (.slice none 0 0) (.int .i64 0))
  case first =>
    have HPut := fun z hz => put_as A1 _ c1 p q 0 d z d k M W.drew hown2.drew.rd (by rw [HL.out]) hz rfl HQ.out HM.out (by rw [HL.out]; omega) (by omega)
    go_region_with (first
      | (go_at_call 130; ((with_reducible refine (head_any k _ hk4).mono ?_); rintro e w2 ⟨rfl, rfl⟩))
      | (go_at_call 125; (with_reducible refine (HPut 0 rfl).mono ?_); rintro e w3 ⟨A3, c3, rfl, hown3⟩; obtain ⟨ylt, yc0, yc1, yf0, yf1⟩ := (BoxAt.mk xlt xc0 xc1 xf0 xf1).drew.below hown3.bel))
    all_goals
      clear HPut
      go_wp2_with fail
      go_meet
      have h4 := hown3.past2 hown2.bel.drew (p := ⟨x, 0, none⟩) (q := ⟨x, 1, none⟩) (Nat.le_of_lt hlt) xlt (Nat.le_of_lt hlt) xlt (.slice A3 (pack q).length c3) (.int .i64 (M : Int))
      exact ⟨A3, c3, h4, (BoxAt.mk ylt yc0 yc1 yf0 yf1).set _ _, (ho.drew.below hown3.bel).other (Nat.ne_of_lt hlt) _ _⟩
  case rest =>
    clear hown2 ho xlt xc0 xc1 xf0 xf1 hd HS
    obtain ⟨A3, c3, hown, hx, ho⟩ := hcut
    obtain ⟨xlt, xc0, xc1, xf0, xf1⟩ := hx
    obtain ⟨olt, oc0, oc1, of0, of1⟩ := ho
    have huw : IntKind.u64.wrap v = ((un64 v : Nat) : Int) := by rw [u64_mod, un64_cast]
    have hRc := (hR.bel hown.bel).2 k (by omega)
    have HRR : Hid (r = q ++ low (un64 v) (roomN k)) := Lib.hid (by
      rw [← HE.out, HQ.out, HP.out, ← HD.out, head_put hk4]
      unfold codeD
      rw [HK.out])
    obtain ⟨N, HN⟩ : ∃ N, Hid (r.length = N) := ⟨_, Lib.hid rfl⟩
    have hk5 : (k : Int) < 5 := by omega
    have HPut := put_as A3 _ c3 q r (un64 v) (roomN k) _ _ _ N wc.drew hown.drew.rd rfl rfl rfl HRR.out HN.out (by rw [HM.out]; omega) (room_le k)
    rw [HM.out] at HPut
    go_wp2_with fail
    go_region_with (first
      | (go_at_call 125; (with_reducible refine HPut.mono ?_); rintro e w4 ⟨A4, c4, rfl, hown4⟩; obtain ⟨ylt, yc0, yc1, yf0, yf1⟩ := (BoxAt.mk olt oc0 oc1 of0 of1).drew.below hown4.bel))
    all_goals
      clear HPut
      have h4 := hown4.past2 hown.bel.drew (p := ⟨w.heap.size, 0, none⟩) (q := ⟨w.heap.size, 1, none⟩) (Nat.le_refl _) olt (Nat.le_refl _) olt (.slice A4 (pack r).length c4) (.int .i64 (N : Int))
      have hy := (BoxAt.mk ylt yc0 yc1 yf0 yf1).set (.slice A4 (pack r).length c4) (.int .i64 (N : Int))
      go_wp2
      have e0 := hy.c0
      have e1 := hy.c1
      refine bodyPost_ret (v := .agg #[.slice A4 (pack r).length c4, .int .i64 (N : Int)]) ?_ rfl (RetBits.mk h4 HN.out)
      simp [results, Tryz.results116, go_sem, e0, e1]

end Go.Proofs.YtaebljoacffghaaGreatDoor
