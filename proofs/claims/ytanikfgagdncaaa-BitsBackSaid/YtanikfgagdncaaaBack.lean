/-
  BitsBack, walked: it returns true, whatever the arguments.
-/
import Derived.Test.YtanikfgagdncaaaUp
import Derived.Test.YtanikfgagdncaaaLawBits
import Derived.Test.YtanikfgagdncaaaLaw
import Derived.Deep.DeepCutAuto
namespace Go.Proofs.Ytanikfgagdncaaa
open Go.RowKit

set_option maxHeartbeats 400000 in
theorem back_big (A1 A2 : Option Addr) (m1 c1 m2 c2 : Nat) (v : Int) (n : Int) (w : World) (hl : m1 ≤ 9223372036854775807 ∧ m2 ≤ 9223372036854775807)
    (h : 500 < m1 ∨ (m1 ≤ 500 ∧ 500 < m2) ∨ (m1 ≤ 500 ∧ m2 ≤ 500 ∧ n < 0) ∨ (m1 ≤ 500 ∧ m2 ≤ 500 ∧ 0 ≤ n ∧ 64 < n)) :
    Calls Try.prog 4 #[.slice A1 m1 c1, .slice A2 m2 c2, .int .u64 v, .int .i64 n] w (RetTrue w) := by
  rcases h with h | h | h | h
  all_goals
    go_enter Try.func4, Try.ntmps4
    go_wp2_with (go_at_call 5; refine (up_any _).mono ?_; rintro e w1 ⟨rfl, hb1⟩)
    go_ret
    exact ⟨rfl, hb1⟩

theorem take_one (bs : List Nat) (i : Nat) (h : i < 8 * bs.length) : takeB bs i 1 = true ∧ takeN bs i 1 = (bit bs i).toNat := by
  have h1 := takeB_yes (bs := bs) (a := i) (n := 1) (by omega) (by omega)
  refine ⟨h1.1, h1.2.trans ?_⟩
  rw [cut_succ _ _ _ (by rw [flat_length]; omega), cut_zero, num_snoc, flat_getD]
  simp [num_nil]
theorem take_put (p : List Bool) (v n : Nat) (hn : n ≤ 64) : takeB (pack (p ++ low v n)) p.length n = true ∧ takeN (pack (p ++ low v n)) p.length n = v % 2 ^ n := by
  have h1 := takeB_yes (bs := pack (p ++ low v n)) (a := p.length) (n := n) hn (by rw [pack_length, List.length_append, low_length]; omega)
  refine ⟨h1.1, h1.2.trans ?_⟩
  have := cut_app p (low v n)
  rw [low_length] at this
  rw [this, num_low]

theorem low_fact (v n : Nat) (hv : v ≤ 18446744073709551615) : if n < 64 then IntKind.u64.wrap ((2 : Int) ^ n) = ((2 ^ n : Nat) : Int) ∧ 1 ≤ 2 ^ n ∧ 2 ^ n ≤ 9223372036854775808 else v % 2 ^ n = v := by
  split
  · rename_i h
    have h1 : 2 ^ n ≤ 2 ^ 63 := Nat.pow_le_pow_right (by omega) (by omega)
    have h2 : 1 ≤ 2 ^ n := Nat.one_le_two_pow
    refine ⟨?_, h2, by omega⟩
    have e : ((2 : Int) ^ n) = ((2 ^ n : Nat) : Int) := by simp
    rw [e, wrap_u64 _ (by omega)]
  · rename_i h
    apply Nat.mod_eq_of_lt
    have h1 : 2 ^ 64 ≤ 2 ^ n := Nat.pow_le_pow_right (by omega) (by omega)
    omega
set_option maxRecDepth 100000 in
set_option maxHeartbeats 1000000 in
theorem back_in (A1 A2 : Option Addr) (m1 c1 m2 c2 : Nat) (l m : List Nat) (v n : Nat) (w : World)
    (h1 : Rd w w.heap.size A1 m1 c1 l) (h2 : Rd w w.heap.size A2 m2 c2 m) (hb1 : ∀ x ∈ l, x < 256) (hb2 : ∀ x ∈ m, x < 256)
    (hl1 : m1 ≤ 500) (hl2 : m2 ≤ 500) (hv : v ≤ 18446744073709551615) (hn : n ≤ 64) :
    Calls Try.prog 4 #[.slice A1 m1 c1, .slice A2 m2 c2, .int .u64 (v : Int), .int .i64 (n : Int)] w (RetTrue w) := by
  go_enter Try.func4, Try.ntmps4
  go_upto_region 4 with (go_at_call 5; refine (up_any _).mono ?_; rintro e w1 ⟨rfl, hu1⟩)
  go_wp2_with fail
  refine (lawbits_any _ _ _ l _ ((h1.below hu1).more hu1.size) hb1 (by omega)).mono ?_
  rintro e w2 ⟨B1, d1, rfl, ho1⟩
  have HP : Hid ((odd l).length = m1) := Lib.hid (by rw [odd_length, h1.len])
  generalize odd l = p at *
  go_wp2_with fail
  have hu2 := hu1.trans (ho1.bel.mono hu1.size)
  have hu3 := hu2.alloc hu2.size (.cells #[.slice B1 (pack p).length d1, .int .i64 ((p.length : Nat) : Int)] 26)
  refine (lawbits_any _ _ _ m _ ((h2.below hu3).more hu3.size) hb2 (by omega)).mono ?_
  rintro e w3 ⟨B2, d2, rfl, ho2⟩
  have HQ : Hid ((odd m).length = m2) := Lib.hid (by rw [odd_length, h2.len])
  generalize odd m = q at *
  have hx3 := two_new (wr := w3.alloc (.cells #[.slice B2 (pack q).length d2, .int .i64 ((q.length : Nat) : Int)] 26)) (ho2.bel.alloc ho2.bel.size _)
  obtain ⟨cx0, cx1, _, _⟩ := hx3
  have hp1 : p.length ≤ 500 := by have := HP.out; omega
  have hq1 : q.length ≤ 500 := by have := HQ.out; omega
  go_wp2_with fail
  obtain ⟨r, HR⟩ : ∃ r, Hid (r = p ++ low v n) := ⟨_, Lib.hid rfl⟩
  have HRL : Hid (r.length = p.length + n) := Lib.hid (by rw [HR.out, List.length_append, low_length])
  have hx3 : Below (w2.alloc (.cells #[.slice B1 (pack p).length d1, .int .i64 ((p.length : Nat) : Int)] 26)).heap.size (w2.alloc (.cells #[.slice B1 (pack p).length d1, .int .i64 ((p.length : Nat) : Int)] 26)) (w3.alloc (.cells #[.slice B2 (pack q).length d2, .int .i64 ((q.length : Nat) : Int)] 26)) := ho2.bel.alloc ho2.bel.size _
  have hr1 : Rd (w3.alloc (.cells #[.slice B2 (pack q).length d2, .int .i64 ((q.length : Nat) : Int)] 26)) (w3.alloc (.cells #[.slice B2 (pack q).length d2, .int .i64 ((q.length : Nat) : Int)] 26)).heap.size B1 (pack p).length d1 (pack p) := ((ho1.alloc _).keep hx3).rd
  have hr2 : Rd (w3.alloc (.cells #[.slice B2 (pack q).length d2, .int .i64 ((q.length : Nat) : Int)] 26)) (w3.alloc (.cells #[.slice B2 (pack q).length d2, .int .i64 ((q.length : Nat) : Int)] 26)).heap.size B2 (pack q).length d2 (pack q) := (ho2.alloc _).rd
  have hw3 : Below w.heap.size w (w3.alloc (.cells #[.slice B2 (pack q).length d2, .int .i64 ((q.length : Nat) : Int)] 26)) := hu3.trans (hx3.mono hu3.size)
  refine (put_yes _ _ _ p v n _ hr1 (by omega) hn).mono ?_
  rw [← HR.out]
  rintro e w4 ⟨B4, d4, rfl, ho4⟩
  have hw4 := (hw3.trans (ho4.bel.mono hw3.size)).alloc (hw3.trans (ho4.bel.mono hw3.size)).size (.cells #[.slice B4 (pack r).length d4, .int .i64 ((r.length : Nat) : Int)] 26)
  have hy4 : Below (w3.alloc (.cells #[.slice B2 (pack q).length d2, .int .i64 ((q.length : Nat) : Int)] 26)).heap.size (w3.alloc (.cells #[.slice B2 (pack q).length d2, .int .i64 ((q.length : Nat) : Int)] 26)) (w4.alloc (.cells #[.slice B4 (pack r).length d4, .int .i64 ((r.length : Nat) : Int)] 26)) := ho4.bel.alloc ho4.bel.size _
  have hr4 : Rd (w4.alloc (.cells #[.slice B4 (pack r).length d4, .int .i64 ((r.length : Nat) : Int)] 26)) (w4.alloc (.cells #[.slice B4 (pack r).length d4, .int .i64 ((r.length : Nat) : Int)] 26)).heap.size B4 (pack r).length d4 (pack r) := (ho4.alloc _).rd
  have hr2' := (hr2.below hy4).more hy4.size
  clear cx0 cx1
  obtain ⟨cx0, cx1, _, _⟩ := two_new (hx3.trans (hy4.mono hx3.size))
  obtain ⟨cy0, cy1, _, _⟩ := two_new hy4
  go_wp2_with fail
  have HT := Lib.hid (take_put p v n hn)
  rw [← HR.out] at HT
  refine (take_yes _ _ _ _ (pack r) p.length n _ hr4 (pack_lt r) (by rw [pack_length]; have := HRL.out; omega) hn (by rw [pack_length]; have := HRL.out; omega)).mono ?_
  rintro e w5 ⟨rfl, rfl⟩
  rw [HT.out.1, HT.out.2]
  have hne : ((r.length : Int) != (p.length : Int) + (n : Int)) = false := by rw [HRL.out]; simp
  have hrl : r.length ≤ 564 := by have := HRL.out; omega
  have HV : Hid (if n < 64 then IntKind.u64.wrap ((2 : Int) ^ n) = ((2 ^ n : Nat) : Int) ∧ 1 ≤ 2 ^ n ∧ 2 ^ n ≤ 9223372036854775808 else v % 2 ^ n = v) := Lib.hid (low_fact v n hv)
  obtain ⟨s, HS⟩ : ∃ s, Hid (s = r ++ q) := ⟨_, Lib.hid rfl⟩
  have HSL : Hid (s.length = r.length + q.length) := Lib.hid (by rw [HS.out, List.length_append])
  have hsl : s.length ≤ 1064 := by have := HSL.out; omega
  have hne2 : ((s.length : Int) != (r.length : Int) + (q.length : Int)) = false := by rw [HSL.out]; simp
  by_cases h64 : n < 64
  · have hV := HV.out
    rw [if_pos h64] at hV
    obtain ⟨hV1, hV2, hV3⟩ := hV
    have hmod : (v : Int) % ((2 ^ n : Nat) : Int) = ((v % 2 ^ n : Nat) : Int) := by simp
    generalize v % 2 ^ n = u at *
    generalize 2 ^ n = K at *
    go_wp2_with fail
    refine (join_any _ _ _ _ _ _ r q _ hr4 hr2' (by omega) (by omega)).mono ?_
    rw [← HS.out]
    rintro e w6 ⟨B6, d6, rfl, ho6⟩
    have hz6 : Below (w4.alloc (.cells #[.slice B4 (pack r).length d4, .int .i64 ((r.length : Nat) : Int)] 26)).heap.size (w4.alloc (.cells #[.slice B4 (pack r).length d4, .int .i64 ((r.length : Nat) : Int)] 26)) (w6.alloc (.cells #[.slice B6 (pack s).length d6, .int .i64 ((s.length : Nat) : Int)] 26)) := ho6.bel.alloc ho6.bel.size _
    have hr6 : Rd (w6.alloc (.cells #[.slice B6 (pack s).length d6, .int .i64 ((s.length : Nat) : Int)] 26)) (w6.alloc (.cells #[.slice B6 (pack s).length d6, .int .i64 ((s.length : Nat) : Int)] 26)).heap.size B6 (pack s).length d6 (pack s) := (ho6.alloc _).rd
    have hr46 := hr4.below hz6
    have hr26 := hr2'.below hz6
    clear cx0 cx1 cy0 cy1
    obtain ⟨cz0, cz1, _, _⟩ := two_new hz6
    obtain ⟨cy0, cy1, _, _⟩ := two_new (hy4.trans (hz6.mono hy4.size))
    have hw6 := hw4.trans (hz6.mono hw4.size)
    clear hz6 hr4 hr2' hr2 hr1 hy4 hw4 hw3 hx3 hu3 hu2 hu1 h1 h2 hb1 hb2 ho1 ho2 ho4 ho6
    go_wp2_with fail
    clear hne hne2
    (try clear hmod hV1)
    go_loop [17] (fun i => ∃ k : Nat, k ≤ s.length ∧ i = .int .i64 k) (fun i => s.length - (intOf i).toNat)
    case atStart => exact ⟨0, by omega, rfl⟩
    case round =>
      obtain ⟨k, hk, rfl⟩ := hrel
      by_cases hlt : k < s.length
      · obtain ⟨x, HX⟩ : ∃ x, Hid ((s.getD k false).toNat = x) := ⟨_, Lib.hid rfl⟩
        have H1 : Hid (takeB (pack s) k 1 = true ∧ takeN (pack s) k 1 = x) := Lib.hid (by
          have h := take_one (pack s) k (by rw [pack_length]; omega)
          rw [bit_pack, HX.out] at h
          exact h)
        by_cases hkr : k < r.length
        · have H2 : Hid (takeB (pack r) k 1 = true ∧ takeN (pack r) k 1 = x) := Lib.hid (by
            have h := take_one (pack r) k (by rw [pack_length]; omega)
            rw [bit_pack] at h
            rw [← HX.out, HS.out, getD_app, if_pos hkr]
            exact h)
          go_wp2_with fail
          refine (take_all _ _ _ _ (pack s) k 1 _ hr6 (pack_lt s) (by rw [pack_length]; omega) (by omega) (by omega)).mono ?_
          rintro e w7 ⟨rfl, rfl⟩
          rw [H1.out.1, H1.out.2]
          go_wp2_with fail
          refine (take_all _ _ _ _ (pack r) k 1 _ hr46 (pack_lt r) (by rw [pack_length]; omega) (by omega) (by omega)).mono ?_
          rintro e w7 ⟨rfl, rfl⟩
          rw [H2.out.1, H2.out.2]
          go_wp2
          go_round
          case rel => exact ⟨k + 1, by omega, by go_num⟩
          case measure => simp [intOf]; omega
        · obtain ⟨j, hj⟩ : ∃ j, k = r.length + j := ⟨k - r.length, by omega⟩
          have H2 : Hid (takeB (pack q) j 1 = true ∧ takeN (pack q) j 1 = x) := Lib.hid (by
            have h3 := HSL.out
            have h := take_one (pack q) j (by rw [pack_length]; omega)
            rw [bit_pack] at h
            rw [← HX.out, HS.out, getD_app, if_neg hkr, hj, Nat.add_sub_cancel_left]
            exact h)
          have hjk : (k : Int) - (r.length : Int) = (j : Int) := by omega
          have hjq : j ≤ 2000 := by omega
          clear hj
          go_wp2_with fail
          refine (take_all _ _ _ _ (pack s) k 1 _ hr6 (pack_lt s) (by rw [pack_length]; omega) (by omega) (by omega)).mono ?_
          rintro e w7 ⟨rfl, rfl⟩
          rw [H1.out.1, H1.out.2]
          go_wp2_with fail
          refine (take_all _ _ _ _ (pack r) k 1 _ hr46 (pack_lt r) (by rw [pack_length]; omega) (by omega) (by omega)).mono ?_
          rintro e w7 ⟨rfl, rfl⟩
          generalize takeB (pack r) k 1 = y1 at *
          generalize takeN (pack r) k 1 = y2 at *
          go_wp2_with fail
          refine (take_all _ _ _ _ (pack q) j 1 _ hr26 (pack_lt q) (by rw [pack_length]; omega) (by omega) (by omega)).mono ?_
          rintro e w7 ⟨rfl, rfl⟩
          rw [H2.out.1, H2.out.2]
          go_wp2
          go_round
          case rel => exact ⟨k + 1, by omega, by go_num⟩
          case measure => simp [intOf]; omega
      · go_wp2
        go_ret
        exact ⟨rfl, hw6⟩
  · have hV := HV.out
    rw [if_neg h64] at hV
    rw [hV]
    clear hV
    go_wp2_with fail
    refine (join_any _ _ _ _ _ _ r q _ hr4 hr2' (by omega) (by omega)).mono ?_
    rw [← HS.out]
    rintro e w6 ⟨B6, d6, rfl, ho6⟩
    have hz6 : Below (w4.alloc (.cells #[.slice B4 (pack r).length d4, .int .i64 ((r.length : Nat) : Int)] 26)).heap.size (w4.alloc (.cells #[.slice B4 (pack r).length d4, .int .i64 ((r.length : Nat) : Int)] 26)) (w6.alloc (.cells #[.slice B6 (pack s).length d6, .int .i64 ((s.length : Nat) : Int)] 26)) := ho6.bel.alloc ho6.bel.size _
    have hr6 : Rd (w6.alloc (.cells #[.slice B6 (pack s).length d6, .int .i64 ((s.length : Nat) : Int)] 26)) (w6.alloc (.cells #[.slice B6 (pack s).length d6, .int .i64 ((s.length : Nat) : Int)] 26)).heap.size B6 (pack s).length d6 (pack s) := (ho6.alloc _).rd
    have hr46 := hr4.below hz6
    have hr26 := hr2'.below hz6
    clear cx0 cx1 cy0 cy1
    obtain ⟨cz0, cz1, _, _⟩ := two_new hz6
    obtain ⟨cy0, cy1, _, _⟩ := two_new (hy4.trans (hz6.mono hy4.size))
    have hw6 := hw4.trans (hz6.mono hw4.size)
    clear hz6 hr4 hr2' hr2 hr1 hy4 hw4 hw3 hx3 hu3 hu2 hu1 h1 h2 hb1 hb2 ho1 ho2 ho4 ho6
    go_wp2_with fail
    clear hne hne2
    (try clear hmod hV1)
    go_loop [17] (fun i => ∃ k : Nat, k ≤ s.length ∧ i = .int .i64 k) (fun i => s.length - (intOf i).toNat)
    case atStart => exact ⟨0, by omega, rfl⟩
    case round =>
      obtain ⟨k, hk, rfl⟩ := hrel
      by_cases hlt : k < s.length
      · obtain ⟨x, HX⟩ : ∃ x, Hid ((s.getD k false).toNat = x) := ⟨_, Lib.hid rfl⟩
        have H1 : Hid (takeB (pack s) k 1 = true ∧ takeN (pack s) k 1 = x) := Lib.hid (by
          have h := take_one (pack s) k (by rw [pack_length]; omega)
          rw [bit_pack, HX.out] at h
          exact h)
        by_cases hkr : k < r.length
        · have H2 : Hid (takeB (pack r) k 1 = true ∧ takeN (pack r) k 1 = x) := Lib.hid (by
            have h := take_one (pack r) k (by rw [pack_length]; omega)
            rw [bit_pack] at h
            rw [← HX.out, HS.out, getD_app, if_pos hkr]
            exact h)
          go_wp2_with fail
          refine (take_all _ _ _ _ (pack s) k 1 _ hr6 (pack_lt s) (by rw [pack_length]; omega) (by omega) (by omega)).mono ?_
          rintro e w7 ⟨rfl, rfl⟩
          rw [H1.out.1, H1.out.2]
          go_wp2_with fail
          refine (take_all _ _ _ _ (pack r) k 1 _ hr46 (pack_lt r) (by rw [pack_length]; omega) (by omega) (by omega)).mono ?_
          rintro e w7 ⟨rfl, rfl⟩
          rw [H2.out.1, H2.out.2]
          go_wp2
          go_round
          case rel => exact ⟨k + 1, by omega, by go_num⟩
          case measure => simp [intOf]; omega
        · obtain ⟨j, hj⟩ : ∃ j, k = r.length + j := ⟨k - r.length, by omega⟩
          have H2 : Hid (takeB (pack q) j 1 = true ∧ takeN (pack q) j 1 = x) := Lib.hid (by
            have h3 := HSL.out
            have h := take_one (pack q) j (by rw [pack_length]; omega)
            rw [bit_pack] at h
            rw [← HX.out, HS.out, getD_app, if_neg hkr, hj, Nat.add_sub_cancel_left]
            exact h)
          have hjk : (k : Int) - (r.length : Int) = (j : Int) := by omega
          have hjq : j ≤ 2000 := by omega
          clear hj
          go_wp2_with fail
          refine (take_all _ _ _ _ (pack s) k 1 _ hr6 (pack_lt s) (by rw [pack_length]; omega) (by omega) (by omega)).mono ?_
          rintro e w7 ⟨rfl, rfl⟩
          rw [H1.out.1, H1.out.2]
          go_wp2_with fail
          refine (take_all _ _ _ _ (pack r) k 1 _ hr46 (pack_lt r) (by rw [pack_length]; omega) (by omega) (by omega)).mono ?_
          rintro e w7 ⟨rfl, rfl⟩
          generalize takeB (pack r) k 1 = y1 at *
          generalize takeN (pack r) k 1 = y2 at *
          go_wp2_with fail
          refine (take_all _ _ _ _ (pack q) j 1 _ hr26 (pack_lt q) (by rw [pack_length]; omega) (by omega) (by omega)).mono ?_
          rintro e w7 ⟨rfl, rfl⟩
          rw [H2.out.1, H2.out.2]
          go_wp2
          go_round
          case rel => exact ⟨k + 1, by omega, by go_num⟩
          case measure => simp [intOf]; omega
      · go_wp2
        go_ret
        exact ⟨rfl, hw6⟩

end Go.Proofs.Ytanikfgagdncaaa
