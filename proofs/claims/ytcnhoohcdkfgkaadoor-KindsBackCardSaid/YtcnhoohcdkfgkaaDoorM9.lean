/-
  Texts of this proof, one behind the other: RefDod, RefDod2.
-/
import Derived.Test.YtcnhoohcdkfgkaaDoorM4
import Derived.Test.YtcnhoohcdkfgkaaDoorM2
import Derived.Test.YtcnhoohcdkfgkaaDoorYZeros
import Derived.Deep.RegionWith

/-
  The contracts of the reference's Dod, starts and signed: a number's code; whether bits begin with others; the number of two's complement.
-/
namespace Go.Proofs.YtcnhoohcdkfgkaaDoor
open Go.RowKit

theorem enc_ones (k : Nat) : enc (List.replicate k true) = List.replicate k 1 := by simp [enc]
theorem head_more {k : Nat} (hk : k < 4) : List.replicate k 1 ++ [0] = enc (headL k) := by
  unfold headL
  rw [if_pos hk, enc_app, enc_ones]; rfl
theorem head_four {k : Nat} (hk : k ≤ 4) (h : ¬ k < 4) : List.replicate k 1 = enc (headL k) := by
  obtain rfl : k = 4 := by omega
  rfl

set_option maxRecDepth 20000 in
set_option maxHeartbeats 400000 in
theorem refdod_any (v : Int) (w : World) (hv : -9223372036854775808 ≤ v ∧ v ≤ 9223372036854775807) :
    Calls Tryd.prog 24 #[.int .i64 v] w (RetB w (enc (codeD v))) := by
  obtain ⟨k, hk⟩ : ∃ k, onesN v = k := ⟨_, rfl⟩
  have hk4 : k ≤ 4 := by rw [← hk]; exact onesN_le v
  have HK := Lib.hid hk
  clear hk
  obtain ⟨r, HE⟩ : ∃ r, Hid (enc (codeD v) = r) := ⟨_, Lib.hid rfl⟩
  rw [HE.out]
  have HH : Hid (enc (headL k) ++ enc (low (un64 v) (roomN k)) = r) := Lib.hid (by rw [← HE.out, ← enc_app]; unfold codeD; rw [HK.out])
  have HHL : Hid ((enc (headL k)).length = headN k) := Lib.hid (by rw [enc_length, headL_length hk4])
  have hhl := head_le k
  have huw : IntKind.u64.wrap v = ((un64 v : Nat) : Int) := by rw [u64_mod, un64_cast]
  go_enter Tryd.func24, Tryd.ntmps24
  go_wp2_with fail
  refine (refones_any v _ hv).mono ?_
  rintro e w1 ⟨rfl, hb1⟩
  rw [HK.out]
  go_wp2_with fail
  go_loopw [4, 5] (fun o i wr => ∃ j : Nat, j ≤ k ∧ i = .int .i64 (j : Int) ∧ Own w wr o (List.replicate j 1)) (fun _ i _ => k - (intOf i).toNat)
  case atStart => exact ⟨0, by omega, rfl, Own.nil_ _ _ hb1⟩
  case round =>
    clear hb1
    obtain ⟨j, hj, rfl, hown⟩ := hrel
    have HL : Hid ((List.replicate j 1).length = j) := Lib.hid List.length_replicate
    by_cases hjk : j < k
    · go_wp2_with (at_builtin; (refine wpList_app rfl (.tmp 13) (.tmp 14) rfl rfl rfl (hown.alloc _) (Rd.one _ 1) (by rw [HL.out]; omega) ?_; intro v' w' hown3))
      go_roundw
      case rel => exact ⟨j + 1, by omega, by go_num, by rw [List.replicate_succ']; exact hown3⟩
      case measure => simp [intOf]; omega
    · obtain rfl : j = k := by omega
      by_cases h4 : j < 4
      · go_wp2_with (at_builtin; (refine wpList_app rfl (.tmp 18) (.tmp 19) rfl rfl rfl (hown.alloc _) (Rd.one _ 0) (by rw [HL.out]; omega) ?_; intro v' w' hown3))
        rw [head_more h4] at hown3
        refine (sizes_any j _ hk4).mono ?_
        rintro e w2 ⟨rfl, hb2⟩
        replace hown3 := hown3.keep hb2
        go_wp2_with fail
        refine (low_any (un64 v) (roomN j) _ (un64_lt v) (room_le j)).mono ?_
        rintro e w3 ⟨A3, c3, rfl, hown4⟩
        replace hown3 := hown3.keep hown4.bel
        have hlow := hown4.rd
        have HLL : Hid ((enc (low (un64 v) (roomN j))).length = roomN j) := Lib.hid (by rw [enc_length, low_length])
        have hrl := room_le j
        rw [HLL.out] at hlow ⊢
        clear hown4 hb2
        go_wp2_with (at_builtin; (refine wpList_app rfl (.tmp 21) (.tmp 26) rfl rfl rfl hown3 hlow ?_ ?_; (· rw [HHL.out]; omega); intro v5 w5 hown5))
        go_ret
        rw [HH.out] at hown5
        exact RetB.mk hown5
      · have hown3 := hown
        rw [head_four hk4 h4] at hown3
        go_wp2_with fail
        refine (sizes_any j _ hk4).mono ?_
        rintro e w2 ⟨rfl, hb2⟩
        replace hown3 := hown3.keep hb2
        go_wp2_with fail
        refine (low_any (un64 v) (roomN j) _ (un64_lt v) (room_le j)).mono ?_
        rintro e w3 ⟨A3, c3, rfl, hown4⟩
        replace hown3 := hown3.keep hown4.bel
        have hlow := hown4.rd
        have HLL : Hid ((enc (low (un64 v) (roomN j))).length = roomN j) := Lib.hid (by rw [enc_length, low_length])
        have hrl := room_le j
        rw [HLL.out] at hlow ⊢
        clear hown4 hb2
        go_wp2_with (at_builtin; (refine wpList_app rfl (.tmp 21) (.tmp 26) rfl rfl rfl hown3 hlow ?_ ?_; (· rw [HHL.out]; omega); intro v5 w5 hown5))
        go_ret
        rw [HH.out] at hown5
        exact RetB.mk hown5

end Go.Proofs.YtcnhoohcdkfgkaaDoor

/-
  The contracts of the reference's starts and signed: whether bits begin with others; the number of two's complement.
-/
namespace Go.Proofs.YtcnhoohcdkfgkaaDoor
open Go.RowKit

set_option maxRecDepth 20000 in
set_option maxHeartbeats 400000 in
theorem starts_any (A1 A2 : Option Addr) (n1 c1 n2 c2 B : Nat) (l m : List Nat) (w : World) (h1 : Rd w B A1 n1 c1 l) (h2 : Rd w B A2 n2 c2 m) (_hn1 : n1 ≤ 100000) (_hn2 : n2 ≤ 100000) :
    Calls Tryd.prog 45 #[.slice A1 n1 c1, .slice A2 n2 c2] w fun e w' => ∃ b, e = .returned (.bool b) ∧ (n2 ≤ n1 → l.take n2 = m → b = true) ∧ Below w.heap.size w w' := by
  have hc1 := h1.cap
  by_cases hle : n2 ≤ n1
  · have hge : decide ((n1 : Int) ≥ (n2 : Int)) = true := by simp; omega
    have hmin : (if n2 < n1 then (n2 : Int) else (n1 : Int)) = (n2 : Int) := by split <;> omega
    have hcc : (n2 : Int) ≤ (c1 : Int) := by omega
    obtain ⟨s1, HS1⟩ : ∃ s, Hid (strB (l.take n2) = s) := ⟨_, Lib.hid rfl⟩
    obtain ⟨s2, HS2⟩ : ∃ s, Hid (strB m = s) := ⟨_, Lib.hid rfl⟩
    have hq1 := fun n => run_str ((h1.cutHead hle).drewN n)
    have hq2 := fun n => run_str (h2.drewN n)
    rw [HS1.out] at hq1
    rw [HS2.out] at hq2
    have HE : Hid (l.take n2 = m → s1 = s2) := Lib.hid (fun e => by rw [← HS1.out, ← HS2.out, e])
    go_enter Tryd.func45, Tryd.ntmps45
    go_wp2
    go_quiet (fail)
    go_wp2
    go_ret
    refine ⟨_, rfl, fun _ e => ?_, ⟨rfl, rfl, rfl, Nat.le_refl _, fun _ _ => rfl⟩⟩
    rw [HE.out e]
    exact beq_self_eq_true _
  · have hge : decide ((n1 : Int) ≥ (n2 : Int)) = false := by simp; omega
    go_enter Tryd.func45, Tryd.ntmps45
    go_wp2
    go_quiet (fail)
    go_wp2
    go_ret
    exact ⟨_, rfl, fun h => absurd h hle, ⟨rfl, rfl, rfl, Nat.le_refl _, fun _ _ => rfl⟩⟩

/-- 1 and n 0s -/
theorem one_zeros (n : Nat) : [1] ++ List.replicate n 0 = enc (true :: List.replicate n false) := by simp [enc]
theorem num_one_zeros (n : Nat) : num (true :: List.replicate n false) = 2 ^ n := by
  induction n with
  | zero => rfl
  | succ n ih =>
    rw [List.replicate_succ', ← List.cons_append, num_snoc, ih, Nat.pow_succ]
    simp [Nat.mul_comm]
/-- the first bit tells whether it is a number below 0 -/
theorem first_bit (p : List Bool) (n : Nat) (h : p.length = n + 1) : (p.getD 0 false = true ↔ 2 ^ n ≤ num p) ∧ num p < 2 * 2 ^ n := by
  have h1 := num_lt p
  rw [h, Nat.pow_succ, Nat.mul_comm] at h1
  have h2 := num_testBit p n
  have e : p.length - 1 - n = 0 := by omega
  have e2 : decide (n < p.length) = true := decide_eq_true (by omega)
  rw [e, e2, Bool.true_and] at h2
  refine ⟨?_, h1⟩
  rw [← h2, Nat.testBit_eq_decide_div_mod_eq, decide_eq_true_iff]
  have h3 : num p / 2 ^ n < 2 := Nat.div_lt_of_lt_mul (by rw [Nat.mul_comm]; exact h1)
  have h4 := Nat.le_div_iff_mul_le (x := 1) (y := num p) (Nat.two_pow_pos n)
  generalize num p / 2 ^ n = q at *
  rw [Nat.one_mul] at h4
  rw [← h4]
  omega

theorem sgn_first (p : List Bool) (k : Nat) (h : p.length = roomN k) (n : Nat) (hn : roomN k = n + 1) : sgnN (num p) (roomN k) = if p.getD 0 false = true then ((num p : Nat) : Int) - 2 * ((2 ^ n : Nat) : Int) else ((num p : Nat) : Int) := by
  obtain ⟨h1, h2⟩ := first_bit p n (h.trans hn)
  have h3 : num p < 2 ^ (n + 1) := by rw [Nat.pow_succ]; omega
  unfold sgnN
  rw [hn, if_neg (by omega), Nat.mod_eq_of_lt h3, Nat.add_sub_cancel, Nat.pow_succ]
  by_cases hb : p.getD 0 false = true
  · have := h1.1 hb
    rw [if_pos hb, if_neg (by omega)]
    omega
  · have : ¬ 2 ^ n ≤ num p := fun hh => hb (h1.2 hh)
    rw [if_neg hb, if_pos (by omega)]

theorem room_mid {k : Nat} (h : 1 ≤ k ∧ k ≤ 3) : ∃ n, roomN k = n + 1 ∧ n ≤ 11 := by
  rcases (by omega : k = 1 ∨ k = 2 ∨ k = 3) with rfl | rfl | rfl
  · exact ⟨6, rfl, by omega⟩
  · exact ⟨8, rfl, by omega⟩
  · exact ⟨11, rfl, by omega⟩

theorem Own.lit1 {w0 w : World} (h : Below w0.heap.size w0 w) (x : Nat) : Own w0 (w.alloc (.cells #[.int .u8 (x : Int)] 5)) (.slice (some ⟨w.heap.size, 0, none⟩) 1 1) [x] :=
  ⟨World.ownsRow_lit w #[.int .u8 (x : Int)] 1 h.size (by unfold maxLen; omega) rfl, h.alloc h.size _⟩

set_option maxRecDepth 20000 in
set_option maxHeartbeats 400000 in
theorem refsigned_any (A : Option Addr) (c k : Nat) (p : List Bool) (w : World) (h : Rd w w.heap.size A (roomN k) c (enc p)) (hk : k ≤ 4) :
    Calls Tryd.prog 44 #[.slice A (roomN k : Nat) c] w fun e w' => e = .returned (.int .i64 (sgnN (num p) (roomN k))) ∧ Below w.heap.size w w' := by
  have hl : p.length = roomN k := by have := h.len; rwa [enc_length] at this
  obtain ⟨x, HX⟩ : ∃ x, Hid (num p = x) := ⟨_, Lib.hid rfl⟩
  by_cases hmid : 1 ≤ k ∧ k ≤ 3
  · obtain ⟨n, hn, hn11⟩ := room_mid hmid
    have HF := Lib.hid (sgn_first p k hl n hn)
    have hlt : num p < 2 * 2 ^ n := (first_bit p n (hl.trans hn)).2
    have hp11 : 2 ^ n ≤ 2048 := Nat.pow_le_pow_right (n := 2) (by omega) hn11
    have HNZ : Hid (num (true :: List.replicate n false) = 2 ^ n) := Lib.hid (num_one_zeros n)
    rw [hn, HX.out] at HF
    rw [HX.out] at hlt
    rw [hn] at h ⊢
    obtain ⟨ad, rfl, hbl, hc⟩ := h.at_ (k := 0) (by omega)
    rw [enc_getD, show ad.add 0 = ad from rfl] at hc
    have hn0 : 0 < n + 1 := by omega
    have hn64 : ((n + 1 : Nat) : Int) < 64 := by omega
    have HOZ := Lib.hid (one_zeros n)
    clear hl
    generalize 2 ^ n = y at *
    by_cases hb : p.getD 0 false = true
    · have HB := Lib.hid hb
      have HF2 : Hid (sgnN x (n + 1) = (x : Int) - 2 * (y : Int)) := Lib.hid (by rw [HF.out, if_pos hb])
      rw [hb] at hc
      replace hc : w.cell? ad = some (.int .u8 1) := hc
      clear hb
      rw [HX.out, HF2.out]
      go_enter Tryd.func44, Tryd.ntmps44
      go_wp2_with fail
      refine (number_any _ _ _ _ p _ h (by omega)).mono ?_
      rintro e w1 ⟨rfl, rfl⟩
      rw [HX.out]
      go_wp2_with (at_builtin; (refine wpList_zeros rfl (.tmp 22) (.tmp 25) rfl n rfl rfl rfl (Own.lit1 (Below.refl _ w) 1) (by simp; omega) ?_; intro v2 w2 hown2 _))
      rw [HOZ.out] at hown2
      obtain ⟨A2, c2, rfl, hr2⟩ := hown2.form
      have HLL : Hid ((enc (true :: List.replicate n false)).length = n + 1) := Lib.hid (by rw [enc_length]; simp)
      rw [HLL.out] at hr2 ⊢
      refine (number_any _ _ _ _ _ _ hr2 (by omega)).mono ?_
      rintro e w3 ⟨rfl, rfl⟩
      rw [HNZ.out]
      go_wp2
      go_ret
      exact ⟨rfl, hown2.bel⟩
    · have HF2 : Hid (sgnN x (n + 1) = (x : Int)) := Lib.hid (by rw [HF.out, if_neg hb])
      rw [Bool.eq_false_iff.2 hb] at hc
      replace hc : w.cell? ad = some (.int .u8 0) := hc
      clear hb
      rw [HX.out, HF2.out]
      go_enter Tryd.func44, Tryd.ntmps44
      go_wp2_with fail
      refine (number_any _ _ _ _ p _ h (by omega)).mono ?_
      rintro e w1 ⟨rfl, rfl⟩
      rw [HX.out]
      go_wp2
      go_ret
      exact ⟨rfl, Below.refl _ _⟩
  · rcases (by omega : k = 0 ∨ k = 4) with rfl | rfl
    · have hp : p = [] := List.eq_nil_of_length_eq_zero hl
      have hx : x = 0 := by rw [← HX.out, hp]; rfl
      subst hx
      rw [HX.out, show roomN 0 = 0 from rfl, sgn_zero]
      rw [show roomN 0 = 0 from rfl] at h
      go_enter Tryd.func44, Tryd.ntmps44
      go_wp2_with fail
      refine (number_any _ _ _ _ p _ h (by decide)).mono ?_
      rintro e w1 ⟨rfl, rfl⟩
      rw [HX.out]
      go_wp2
      go_ret
      exact ⟨rfl, Below.refl _ _⟩
    · rw [HX.out, show roomN 4 = 64 from rfl, ← sg_64]
      rw [show roomN 4 = 64 from rfl] at h
      go_enter Tryd.func44, Tryd.ntmps44
      go_wp2_with fail
      refine (number_any _ _ _ _ p _ h (by decide)).mono ?_
      rintro e w1 ⟨rfl, rfl⟩
      rw [HX.out]
      go_wp2
      go_ret
      exact ⟨rfl, Below.refl _ _⟩

end Go.Proofs.YtcnhoohcdkfgkaaDoor
