/-
  Texts of this proof, one behind the other: Number, Flat, RefDod2, RefGetDod.
-/
import Derived.Test.YtbocpgffddkfdaaGreatDoorWords
import Derived.Test.YtbocpgffddkfdaaGreatDoorRefs
import Derived.Deep.DeepCutAuto
import Derived.Deep.CutBlock

namespace Go.Proofs.YtbocpgffddkfdaaGreatDoor
open Go.RowKit

theorem num_take_succ (p : List Bool) (k : Nat) (h : k < p.length) : num (p.take (k + 1)) = 2 * num (p.take k) + ((enc p).getD k 0) := by
  rw [List.take_succ_eq_append_getElem h, num_snoc, enc_getD]
  simp [List.getD_eq_getElem?_getD, h]
theorem enc_le (p : List Bool) (i : Nat) : (enc p).getD i 0 ≤ 1 := by
  rw [enc_getD]; cases p.getD i false <;> simp
theorem num_take_le (p : List Bool) (k : Nat) (h : k < 64) : num (p.take k) ≤ 9223372036854775807 := by
  have h1 := num_lt (p.take k)
  have h2 : 2 ^ (p.take k).length ≤ 2 ^ 63 := Nat.pow_le_pow_right (by omega) (by rw [List.length_take]; omega)
  omega
set_option maxRecDepth 20000 in
set_option maxHeartbeats 400000 in
theorem number_any (A : Option Addr) (n c B : Nat) (p : List Bool) (w : World) (h : Rd w B A n c (enc p)) (hn : n ≤ 64) :
    Calls Tryz.prog 76 #[.slice A n c] w fun e w' => e = .returned (.int .u64 ((num p : Nat) : Int)) ∧ w = w' := by
  have hl : p.length = n := by have := h.len; rwa [enc_length] at this
  have HL := Lib.hid hl
  clear hl
  go_enter Tryz.func76, Tryz.ntmps76
  go_wp2
  go_loop [3, 4] (fun v i => ∃ k : Nat, k ≤ n ∧ i = .int .i64 k ∧ v = .int .u64 ((num (p.take k) : Nat) : Int)) (fun _ i => n - (intOf i).toNat)
  case atStart => exact ⟨0, Nat.zero_le _, rfl, rfl⟩
  case round =>
    obtain ⟨k, hk, rfl, rfl⟩ := hrel
    by_cases hlt : k < n
    · obtain ⟨ad, rfl, hb, hc⟩ := h.at_ hlt
      have h1 := num_take_le p k (by omega)
      have h2 := enc_le p k
      have H3 := Lib.hid (num_take_succ p k (by have := HL.out; omega))
      generalize (enc p).getD k 0 = x at *
      generalize num (p.take k) = y at *
      go_wp2
      go_round
      case rel => exact ⟨k + 1, by omega, by go_num, by rw [H3.out]; go_num⟩
      case measure => simp [intOf]; omega
    · go_wp2
      go_ret
      have e : p.take k = p := List.take_of_length_le (by have := HL.out; omega)
      rw [e]
      exact ⟨rfl, rfl⟩
end Go.Proofs.YtbocpgffddkfdaaGreatDoor

namespace Go.Proofs.YtbocpgffddkfdaaGreatDoor
open Go.RowKit

def sh (b j : Nat) : Nat := b * 2 ^ j % 256
theorem sh_lt (b j : Nat) : sh b j ≤ 255 := by unfold sh; omega
theorem sh_zero (b : Nat) (h : b < 256) : sh b 0 = b := by unfold sh; omega
theorem sh_succ (b j : Nat) : sh b j * 2 % 256 = sh b (j + 1) := by
  unfold sh
  rw [Nat.pow_succ, ← Nat.mul_assoc, Nat.mod_mul_mod]
theorem sh_top (b j : Nat) (h : b < 256) (hj : j < 8) : sh b j / 128 = (b.testBit (7 - j)).toNat := by
  unfold sh
  rw [Nat.toNat_testBit]
  rcases (by omega : j = 0 ∨ j = 1 ∨ j = 2 ∨ j = 3 ∨ j = 4 ∨ j = 5 ∨ j = 6 ∨ j = 7) with rfl | rfl | rfl | rfl | rfl | rfl | rfl | rfl <;> simp <;> omega
theorem flat_step (bs : List Nat) (hb : ∀ x ∈ bs, x < 256) (k j : Nat) (hk : k < bs.length) (hj : j < 8) :
    enc ((flat bs).take (8 * k + j)) ++ [sh (bs.getD k 0) j / 128] = enc ((flat bs).take (8 * k + (j + 1))) := by
  have h1 : 8 * k + j < (flat bs).length := by rw [flat_length]; omega
  have e1 : 8 * k + (j + 1) = 8 * k + j + 1 := by omega
  rw [e1, List.take_succ_eq_append_getElem h1, enc_app, sh_top _ _ (getD_lt hb k) hj]
  have e2 : (flat bs)[8 * k + j] = bit bs (8 * k + j) := by
    rw [← flat_getD]
    simp [List.getD_eq_getElem?_getD, h1]
  rw [e2]
  unfold bit
  have e3 : (8 * k + j) / 8 = k := by omega
  have e4 : 7 - (8 * k + j) % 8 = 7 - j := by omega
  rw [e3, e4]
  rfl
theorem flat_len (bs : List Nat) (m : Nat) (h : m ≤ 8 * bs.length) : (enc ((flat bs).take m)).length = m := by
  rw [enc_length, List.length_take, flat_length]; omega
set_option maxRecDepth 20000 in
set_option maxHeartbeats 400000 in
theorem flat_any (A : Option Addr) (n c : Nat) (bs : List Nat) (w : World) (h : Rd w w.heap.size A n c bs) (hb : ∀ x ∈ bs, x < 256) (hn : n ≤ 100000) :
    Calls Tryz.prog 74 #[.slice A n c] w (RetB w (enc (flat bs))) := by
  have HL := Lib.hid h.len
  have HB := Lib.hid hb
  clear hb
  go_enter Tryz.func74, Tryz.ntmps74
  go_wp2
  go_loopw [3, 4] (fun v i wr => ∃ k : Nat, k ≤ n ∧ i = .int .i64 k ∧ Own w wr v (enc ((flat bs).take (8 * k)))) (fun _ i _ => n - (intOf i).toNat)
  case atStart => exact ⟨0, Nat.zero_le _, rfl, Own.nil_ _ _ (Below.refl _ _)⟩
  case round =>
    obtain ⟨k, hk, rfl, hown⟩ := hrel
    by_cases hlt : k < n
    · obtain ⟨ad, rfl, hbl, hc⟩ := (h.below hown.bel).at_ hlt
      have h2 := getD_lt HB.out k
      have H3 := Lib.hid (fun j hj => flat_step bs HB.out k j (by have := HL.out; omega) hj)
      have H5 := Lib.hid (fun j (hj : j ≤ 8) => flat_len bs (8 * k + j) (by have := HL.out; omega))
      generalize bs.getD k 0 = x at *
      go_wp2
      go_loopw [3, 5, 6] (fun v cc jj wr => ∃ j : Nat, j ≤ 8 ∧ jj = .int .i64 j ∧ cc = .int .u8 ((sh x j : Nat) : Int) ∧ Own w wr v (enc ((flat bs).take (8 * k + j)))) (fun _ _ jj _ => 8 - (intOf jj).toNat)
      case atStart => exact ⟨0, by omega, rfl, by rw [sh_zero _ h2], hown⟩
      case round =>
        obtain ⟨j, hj, rfl, rfl, hown2⟩ := hrel
        have h6 := sh_lt x j
        by_cases hjlt : j < 8
        · have H4 := Lib.hid (H3.out j hjlt)
          have H6 := Lib.hid (H5.out j hj)
          have H7 := Lib.hid (sh_succ x j)
          go_wp2_with (at_builtin; (refine wpList_app rfl (.tmp 21) (.tmp 24) rfl rfl rfl (hown2.alloc _) (Rd.one _ _) (by rw [H6.out]; omega) ?_; intro v' w' hown3))
          go_roundw
          case rel =>
            refine ⟨j + 1, by omega, by go_num, ?_, ?_⟩
            · rw [← H7.out]; go_num
            · rw [← H4.out]; exact hown3
          case measure => simp [intOf]; omega
        · have e8 : 8 * k + j = 8 * (k + 1) := by omega
          rw [e8] at hown2
          go_wp2
          go_roundw
          case rel => exact ⟨k + 1, by omega, by go_num, hown2⟩
          case measure => simp [intOf]; omega
    · go_wp2
      go_ret
      have e : (flat bs).take (8 * k) = flat bs := List.take_of_length_le (by rw [flat_length]; have := HL.out; omega)
      rw [e] at hown
      exact RetB.mk hown
end Go.Proofs.YtbocpgffddkfdaaGreatDoor

namespace Go.Proofs.YtbocpgffddkfdaaGreatDoor
open Go.RowKit

set_option maxRecDepth 20000 in
set_option maxHeartbeats 400000 in
theorem starts_any (A1 A2 : Option Addr) (n1 c1 n2 c2 B : Nat) (l m : List Nat) (w : World) (h1 : Rd w B A1 n1 c1 l) (h2 : Rd w B A2 n2 c2 m) (_hn1 : n1 ≤ 100000) (_hn2 : n2 ≤ 100000) :
    Calls Tryz.prog 110 #[.slice A1 n1 c1, .slice A2 n2 c2] w fun e w' => ∃ b, e = .returned (.bool b) ∧ (n2 ≤ n1 → l.take n2 = m → b = true) ∧ Below w.heap.size w w' := by
  have hc1 := h1.cap
  by_cases hle : n2 ≤ n1
  · have hge : decide ((n1 : Int) ≥ (n2 : Int)) = true := by simp; omega
    have hmin : (if n2 < n1 then (n2 : Int) else (n1 : Int)) = (n2 : Int) := by split <;> omega
    have hcc : (n2 : Int) ≤ (c1 : Int) := by omega
    obtain ⟨s1, HS1⟩ : ∃ s, Hid (strB (l.take n2) = s) := ⟨_, Lib.hid rfl⟩
    obtain ⟨s2, HS2⟩ : ∃ s, Hid (strB m = s) := ⟨_, Lib.hid rfl⟩
    have hq1 := fun n => run_str ((h1.cutHead hle).drewN n)
    have hq2 := fun n => run_str (h2.drewN n)
    rw [HS1.out] at hq1
    rw [HS2.out] at hq2
    have HE : Hid (l.take n2 = m → s1 = s2) := Lib.hid (fun e => by rw [← HS1.out, ← HS2.out, e])
    go_enter Tryz.func110, Tryz.ntmps110
    go_wp2
    go_quiet (fail)
    go_wp2
    go_ret
    refine ⟨_, rfl, fun _ e => ?_, ⟨rfl, rfl, rfl, Nat.le_refl _, fun _ _ => rfl⟩⟩
    rw [HE.out e]
    exact beq_self_eq_true _
  · have hge : decide ((n1 : Int) ≥ (n2 : Int)) = false := by simp; omega
    go_enter Tryz.func110, Tryz.ntmps110
    go_wp2
    go_quiet (fail)
    go_wp2
    go_ret
    exact ⟨_, rfl, fun h => absurd h hle, ⟨rfl, rfl, rfl, Nat.le_refl _, fun _ _ => rfl⟩⟩
theorem one_zeros (n : Nat) : [1] ++ List.replicate n 0 = enc (true :: List.replicate n false) := by simp [enc]
theorem num_one_zeros (n : Nat) : num (true :: List.replicate n false) = 2 ^ n := by
  induction n with
  | zero => rfl
  | succ n ih =>
    rw [List.replicate_succ', ← List.cons_append, num_snoc, ih, Nat.pow_succ]
    simp [Nat.mul_comm]
theorem first_bit (p : List Bool) (n : Nat) (h : p.length = n + 1) : (p.getD 0 false = true ↔ 2 ^ n ≤ num p) ∧ num p < 2 * 2 ^ n := by
  have h1 := num_lt p
  rw [h, Nat.pow_succ, Nat.mul_comm] at h1
  have h2 := num_testBit p n
  have e : p.length - 1 - n = 0 := by omega
  have e2 : decide (n < p.length) = true := decide_eq_true (by omega)
  rw [e, e2, Bool.true_and] at h2
  refine ⟨?_, h1⟩
  rw [← h2, Nat.testBit_eq_decide_div_mod_eq, decide_eq_true_iff]
  have h3 : num p / 2 ^ n < 2 := Nat.div_lt_of_lt_mul (by rw [Nat.mul_comm]; exact h1)
  have h4 := Nat.le_div_iff_mul_le (x := 1) (y := num p) (Nat.two_pow_pos n)
  generalize num p / 2 ^ n = q at *
  rw [Nat.one_mul] at h4
  rw [← h4]
  omega
theorem sgn_first (p : List Bool) (k : Nat) (h : p.length = roomN k) (n : Nat) (hn : roomN k = n + 1) : sgnN (num p) (roomN k) = if p.getD 0 false = true then ((num p : Nat) : Int) - 2 * ((2 ^ n : Nat) : Int) else ((num p : Nat) : Int) := by
  obtain ⟨h1, h2⟩ := first_bit p n (h.trans hn)
  have h3 : num p < 2 ^ (n + 1) := by rw [Nat.pow_succ]; omega
  unfold sgnN
  rw [hn, if_neg (by omega), Nat.mod_eq_of_lt h3, Nat.add_sub_cancel, Nat.pow_succ]
  by_cases hb : p.getD 0 false = true
  · have := h1.1 hb
    rw [if_pos hb, if_neg (by omega)]
    omega
  · have : ¬ 2 ^ n ≤ num p := fun hh => hb (h1.2 hh)
    rw [if_neg hb, if_pos (by omega)]
theorem room_mid {k : Nat} (h : 1 ≤ k ∧ k ≤ 3) : ∃ n, roomN k = n + 1 ∧ n ≤ 11 := by
  rcases (by omega : k = 1 ∨ k = 2 ∨ k = 3) with rfl | rfl | rfl
  · exact ⟨6, rfl, by omega⟩
  · exact ⟨8, rfl, by omega⟩
  · exact ⟨11, rfl, by omega⟩
theorem Own.lit1 {w0 w : World} (h : Below w0.heap.size w0 w) (x : Nat) : Own w0 (w.alloc (.cells #[.int .u8 (x : Int)] 5)) (.slice (some ⟨w.heap.size, 0, none⟩) 1 1) [x] :=
  ⟨World.ownsRow_lit w #[.int .u8 (x : Int)] 1 h.size (by unfold maxLen; omega) rfl, h.alloc h.size _⟩
set_option maxRecDepth 20000 in
set_option maxHeartbeats 400000 in
theorem refsigned_any (A : Option Addr) (c k : Nat) (p : List Bool) (w : World) (h : Rd w w.heap.size A (roomN k) c (enc p)) (hk : k ≤ 4) :
    Calls Tryz.prog 109 #[.slice A (roomN k : Nat) c] w fun e w' => e = .returned (.int .i64 (sgnN (num p) (roomN k))) ∧ Below w.heap.size w w' := by
  have hl : p.length = roomN k := by have := h.len; rwa [enc_length] at this
  obtain ⟨x, HX⟩ : ∃ x, Hid (num p = x) := ⟨_, Lib.hid rfl⟩
  by_cases hmid : 1 ≤ k ∧ k ≤ 3
  · obtain ⟨n, hn, hn11⟩ := room_mid hmid
    have HF := Lib.hid (sgn_first p k hl n hn)
    have hlt : num p < 2 * 2 ^ n := (first_bit p n (hl.trans hn)).2
    have hp11 : 2 ^ n ≤ 2048 := Nat.pow_le_pow_right (n := 2) (by omega) hn11
    have HNZ : Hid (num (true :: List.replicate n false) = 2 ^ n) := Lib.hid (num_one_zeros n)
    rw [hn, HX.out] at HF
    rw [HX.out] at hlt
    rw [hn] at h ⊢
    obtain ⟨ad, rfl, hbl, hc⟩ := h.at_ (k := 0) (by omega)
    rw [enc_getD, show ad.add 0 = ad from rfl] at hc
    have hn0 : 0 < n + 1 := by omega
    have hn64 : ((n + 1 : Nat) : Int) < 64 := by omega
    have HOZ := Lib.hid (one_zeros n)
    clear hl
    generalize 2 ^ n = y at *
    by_cases hb : p.getD 0 false = true
    · have HB := Lib.hid hb
      have HF2 : Hid (sgnN x (n + 1) = (x : Int) - 2 * (y : Int)) := Lib.hid (by rw [HF.out, if_pos hb])
      rw [hb] at hc
      replace hc : w.cell? ad = some (.int .u8 1) := hc
      clear hb
      rw [HX.out, HF2.out]
      go_enter Tryz.func109, Tryz.ntmps109
      go_wp2_with fail
      refine (number_any _ _ _ _ p _ h (by omega)).mono ?_
      rintro e w1 ⟨rfl, rfl⟩
      rw [HX.out]
      go_wp2_with (at_builtin; (refine wpList_zeros rfl (.tmp 22) (.tmp 25) rfl n rfl rfl rfl (Own.lit1 (Below.refl _ w) 1) (by simp; omega) ?_; intro v2 w2 hown2 _))
      rw [HOZ.out] at hown2
      obtain ⟨A2, c2, rfl, hr2⟩ := hown2.form
      have HLL : Hid ((enc (true :: List.replicate n false)).length = n + 1) := Lib.hid (by rw [enc_length]; simp)
      rw [HLL.out] at hr2 ⊢
      refine (number_any _ _ _ _ _ _ hr2 (by omega)).mono ?_
      rintro e w3 ⟨rfl, rfl⟩
      rw [HNZ.out]
      go_wp2
      go_ret
      exact ⟨rfl, hown2.bel⟩
    · have HF2 : Hid (sgnN x (n + 1) = (x : Int)) := Lib.hid (by rw [HF.out, if_neg hb])
      rw [Bool.eq_false_iff.2 hb] at hc
      replace hc : w.cell? ad = some (.int .u8 0) := hc
      clear hb
      rw [HX.out, HF2.out]
      go_enter Tryz.func109, Tryz.ntmps109
      go_wp2_with fail
      refine (number_any _ _ _ _ p _ h (by omega)).mono ?_
      rintro e w1 ⟨rfl, rfl⟩
      rw [HX.out]
      go_wp2
      go_ret
      exact ⟨rfl, Below.refl _ _⟩
  · rcases (by omega : k = 0 ∨ k = 4) with rfl | rfl
    · have hp : p = [] := List.eq_nil_of_length_eq_zero hl
      have hx : x = 0 := by rw [← HX.out, hp]; rfl
      subst hx
      rw [HX.out, show roomN 0 = 0 from rfl, sgn_zero]
      rw [show roomN 0 = 0 from rfl] at h
      go_enter Tryz.func109, Tryz.ntmps109
      go_wp2_with fail
      refine (number_any _ _ _ _ p _ h (by decide)).mono ?_
      rintro e w1 ⟨rfl, rfl⟩
      rw [HX.out]
      go_wp2
      go_ret
      exact ⟨rfl, Below.refl _ _⟩
    · rw [HX.out, show roomN 4 = 64 from rfl, ← sg_64]
      rw [show roomN 4 = 64 from rfl] at h
      go_enter Tryz.func109, Tryz.ntmps109
      go_wp2_with fail
      refine (number_any _ _ _ _ p _ h (by decide)).mono ?_
      rintro e w1 ⟨rfl, rfl⟩
      rw [HX.out]
      go_wp2
      go_ret
      exact ⟨rfl, Below.refl _ _⟩
end Go.Proofs.YtbocpgffddkfdaaGreatDoor

namespace Go.Proofs.YtbocpgffddkfdaaGreatDoor
open Go.RowKit

def RetDR (w : World) (p : List Bool) (e : Ending) (w' : World) : Prop :=
  ∃ (v : Int) (n k : Nat), DGets p v n k ∧ e = .returned (.tuple #[.int .i64 v, .int .i64 (n : Int), .int .i64 (k : Int)]) ∧ Below w.heap.size w w'
set_option maxRecDepth 20000 in
set_option maxHeartbeats 1000000 in
theorem rgetdod_any (A : Option Addr) (n c : Nat) (p : List Bool) (w : World) (h : Rd w w.heap.size A n c (enc p)) (hn : n ≤ 100000) :
    Calls Tryz.prog 92 #[.slice A n c] w (RetDR w p) := by
  have hl : p.length = n := by have := h.len; rwa [enc_length] at this
  obtain ⟨k, hk⟩ := ones_is p
  have hk4 := hk.le4
  have hkl := hk.len
  have hcap := h.cap
  have h3 := head_le k
  have h2 := room_le k
  rw [hl] at hkl
  have HK := Lib.hid hk
  have HL := Lib.hid hl
  clear hk hl
  go_enter Tryz.func92, Tryz.ntmps92
  go_upto_block 0 with fail
  go_cut [5] (fun i wx => i = .int .i64 (k : Int) ∧ w = wx)
  case first =>
    go_wp2_with fail
    go_loop [5] (fun i => ∃ j : Nat, j ≤ k ∧ i = .int .i64 (j : Int)) (fun i => k - (intOf i).toNat)
    case atStart => exact ⟨0, by omega, rfl⟩
    case round =>
      obtain ⟨j, hj, rfl⟩ := hrel
      by_cases hjk : j < k
      · obtain ⟨ad, rfl, hbl, hc⟩ := h.at_ (k := j) (by omega)
        have hj4 : j < 4 := by omega
        have hjn : j < n := by omega
        rw [enc_getD, HK.out.all j hjk, show ((true.toNat : Nat) : Int) = 1 from rfl] at hc
        go_wp2
        go_round
        case rel => exact ⟨j + 1, by omega, by go_num⟩
        case measure => simp [intOf]; omega
      · obtain rfl : j = k := by omega
        by_cases hjn : j < n
        · by_cases hj4 : j < 4
          · obtain ⟨ad, rfl, hbl, hc⟩ := h.at_ (k := j) hjn
            rw [enc_getD, HK.out.stop hj4, show ((false.toNat : Nat) : Int) = 0 from rfl] at hc
            go_wp2_with fail
            go_meet
            exact ⟨rfl, rfl⟩
          · go_wp2_with fail
            go_meet
            exact ⟨rfl, rfl⟩
        · go_wp2_with fail
          go_meet
          exact ⟨rfl, rfl⟩
  case rest =>
    obtain ⟨rfl, rfl⟩ := hcut
    go_upto_region 4 with fail
    go_cut [6] (fun i wx => i = .int .i64 ((headN k : Nat) : Int) ∧ w = wx)
    case first =>
      go_wp2_with fail
      · go_meet
        refine ⟨congrArg (Value.int .i64) ?_, rfl⟩
        unfold headN; split <;> omega
      · go_meet
        refine ⟨congrArg (Value.int .i64) ?_, rfl⟩
        unfold headN; split <;> omega
    case rest =>
      obtain ⟨rfl, rfl⟩ := hcut
      go_wp2_with fail
      refine (sizes_any k _ hk4).mono ?_
      rintro e w2 ⟨rfl, hb2⟩
      have hr2 := (h.below hb2).more hb2.size
      by_cases hfit : headN k + roomN k ≤ n
      · have hge : decide ((n : Int) < ((headN k : Nat) : Int) + ((roomN k : Nat) : Int)) = false := by simp; omega
        have HB : Hid (num (cut p (headN k) (roomN k)) = num (cut p (headN k) (roomN k)) ∧ sgnN (num (cut p (headN k) (roomN k))) (roomN k) = bodyD p k) := Lib.hid ⟨rfl, rfl⟩
        have hcl : c = headN k → Rd w2 w2.heap.size A (roomN k) (c - headN k) (enc (cut p (headN k) (roomN k))) := fun e => by
          have := hr2
          rw [e] at this
          have := this.cutEnd (n := roomN k) hfit
          rw [enc_cut] at this
          rw [show c - headN k = 0 by omega]
          exact this
        have hcm := hr2.cutTo (a := headN k) (n := roomN k) hfit
        rw [enc_cut] at hcm
        have HI := Lib.hid (bodyD_in p hk4)
        go_upto_region 8 with fail
        go_cut [8] (fun v wx => v = .int .i64 (bodyD p k) ∧ Below w.heap.size w wx)
        case first =>
          by_cases hce : c = headN k
          · have hrc := hcl hce
            have hce' : (c = headN k) = True := eq_true hce
            clear hce hcl hcm
            go_wp2_with fail
            refine (refsigned_any _ _ k _ _ hrc hk4).mono ?_
            rintro e w3 ⟨rfl, hb3⟩
            rw [HB.out.2]
            go_wp2_with fail
            go_meet
            exact ⟨rfl, hb2.trans (hb3.mono hb2.size)⟩
          · clear hcl
            go_wp2_with fail
            refine (refsigned_any _ _ k _ _ hcm hk4).mono ?_
            rintro e w3 ⟨rfl, hb3⟩
            rw [HB.out.2]
            go_wp2_with fail
            go_meet
            exact ⟨rfl, hb2.trans (hb3.mono hb2.size)⟩
        case rest =>
          obtain ⟨rfl, hb4⟩ := hcut
          clear hb2 hr2 hcl hcm HB
          have hr4 := (h.below hb4).more hb4.size
          have HOK := Lib.hid (fun e => (⟨k, HK.out, .inr (.inr ⟨by rw [HL.out]; exact hfit, e, rfl, rfl, rfl⟩)⟩ : DGets p (bodyD p k) (headN k + roomN k) 0))
          have HNO := Lib.hid (fun e => (⟨k, HK.out, .inr (.inl ⟨by rw [HL.out]; exact hfit, e, rfl, rfl, rfl⟩)⟩ : DGets p 0 0 3))
          have HCD := Lib.hid (fun e => dgets_code HK.out (by rw [HL.out]; exact hfit) e)
          generalize bodyD p k = z at *
          obtain ⟨r, HR⟩ : ∃ r, Hid (enc (codeD z) = r) := ⟨_, Lib.hid rfl⟩
          obtain ⟨L, HRL⟩ : ∃ L, Hid (r.length = L) := ⟨_, Lib.hid rfl⟩
          have hL : L ≤ 68 := by rw [← HRL.out, ← HR.out, enc_length]; exact (codeD_pos z).2
          go_wp2_with fail
          refine (refdod_any z _ HI.out).mono ?_
          rw [HR.out]
          rintro e w5 ⟨A5, c5, rfl, hown5⟩
          have hr5 := hown5.rd
          have hrp5 := (hr4.below hown5.bel).more hown5.bel.size
          have hb5 := hb4.trans (hown5.bel.mono hb4.size)
          rw [HRL.out] at hr5 ⊢
          clear hown5 hr4 hb4
          go_wp2_with fail
          refine (starts_any _ _ _ _ _ _ _ _ _ _ hrp5 hr5 hn (by omega)).mono ?_
          rintro e w6 ⟨b, rfl, hbt, hb6⟩
          have hb7 := hb5.trans (hb6.mono hb5.size)
          have HBT := Lib.hid hbt
          clear hbt
          by_cases ho : onesN z = k
          · have hLe : L = headN k + roomN k := by
              rw [← HRL.out, ← HR.out, enc_length, codeD_length, ho]
            have hbv : b = true := HBT.out (by omega) (by
              rw [enc_take, hLe, ← HCD.out ho, HR.out])
            subst hbv
            have HO := Lib.hid (HOK.out ho)
            have hne : ((L : Int) != ((headN k : Nat) : Int) + ((roomN k : Nat) : Int)) = false := by rw [hLe]; simp
            clear ho hLe
            go_wp2_with fail
            refine (refdod_any z _ HI.out).mono ?_
            rw [HR.out]
            rintro e w8 ⟨A8, c8, rfl, hown8⟩
            rw [HRL.out]
            go_wp2
            go_ret3
            exact ⟨z, _, 0, HO.out, rfl, hb7.trans (hown8.bel.mono hb7.size)⟩
          · have hLe : L ≠ headN k + roomN k := by
              rw [← HRL.out, ← HR.out, enc_length]
              exact codeD_unlike hk4 ho
            have HO := Lib.hid (HNO.out ho)
            have hne : ((L : Int) != ((headN k : Nat) : Int) + ((roomN k : Nat) : Int)) = true := by simp; omega
            clear ho hLe
            cases b
            · go_wp2
              go_ret3
              exact ⟨0, 0, 3, HO.out, rfl, hb7⟩
            · go_wp2_with fail
              refine (refdod_any z _ HI.out).mono ?_
              rw [HR.out]
              rintro e w8 ⟨A8, c8, rfl, hown8⟩
              rw [HRL.out]
              go_wp2
              go_ret3
              exact ⟨0, 0, 3, HO.out, rfl, hb7.trans (hown8.bel.mono hb7.size)⟩
      · have hge : decide ((n : Int) < ((headN k : Nat) : Int) + ((roomN k : Nat) : Int)) = true := by simp; omega
        go_wp2
        go_ret3
        exact ⟨0, 0, 2, ⟨k, HK.out, .inl ⟨by rw [HL.out]; omega, rfl, rfl, rfl⟩⟩, rfl, hb2⟩
end Go.Proofs.YtbocpgffddkfdaaGreatDoor
