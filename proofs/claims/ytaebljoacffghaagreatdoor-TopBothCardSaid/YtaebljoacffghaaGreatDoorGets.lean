/-
  Texts of this proof, one behind the other: Take, DodGet.
-/
import Derived.Test.YtaebljoacffghaaGreatDoorWords
import Derived.Test.YtaebljoacffghaaGreatDoorPlain
import Derived.Test.YtaebljoacffghaaGreatDoorDods

/-
  The contract of the program's own Take: the number of n bits from the a-th on, if they are there.
-/
namespace Go.Proofs.YtaebljoacffghaaGreatDoor
open Go.RowKit

/-- what the program's Take comes to -/
def RetS (w : World) (bs : List Nat) (a n : Int) (e : Ending) (w' : World) : Prop :=
  e = .returned (.tuple #[.int .u64 ((takeN bs a n : Nat) : Int), .bool (takeB bs a n)]) ∧ w = w'

theorem wrap_u64 (n : Nat) (h : n ≤ 18446744073709551615) : IntKind.u64.wrap (n : Int) = n := by
  have e : IntKind.u64.wrap (n : Int) = (n : Int) % 18446744073709551616 := by simp [IntKind.wrap, IntKind.bits, IntKind.signed]
  rw [e]
  omega
theorem or_step (y x s : Nat) (hy : y ≤ 9223372036854775807) (hx : x < 256) :
    bits .or .u64 ((y : Int) * 2) (IntKind.u64.wrap (bits .and .u8 ((x : Int) / 2 ^ s) 1)) = ((2 * y + (x.testBit s).toNat : Nat) : Int) := by
  have e1 : ((x : Int) / 2 ^ s) = ((x / 2 ^ s : Nat) : Int) := by simp
  have e2 : (y : Int) * 2 = ((y * 2 : Nat) : Int) := by simp
  have h1 : x / 2 ^ s < 256 := Nat.lt_of_le_of_lt (Nat.div_le_self _ _) hx
  rw [e1, e2, show (1 : Int) = ((1 : Nat) : Int) from rfl, u8_and_nat _ _ h1 (by omega), nat_mask1, wrap_u64 _ (by omega), u64_or_nat _ _ (by omega) (by omega), nat_join 1 _ _ (by omega) (by omega), Nat.toNat_testBit, Nat.mul_comm]
theorem take_step (bs : List Nat) (a k : Nat) (h : a + k < 8 * bs.length) : num (cut (flat bs) a (k + 1)) = 2 * num (cut (flat bs) a k) + ((bs.getD ((a + k) / 8) 0).testBit (7 - (a + k) % 8)).toNat := by
  rw [cut_succ _ _ _ (by rw [flat_length]; exact h), num_snoc, flat_getD]
  rfl

set_option maxRecDepth 20000 in
set_option maxHeartbeats 400000 in
theorem take_no (A : Option Addr) (m c : Nat) (bs : List Nat) (a n : Int) (w : World) (hl : bs.length = m) (hm : m ≤ 140737488355328)
    (ha : -9223372036854775808 ≤ a ∧ a ≤ 9223372036854775807) (hn : -9223372036854775808 ≤ n ∧ n ≤ 9223372036854775807) (hno : n < 0 ∨ (0 ≤ n ∧ 64 < n) ∨ (0 ≤ n ∧ n ≤ 64 ∧ a < 0) ∨ (0 ≤ n ∧ n ≤ 64 ∧ 0 ≤ a ∧ 8 * (m : Int) - n < a)) :
    Calls Tryz.prog 110 #[.slice A m c, .int .i64 a, .int .i64 n] w (RetS w bs a n) := by
  have HT := Lib.hid (takeB_no (bs := bs) (a := a) (n := n) (by omega))
  clear hl
  rcases hno with h1 | h1 | h1 | h1
  all_goals
    go_enter Tryz.func110, Tryz.ntmps110
    go_wp2
    go_ret2
    unfold RetS
    rw [HT.out.1, HT.out.2]
    exact ⟨rfl, rfl⟩

set_option maxRecDepth 20000 in
set_option maxHeartbeats 400000 in
theorem take_yes (A : Option Addr) (m c B : Nat) (bs : List Nat) (a n : Nat) (w : World) (h : Rd w B A m c bs) (hb : ∀ x ∈ bs, x < 256) (hm : m ≤ 140737488355328)
    (hn : n ≤ 64) (han : a + n ≤ 8 * m) :
    Calls Tryz.prog 110 #[.slice A m c, .int .i64 a, .int .i64 n] w (RetS w bs a n) := by
  have HT := Lib.hid (takeB_yes (bs := bs) (a := a) (n := n) hn (by have := h.len; omega))
  have HB := Lib.hid hb
  clear hb
  have HL := Lib.hid h.len
  go_enter Tryz.func110, Tryz.ntmps110
  go_wp2
  go_loop [8, 9] (fun v i => ∃ k : Nat, k ≤ n ∧ i = .int .i64 ((a : Int) + k) ∧ v = .int .u64 ((num (cut (flat bs) a k) : Nat) : Int)) (fun _ i => ((a : Int) + n - intOf i).toNat)
  case atStart => exact ⟨0, Nat.zero_le _, by go_num, by rw [cut_zero]; rfl⟩
  case round =>
    obtain ⟨k, hk, rfl, rfl⟩ := hrel
    by_cases hlt : k < n
    · obtain ⟨ad, rfl, hbl, hc⟩ := h.at_ (k := (a + k) / 8) (by omega)
      have hx := getD_lt HB.out ((a + k) / 8)
      have H3 := Lib.hid (take_step bs a k (by rw [HL.out]; omega))
      generalize bs.getD ((a + k) / 8) 0 = x at *
      have hy : num (cut (flat bs) a k) ≤ 9223372036854775807 := by
        have h1 := num_lt (cut (flat bs) a k)
        rw [cut_length _ _ _ (by rw [flat_length, HL.out]; omega)] at h1
        have h2 : 2 ^ k ≤ 2 ^ 63 := Nat.pow_le_pow_right (by omega) (by omega)
        omega
      generalize num (cut (flat bs) a k) = y at *
      go_wp2
      go_round
      case rel =>
        exact ⟨k + 1, by omega, by go_num, by rw [H3.out, or_step _ _ _ hy hx]⟩
      case measure => simp [intOf]; omega
    · have e : k = n := by omega
      subst e
      go_wp2
      go_ret2
      unfold RetS
      rw [HT.out.1, HT.out.2]
      exact ⟨rfl, rfl⟩

theorem take_all (A : Option Addr) (m c B : Nat) (bs : List Nat) (a n : Int) (w : World) (h : Rd w B A m c bs) (hb : ∀ x ∈ bs, x < 256) (hm : m ≤ 140737488355328)
    (ha : -9223372036854775808 ≤ a ∧ a ≤ 9223372036854775807) (hn : -9223372036854775808 ≤ n ∧ n ≤ 9223372036854775807) :
    Calls Tryz.prog 110 #[.slice A m c, .int .i64 a, .int .i64 n] w (RetS w bs a n) := by
  by_cases hy : 0 ≤ n ∧ n ≤ 64 ∧ 0 ≤ a ∧ a ≤ 8 * (m : Int) - n
  · obtain ⟨n', rfl⟩ := Int.eq_ofNat_of_zero_le hy.1
    obtain ⟨a', rfl⟩ := Int.eq_ofNat_of_zero_le hy.2.2.1
    exact take_yes A m c B bs a' n' w h hb (by omega) (by omega) (by omega)
  · exact take_no A m c bs a n w h.len (by omega) ha hn (by omega)

end Go.Proofs.YtaebljoacffghaaGreatDoor

/-
  The contracts of layer 5's onesAt and Get: what bits begin with, from a place on.
-/
namespace Go.Proofs.YtaebljoacffghaaGreatDoor
open Go.RowKit

/-- what onesAt comes to, where bits begin with k 1s -/
def RetO (w : World) (p : List Bool) (k : Nat) (e : Ending) (w' : World) : Prop :=
  ((k < p.length ∨ k = 4) ∧ e = .returned (.tuple #[.int .i64 (k : Int), .bool true]) ∧ w = w') ∨ (k = p.length ∧ k < 4 ∧ e = .returned (.tuple #[.int .i64 0, .bool false]) ∧ w = w')

set_option maxRecDepth 20000 in
set_option maxHeartbeats 400000 in
theorem onesat_no (A : Option Addr) (m c B : Nat) (bs : List Nat) (a : Int) (w : World) (h : Rd w B A m c bs) (hb : ∀ x ∈ bs, x < 256) (hm : m ≤ 140737488355328)
    (ha : -9223372036854775808 ≤ a ∧ a ≤ 9223372036854775807) (hno : a < 0 ∨ 8 * (m : Int) < a) :
    Calls Tryz.prog 134 #[.slice A m c, .int .i64 a] w fun e w' => e = .returned (.tuple #[.int .i64 0, .bool false]) ∧ w = w' := by
  have HT := Lib.hid (takeB_no (bs := bs) (a := a) (n := 1) (by have := h.len; omega))
  go_enter Tryz.func134, Tryz.ntmps134
  go_wp2
  go_loop [9] (fun i => i = .int .i64 0) (fun _ => 0)
  case atStart => rfl
  case round =>
    subst hrel
    go_wp2_with (go_at_call 110; refine (take_all A m c B bs a 1 _ h hb hm ha (by omega)).mono ?_; rintro e w1 ⟨rfl, rfl⟩; rw [HT.out.1, HT.out.2])
    go_ret2
    exact ⟨rfl, rfl⟩

set_option maxRecDepth 20000 in
set_option maxHeartbeats 400000 in
theorem onesat_yes (A : Option Addr) (m c B : Nat) (bs : List Nat) (a k : Nat) (w : World) (h : Rd w B A m c bs) (hb : ∀ x ∈ bs, x < 256) (hm : m ≤ 140737488355328)
    (ha : a ≤ 8 * m) (hk : Ones (restL bs a) k) :
    Calls Tryz.prog 134 #[.slice A m c, .int .i64 (a : Int)] w (RetO w (restL bs a) k) := by
  have hl := h.len
  have HT := Lib.hid (fun j => take_rest (bs := bs) (a := a) (j := j) (n := 1) (by omega) (by omega))
  have hk4 := hk.le4
  have hkl := hk.len
  have HK := Lib.hid hk
  clear hk hl
  have HN := Lib.hid (fun j (hj : j < (restL bs a).length) => num_cut_one (restL bs a) j hj)
  generalize restL bs a = p at *
  go_enter Tryz.func134, Tryz.ntmps134
  go_wp2
  go_loop [9] (fun i => ∃ j : Nat, j ≤ k ∧ i = .int .i64 (j : Int)) (fun i => 4 - (intOf i).toNat)
  case atStart => exact ⟨0, by omega, rfl⟩
  case round =>
    obtain ⟨j, hj, rfl⟩ := hrel
    by_cases hj4 : j < 4
    · by_cases hjl : j < p.length
      · by_cases hjk : j < k
        · have H1 : Hid (takeB bs (a + j : Nat) 1 = true ∧ takeN bs (a + j : Nat) 1 = 1) := Lib.hid (by
            have := HT.out j
            refine ⟨this.1.trans (decide_eq_true (by omega)), (this.2 (by omega)).trans ?_⟩
            rw [HN.out j hjl, HK.out.all j hjk]; rfl)
          go_wp2_with (go_at_call 110; refine (take_all A m c B bs (a + j : Nat) 1 _ h hb hm (by omega) (by omega)).mono ?_; rintro e w1 ⟨rfl, rfl⟩; rw [H1.out.1, H1.out.2])
          go_round
          case rel => exact ⟨j + 1, by omega, by go_num⟩
          case measure => simp [intOf]; omega
        · obtain rfl : j = k := by omega
          have H1 : Hid (takeB bs (a + j : Nat) 1 = true ∧ takeN bs (a + j : Nat) 1 = 0) := Lib.hid (by
            have := HT.out j
            refine ⟨this.1.trans (decide_eq_true (by omega)), (this.2 (by omega)).trans ?_⟩
            rw [HN.out j hjl, HK.out.stop hj4]; rfl)
          go_wp2_with (go_at_call 110; refine (take_all A m c B bs (a + j : Nat) 1 _ h hb hm (by omega) (by omega)).mono ?_; rintro e w1 ⟨rfl, rfl⟩; rw [H1.out.1, H1.out.2])
          go_ret2
          exact .inl ⟨.inl hjl, rfl, rfl⟩
      · have H1 : Hid (takeB bs (a + j : Nat) 1 = false) := Lib.hid (by
          have := HT.out j
          exact this.1.trans (decide_eq_false (by omega)))
        go_wp2_with (go_at_call 110; refine (take_all A m c B bs (a + j : Nat) 1 _ h hb hm (by omega) (by omega)).mono ?_; rintro e w1 ⟨rfl, rfl⟩; rw [H1.out])
        go_ret2
        exact .inr ⟨by omega, by omega, rfl, rfl⟩
    · go_wp2
      go_ret2
      obtain rfl : k = 4 := by omega
      exact .inl ⟨.inr rfl, rfl, rfl⟩

/-- what Get comes to -/
def RetD (w : World) (p : List Bool) (e : Ending) (w' : World) : Prop :=
  ∃ (v : Int) (n k : Nat), DGets p v n k ∧ e = .returned (.tuple #[.int .i64 v, .int .i64 (n : Int), errV k]) ∧ Below w.heap.size w w'

set_option maxRecDepth 20000 in
set_option maxHeartbeats 400000 in
theorem dget_no (A : Option Addr) (m c B : Nat) (bs : List Nat) (a : Int) (w : World) (h : Rd w B A m c bs) (hb : ∀ x ∈ bs, x < 256) (hm : m ≤ 140737488355328)
    (ha : -9223372036854775808 ≤ a ∧ a ≤ 9223372036854775807) (hno : a < 0 ∨ 8 * (m : Int) < a) :
    Calls Tryz.prog 122 #[.slice A m c, .int .i64 a] w (RetD w [] ) := by
  have HG : Hid (DGets [] 0 0 2) := Lib.hid ⟨0, ⟨by omega, by simp, fun j hj => by omega, fun _ => rfl⟩, .inl ⟨by decide, rfl, rfl, rfl⟩⟩
  go_enter Tryz.func122, Tryz.ntmps122
  go_wp2_with (go_at_call 134; refine (onesat_no A m c B bs a _ h hb hm ha hno).mono ?_; rintro e w1 ⟨rfl, rfl⟩)
  go_ret3
  exact ⟨0, 0, 2, HG.out, rfl, Below.refl _ _⟩

set_option maxRecDepth 20000 in
set_option maxHeartbeats 400000 in
theorem dget_yes (A : Option Addr) (m c B : Nat) (bs : List Nat) (a : Nat) (w : World) (h : Rd w B A m c bs) (hb : ∀ x ∈ bs, x < 256) (hm : m ≤ 140737488355328)
    (ha : a ≤ 8 * m) (hR : RoomW w) :
    Calls Tryz.prog 122 #[.slice A m c, .int .i64 (a : Int)] w (RetD w (restL bs a)) := by
  obtain ⟨k, hk⟩ := ones_is (restL bs a)
  have hk4 := hk.le4
  have hl := h.len
  have HT : Hid (takeB bs (a + headN k : Nat) (roomN k) = decide (headN k + roomN k ≤ (restL bs a).length) ∧ (headN k + roomN k ≤ (restL bs a).length → takeN bs (a + headN k : Nat) (roomN k) = num (cut (restL bs a) (headN k) (roomN k)))) := Lib.hid (take_rest (by omega) (room_le k))
  have HO := fun w (h : Rd w B A m c bs) => onesat_yes A m c B bs a k w h hb hm ha hk
  have HK := Lib.hid hk
  clear hk hl
  have h3 := head_le k
  have h2 := room_le k
  generalize restL bs a = p at *
  go_enter Tryz.func122, Tryz.ntmps122
  go_wp2_with fail
  refine (HO w h).mono ?_
  rintro e w1 (⟨hp, rfl, rfl⟩ | ⟨hp, hk', rfl, rfl⟩)
  · have hc := hR.2 k (by omega)
    go_wp2_with fail
    go_quiet ((go_at_call 130; exact head_quiet k _ _ hk4))
    have hR2 := hR.drewN nq
    have hr2 := h.drewN nq
    have hb2 : Below w.heap.size w (w.drewN nq) := ⟨rfl, rfl, rfl, Nat.le_refl _, fun _ _ => rfl⟩
    generalize w.drewN nq = w2 at *
    clear hc h HO
    by_cases hfit : headN k + roomN k ≤ p.length
    · have HY : Hid (bodyD p k = sgnN (num (cut p (headN k) (roomN k))) (roomN k)) := Lib.hid rfl
      have HI := Lib.hid (bodyD_in p hk4)
      have H1 : Hid (takeB bs (a + headN k : Nat) (roomN k) = true ∧ takeN bs (a + headN k : Nat) (roomN k) = num (cut p (headN k) (roomN k))) := Lib.hid ⟨HT.out.1.trans (decide_eq_true hfit), HT.out.2 hfit⟩
      have HN : Hid (num (cut p (headN k) (roomN k)) ≤ 18446744073709551615) := Lib.hid (by
        have h5 := num_lt (cut p (headN k) (roomN k))
        rw [cut_length _ _ _ hfit] at h5
        have h6 : 2 ^ roomN k ≤ 2 ^ 64 := Nat.pow_le_pow_right (by omega) h2
        omega)
      have HOK := Lib.hid (fun e => (⟨k, HK.out, .inr (.inr ⟨hfit, e, rfl, rfl, rfl⟩)⟩ : DGets p (bodyD p k) (headN k + roomN k) 0))
      have HNO := Lib.hid (fun e => (⟨k, HK.out, .inr (.inl ⟨hfit, e, rfl, rfl, rfl⟩)⟩ : DGets p 0 0 3))
      generalize num (cut p (headN k) (roomN k)) = y at *
      generalize bodyD p k = z at *
      go_wp2_with fail
      refine (take_all A m c B bs (a + headN k : Nat) (roomN k) _ hr2 hb hm (by omega) (by omega)).mono ?_
      rintro e w1 ⟨rfl, rfl⟩
      rw [H1.out.1, H1.out.2]
      go_wp2_with fail
      refine (signed_any y k _ HN.out hk4).mono ?_
      rintro e w1 ⟨rfl, rfl⟩
      rw [← HY.out]
      go_wp2_with fail
      refine (onesfor_any z _ HI.out hR2).mono ?_
      rintro e w1 ⟨rfl, rfl⟩
      by_cases ho : onesN z = k
      · have hne : (((onesN z : Nat) : Int) != (k : Int)) = false := by simp [ho]
        have HO1 := Lib.hid (HOK.out ho)
        clear ho
        go_wp2
        go_ret3
        exact ⟨z, _, 0, HO1.out, rfl, hb2⟩
      · have hne : (((onesN z : Nat) : Int) != (k : Int)) = true := by simp; omega
        have HO1 := Lib.hid (HNO.out ho)
        clear ho
        go_wp2
        go_ret3
        exact ⟨0, 0, 3, HO1.out, rfl, hb2⟩
    · have H1 : Hid (takeB bs (a + headN k : Nat) (roomN k) = false) := Lib.hid (HT.out.1.trans (decide_eq_false hfit))
      go_wp2_with fail
      refine (take_all A m c B bs (a + headN k : Nat) (roomN k) _ hr2 hb hm (by omega) (by omega)).mono ?_
      rintro e w1 ⟨rfl, rfl⟩
      rw [H1.out]
      go_wp2
      go_ret3
      exact ⟨0, 0, 2, ⟨k, HK.out, .inl ⟨by omega, rfl, rfl, rfl⟩⟩, rfl, hb2⟩
  · go_wp2
    go_ret3
    have h5 : headN k = k + 1 := by unfold headN; rw [if_pos hk']
    exact ⟨0, 0, 2, ⟨k, HK.out, .inl ⟨by omega, rfl, rfl, rfl⟩⟩, rfl, Below.refl _ _⟩

theorem dget_all (A : Option Addr) (m c B : Nat) (bs : List Nat) (a : Int) (w : World) (h : Rd w B A m c bs) (hb : ∀ x ∈ bs, x < 256) (hm : m ≤ 140737488355328)
    (ha : -9223372036854775808 ≤ a ∧ a ≤ 9223372036854775807) (hR : RoomW w) :
    Calls Tryz.prog 122 #[.slice A m c, .int .i64 a] w (RetD w (restL bs a)) := by
  have hl := h.len
  by_cases hy : 0 ≤ a ∧ a ≤ 8 * (m : Int)
  · obtain ⟨a', rfl⟩ := Int.eq_ofNat_of_zero_le hy.1
    exact dget_yes A m c B bs a' w h hb hm (by omega) hR
  · rw [restL_no (by omega)]
    exact dget_no A m c B bs a w h hb hm ha (by omega)

end Go.Proofs.YtaebljoacffghaaGreatDoor
