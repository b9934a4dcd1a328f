/-
  Texts of this proof, one behind the other: WrapLe, UvGet, Idx2.
-/
import Derived.Test.YtaebljoacffghaaGreatDoorWords
import Derived.Test.YtaebljoacffghaaGreatDoorIdxP

/-
  A number of 64 bits, wrapped, is itself.
-/
namespace Go.Proofs.YtaebljoacffghaaGreatDoor
open Go.RowKit

theorem wrap_le (n : Nat) (h : n ≤ 18446744073709551615) : IntKind.u64.wrap (n : Int) = n := by
  have e : IntKind.u64.wrap (n : Int) = (n : Int) % 18446744073709551616 := by simp [IntKind.wrap, IntKind.bits, IntKind.signed]
  rw [e]
  omega

end Go.Proofs.YtaebljoacffghaaGreatDoor

/-
  The contract of the program's own Get: what bytes begin with, from a place on; it changes nothing.
-/
namespace Go.Proofs.YtaebljoacffghaaGreatDoor
open Go.RowKit

/-- what bytes begin with, from any place on -/
def UAt (bs : List Nat) (a : Int) (v n e : Nat) : Prop :=
  ((a < 0 ∨ (bs.length : Int) < a) ∧ v = 0 ∧ n = 0 ∧ e = 2) ∨ (∃ k : Nat, a = (k : Int) ∧ k ≤ bs.length ∧ UGets (bs.drop k) v n e)
theorem UAt.same {bs : List Nat} {a : Int} {v n e v' n' e' : Nat} (h : UAt bs a v n e) (h' : UAt bs a v' n' e') : v = v' ∧ n = n' ∧ e = e' := by
  rcases h with ⟨h1, h2, h3, h4⟩ | ⟨k, h1, h2, h3⟩ <;> rcases h' with ⟨g1, g2, g3, g4⟩ | ⟨j, g1, g2, g3⟩
  · omega
  · omega
  · omega
  · obtain rfl : k = j := by omega
    exact h3.same g3
/-- what Get comes to -/
def RetG (w : World) (bs : List Nat) (a : Int) (e : Ending) (w' : World) : Prop :=
  ∃ v n k : Nat, UAt bs a v n k ∧ e = .returned (.tuple #[.int .u64 (v : Int), .int .i64 (n : Int), errV k]) ∧ w = w'

theorem Rd.cutFrom {w : World} {B m c a : Nat} {A : Option Addr} {bs : List Nat} (h : Rd w B A m c bs) (hk : a ≤ m) : Rd w B (A.map (fun x => x.add a)) (m - a) (c - a) (bs.drop a) := by
  have := h.cutTo (a := a) (n := m - a) (by omega)
  rwa [List.take_of_length_le (by rw [List.length_drop, h.len]; omega)] at this
theorem Rd.cutLast {w : World} {B m a : Nat} {A : Option Addr} {bs : List Nat} (h : Rd w B A m a bs) (hk : a ≤ m) : Rd w B A (m - a) 0 (bs.drop a) := by
  have := h.cutEnd (n := m - a) (by omega)
  rwa [List.take_of_length_le (by rw [List.length_drop, h.len]; omega)] at this

set_option maxRecDepth 20000 in
set_option maxHeartbeats 400000 in
theorem uget_no (A : Option Addr) (m c : Nat) (bs : List Nat) (a : Int) (w : World) (hl : bs.length = m) (_hm : m ≤ 140737488355328) (ha : -9223372036854775808 ≤ a ∧ a ≤ 9223372036854775807)
    (hno : a < 0 ∨ (0 ≤ a ∧ (m : Int) < a)) :
    Calls Tryz.prog 77 #[.slice A m c, .int .i64 a] w (RetG w bs a) := by
  have HT : Hid (UAt bs a 0 0 2) := Lib.hid (.inl ⟨by omega, rfl, rfl, rfl⟩)
  clear hl
  rcases hno with h1 | h1
  all_goals
    go_enter Tryz.func77, Tryz.ntmps77
    go_wp2
    go_ret3
    exact ⟨0, 0, 2, HT.out, rfl, rfl⟩

theorem and_128 : ∀ r : Fin 256, r.val &&& 128 = if 128 ≤ r.val then 128 else 0 := by decide +kernel
theorem top_yes {x : Nat} (h : x < 256) (h1 : 128 ≤ x) : bits .and .u8 (x : Int) 128 = 128 := by
  rw [show (128 : Int) = ((128 : Nat) : Int) from rfl, u8_and_nat _ _ h (by omega), and_128 ⟨x, h⟩, if_pos h1]
theorem top_no {x : Nat} (h : x < 256) (h1 : ¬ 128 ≤ x) : bits .and .u8 (x : Int) 128 = 0 := by
  rw [show (128 : Int) = ((128 : Nat) : Int) from rfl, u8_and_nat _ _ h (by omega), and_128 ⟨x, h⟩, if_neg h1]
  rfl

theorem pow_seven (k : Nat) : 2 ^ (7 * k) = 128 ^ k := by rw [Nat.pow_mul]
theorem or_seven (y x k : Nat) (hy : y < 128 ^ k) (hx : x < 256) (hk : k ≤ 8 ∨ (k = 9 ∧ x ≤ 1)) :
    bits .or .u64 (y : Int) (IntKind.u64.wrap (IntKind.u64.wrap (bits .and .u8 (x : Int) 127) * 2 ^ (7 * k))) = ((y + 128 ^ k * (x % 128) : Nat) : Int) := by
  have h5 : 0 < 128 ^ k := Nat.pow_pos (by omega)
  have h1 : x % 128 * 128 ^ k + 128 ^ k ≤ 18446744073709551616 := by
    rcases hk with h | ⟨rfl, h⟩
    · have h2 : 128 ^ k ≤ 128 ^ 8 := Nat.pow_le_pow_right (by omega) h
      have h3 : x % 128 * 128 ^ k ≤ 127 * 128 ^ 8 := Nat.mul_le_mul (by omega) h2
      omega
    · omega
  have h4 : 128 ^ k ≤ 128 ^ 9 := Nat.pow_le_pow_right (by omega) (by omega)
  rw [show (127 : Int) = ((127 : Nat) : Int) from rfl, u8_and_nat _ _ hx (by omega), nat_mask7, wrap_le _ (by omega)]
  have e : ((x % 128 : Nat) : Int) * 2 ^ (7 * k) = ((x % 128 * 128 ^ k : Nat) : Int) := by rw [← pow_seven]; simp
  rw [e, wrap_le _ (by omega), u64_or_nat _ _ (by omega) (by omega), Nat.or_comm, nat_join (7 * k) _ _ (by rw [pow_seven]; exact Nat.mul_mod_left _ _) (by rw [pow_seven]; exact hy)]
  rw [Nat.add_comm, Nat.mul_comm]

set_option maxRecDepth 20000 in
set_option maxHeartbeats 400000 in
theorem uget_end (A : Option Addr) (m c : Nat) (bs : List Nat) (w : World) (hl : bs.length = m) (_hcap : m ≤ c) (_hm : m ≤ 140737488355328) :
    Calls Tryz.prog 77 #[.slice A m c, .int .i64 (m : Int)] w (RetG w bs m) := by
  have HT : Hid (UAt bs m 0 0 2) := Lib.hid (.inr ⟨m, rfl, by omega, .short 0 (by omega) (by simp; omega) (Lead.zero _)⟩)
  clear hl
  have hd0 : decide ((m : Int) < 0) = false := by simp
  go_enter Tryz.func77, Tryz.ntmps77
  go_wp2
  all_goals
    clear _hcap hd0
    go_loop [23] (fun i => i = .int .i64 0) (fun _ => 0)
    case atStart => rfl
    case round =>
      subst hrel
      go_wp2
      go_ret3
      exact ⟨0, 0, 2, HT.out, rfl, rfl⟩

set_option maxRecDepth 20000 in
set_option maxHeartbeats 400000 in
theorem uget_yes (A : Option Addr) (m c B : Nat) (bs : List Nat) (a : Nat) (w : World) (h : Rd w B A m c bs) (hb : ∀ x ∈ bs, x < 256) (hm : m ≤ 140737488355328) (ha : a < m) :
    Calls Tryz.prog 77 #[.slice A m c, .int .i64 (a : Int)] w (RetG w bs a) := by
  have hcap := h.cap
  have HT : Hid (∀ v n e, UGets (bs.drop a) v n e → UAt bs a v n e) := Lib.hid fun v n e hu => .inr ⟨a, rfl, by have := h.len; omega, hu⟩
  have HB : Hid (∀ x ∈ bs.drop a, x < 256) := Lib.hid fun x hx => hb x (List.mem_of_mem_drop hx)
  clear hb
  have hr := h.cutFrom (Nat.le_of_lt ha)
  obtain ⟨ad, hA, _⟩ := h.at_ ha
  subst hA
  clear h
  have hd0 : decide ((a : Int) < 0) = false := by simp
  have hd1 : decide (m < a) = false := by simp; omega
  go_enter Tryz.func77, Tryz.ntmps77
  go_wp2
  clear hcap hd0 hd1
  generalize bs.drop a = l at *
  have hn : m - a ≤ 140737488355328 := by omega
  have HL := Lib.hid hr.len
  generalize m - a = n at *
  clear ha
  go_loop [7, 23] (fun v i => ∃ k : Nat, k ≤ n ∧ k ≤ 9 ∧ Lead l k ∧ i = .int .i64 (k : Int) ∧ v = .int .u64 ((uval (l.take k) : Nat) : Int)) (fun _ i => n - (intOf i).toNat)
  case atStart => exact ⟨0, by omega, by omega, Lead.zero l, rfl, rfl⟩
  case round =>
    obtain ⟨k, hk, hk9, hlead, rfl, rfl⟩ := hrel
    have HLe := Lib.hid hlead
    clear hlead
    by_cases hlt : k < n
    · obtain ⟨ad, hA, hbl, hc⟩ := hr.at_ hlt
      injection hA with hA
      subst hA
      have hx := getD_lt HB.out k
      obtain ⟨x, ex⟩ : ∃ x, l.getD k 0 = x := ⟨_, rfl⟩
      rw [ex] at hc hx
      have hx0 : 0 ≤ (x : Int) := by omega
      obtain ⟨z, HZ⟩ : ∃ z, Hid (z = uval (l.take (k + 1))) := ⟨_, Lib.hid rfl⟩
      have HN : Hid (l.getD k 0 = x) := Lib.hid ex
      have HS : Hid (uval (l.take (k + 1)) = uval (l.take k) + 128 ^ k * (x % 128)) := Lib.hid (by rw [← ex]; exact uval_step (by rw [HL.out]; exact hlt))
      have HY : Hid (uval (l.take k) < 128 ^ k) := Lib.hid (uval_take_lt l k)
      clear ex
      generalize uval (l.take k) = y at *
      by_cases h9 : k = 9
      · have hk9' : ((k : Int) == 9) = true := by simp; omega
        have H9 := Lib.hid h9
        have h8 : 8 < k := by omega
        clear h9
        by_cases h1 : 1 < x
        · go_wp2
          go_ret3
          refine ⟨0, 0, 3, HT.out _ _ _ (.ten (by have := HL.out; omega) (by have := HLe.out; rwa [H9.out] at this) ?_), rfl, rfl⟩
          have := HN.out
          rw [H9.out] at this
          omega
        · have hand := top_no hx (by omega)
          have hor := or_seven y x k HY.out hx (by omega)
          rw [← HS.out, ← HZ.out] at hor
          by_cases hx1 : x = 0
          · have hx2 : ((x : Int) == 0) = true := by simp; omega
            have HX := Lib.hid hx1
            clear hx1
            go_wp2
            go_ret3
            exact ⟨0, 0, 3, HT.out _ _ _ (.zero k (by omega) (by omega) (by rw [HL.out]; exact hlt) HLe.out (HN.out.trans HX.out)), rfl, rfl⟩
          · have hx2 : ((x : Int) == 0) = false := by simp; omega
            go_wp2
            go_ret3
            refine ⟨z, k + 1, 0, HT.out _ _ _ ?_, rfl, rfl⟩
            rw [HZ.out]
            exact .ok k hk9 (by rw [HL.out]; exact hlt) HLe.out (by have := HN.out; omega) (fun e => by have := HN.out; rw [e] at this; omega) (fun _ => by have := HN.out; omega)
      · have hk9' : ((k : Int) == 9) = false := by simp; omega
        have hor := or_seven y x k HY.out hx (by omega)
        rw [← HS.out, ← HZ.out] at hor
        by_cases htop : 128 ≤ x
        · have hand := top_yes hx htop
          go_wp2
          go_round
          case rel => exact ⟨k + 1, by omega, by omega, HLe.out.succ (by rw [HN.out]; exact htop), by go_num, by rw [HZ.out]⟩
          case measure => simp [intOf]; omega
        · have hand := top_no hx htop
          by_cases hk0 : 0 < k
          · by_cases hx1 : x = 0
            · have hx2 : ((x : Int) == 0) = true := by simp; omega
              have HX := Lib.hid hx1
              clear hx1
              go_wp2
              go_ret3
              exact ⟨0, 0, 3, HT.out _ _ _ (.zero k (by omega) (by omega) (by rw [HL.out]; exact hlt) HLe.out (HN.out.trans HX.out)), rfl, rfl⟩
            · have hx2 : ((x : Int) == 0) = false := by simp; omega
              go_wp2
              go_ret3
              refine ⟨z, k + 1, 0, HT.out _ _ _ ?_, rfl, rfl⟩
              rw [HZ.out]
              exact .ok k hk9 (by rw [HL.out]; exact hlt) HLe.out (by have := HN.out; omega) (fun e => absurd e h9) (fun _ => by have := HN.out; omega)
          · have hk1 : decide (0 < (k : Int)) = false := by simp; omega
            go_wp2
            go_ret3
            refine ⟨z, k + 1, 0, HT.out _ _ _ ?_, rfl, rfl⟩
            rw [HZ.out]
            exact .ok k hk9 (by rw [HL.out]; exact hlt) HLe.out (by have := HN.out; omega) (fun e => absurd e h9) (fun h => absurd h hk0)
    · go_wp2
      go_ret3
      exact ⟨0, 0, 2, HT.out _ _ _ (.short k hk9 (by rw [HL.out]; omega) HLe.out), rfl, rfl⟩

theorem uget_all (A : Option Addr) (m c B : Nat) (bs : List Nat) (a : Int) (w : World) (h : Rd w B A m c bs) (hb : ∀ x ∈ bs, x < 256) (hm : m ≤ 140737488355328) (ha : -9223372036854775808 ≤ a ∧ a ≤ 9223372036854775807) :
    Calls Tryz.prog 77 #[.slice A m c, .int .i64 a] w (RetG w bs a) := by
  by_cases hy : 0 ≤ a ∧ a ≤ m
  · obtain ⟨a', rfl⟩ := Int.eq_ofNat_of_zero_le hy.1
    by_cases he : a' = m
    · subst he
      exact uget_end A a' c bs w h.len h.cap hm
    · exact uget_yes A m c B bs a' w h hb hm (by omega)
  · exact uget_no A m c bs a w h.len hm ha (by omega)

end Go.Proofs.YtaebljoacffghaaGreatDoor

/-
  Plain facts on an index's bytes (no program): the index that bytes begin with, or what is amiss first; what was put is got; what is got, put, is those bytes.
-/
namespace Go.Proofs.YtaebljoacffghaaGreatDoor

open Classical in
/-- what bytes begin with from a place on, as a function -/
noncomputable def ug (bs : List Nat) (a : Nat) : Nat × Nat × Nat :=
  if h : ∃ t : Nat × Nat × Nat, UAt bs a t.1 t.2.1 t.2.2 then Classical.choose h else (0, 0, 2)
theorem ug_of {bs : List Nat} {a v n e : Nat} (h : UAt bs a v n e) : ug bs a = (v, n, e) := by
  have hx : ∃ t : Nat × Nat × Nat, UAt bs a t.1 t.2.1 t.2.2 := ⟨(v, n, e), h⟩
  unfold ug
  rw [dif_pos hx]
  have h2 := Classical.choose_spec hx
  obtain ⟨e1, e2, e3⟩ := h.same h2
  exact Prod.ext e1.symm (Prod.ext e2.symm e3.symm)
theorem ug_ok {bs : List Nat} {a v n : Nat} (h : ug bs a = (v, n, 0)) : UAt bs a v n 0 := by
  unfold ug at h
  split at h
  · rename_i hx
    have h2 := Classical.choose_spec hx
    rw [h] at h2
    exact h2
  · cases h
/-- a number, and the place behind it -/
noncomputable def uvE (bs : List Nat) (a : Nat) : Except Nat (Nat × Nat) := if (ug bs a).2.2 = 0 then .ok ((ug bs a).1, a + (ug bs a).2.1) else .error (ug bs a).2.2
theorem uvE_ok {bs : List Nat} {a v n : Nat} (h : UAt bs a v n 0) : uvE bs a = .ok (v, a + n) := by
  unfold uvE
  rw [ug_of h]
  simp
theorem uvE_bad {bs : List Nat} {a v n e : Nat} (h : UAt bs a v n e) (he : e ≠ 0) : uvE bs a = .error e := by
  unfold uvE
  rw [ug_of h]
  simp [he]
theorem uvE_at {bs : List Nat} {a v a1 : Nat} (h : uvE bs a = .ok (v, a1)) : ∃ n, a1 = a + n ∧ UAt bs a v n 0 := by
  unfold uvE at h
  split at h
  · rename_i h0
    simp only [Except.ok.injEq, Prod.mk.injEq] at h
    obtain ⟨h1, h2⟩ := h
    refine ⟨_, h2.symm, ?_⟩
    refine ug_ok ?_
    rw [← h1, ← h0]
  · cases h
theorem uat_le {bs : List Nat} {a v n e : Nat} (h : UAt bs a v n e) : v ≤ 18446744073709551615 ∧ n ≤ 10 ∧ (e = 0 ∨ e = 2 ∨ e = 3) := by
  rcases h with ⟨_, rfl, rfl, rfl⟩ | ⟨k, h1, h2, h3⟩
  · omega
  · exact gets_le h3
theorem uat_in {bs : List Nat} {a v n : Nat} (hb : ∀ x ∈ bs, x < 256) (h : UAt bs a v n 0) : a ≤ bs.length ∧ a + n ≤ bs.length ∧ uvB v = (bs.drop a).take n := by
  rcases h with ⟨_, _, _, h4⟩ | ⟨k, h1, h2, h3⟩
  · cases h4
  · obtain rfl : a = k := by omega
    obtain ⟨g1, g2⟩ := gets_back (fun x hx => hb x (List.mem_of_mem_drop hx)) h3 rfl
    rw [List.length_drop] at g1
    exact ⟨h2, by omega, g2⟩
theorem uvE_put {bs : List Nat} {v a : Nat} {rest : List Nat} (hv : v ≤ 18446744073709551615) (ha : a ≤ bs.length) (h : bs.drop a = uvB v ++ rest) : uvE bs a = .ok (v, a + (uvB v).length) := by
  refine uvE_ok (.inr ⟨a, rfl, ha, ?_⟩)
  rw [h]
  exact gets_put v rest hv
theorem uvE_back {bs : List Nat} (hb : ∀ x ∈ bs, x < 256) {a v a1 : Nat} (h : uvE bs a = .ok (v, a1)) :
    v ≤ 18446744073709551615 ∧ a1 = a + (uvB v).length ∧ (a ≤ bs.length → a1 ≤ bs.length ∧ ∃ rest, bs.drop a = uvB v ++ rest) := by
  obtain ⟨n, rfl, hu⟩ := uvE_at h
  obtain ⟨h1, h2, h3⟩ := uat_in hb hu
  have hl : (uvB v).length = n := by rw [h3, List.length_take, List.length_drop]; omega
  exact ⟨(uat_le hu).1, by rw [hl], fun _ => ⟨h2, (bs.drop a).drop n, by rw [h3, List.take_append_drop]⟩⟩

/-- the first half of an entry, and its three numbers, as they are read -/
noncomputable def rawE (bs : List Nat) (a : Nat) : Except Nat ((Nat × List Nat) × Nat) :=
  if bs.length < a + 8 then .error 2 else
  match reps (uvE bs) 3 (a + 8) with
  | .error e => .error e
  | .ok (vs, a1) => .ok ((numB ((bs.drop a).take 8), vs), a1)
/-- the bytes of what is read -/
def rawB (r : Nat × List Nat) : List Nat := bigB 8 r.1 ++ (r.2.map uvB).flatten
/-- a number as an int; 0, if it is above all that Count and Len may be -/
def smallN (v : Nat) : Int := if 2147483647 < v then 0 else (v : Int)
/-- the entry of what is read -/
def progE (r : Nat × List Nat) : Ent := ⟨s64n r.1, s64n ((r.1 + r.2.getD 0 0) % 18446744073709551616), smallN (r.2.getD 1 0), smallN (r.2.getD 2 0)⟩
/-- what is read fits -/
def FitR (r : Nat × List Nat) : Prop := r.1 ≤ 18446744073709551615 ∧ r.2.length = 3 ∧ ∀ x ∈ r.2, x ≤ 18446744073709551615
theorem FitR.at_ {r : Nat × List Nat} (h : FitR r) : ∃ f x y z : Nat, r = (f, [x, y, z]) ∧ f ≤ 18446744073709551615 ∧ x ≤ 18446744073709551615 ∧ y ≤ 18446744073709551615 ∧ z ≤ 18446744073709551615 := by
  obtain ⟨f, l⟩ := r
  obtain ⟨h1, h2, h3⟩ := h
  match l, h2, h3 with
  | [x, y, z], _, h3 => exact ⟨f, x, y, z, rfl, h1, h3 x (by simp), h3 y (by simp), h3 z (by simp)⟩
theorem smallN_le (v : Nat) : 0 ≤ smallN v ∧ smallN v ≤ 2147483647 := by unfold smallN; split <;> omega
theorem progE_fit {r : Nat × List Nat} (h : FitR r) : FitE (progE r) := by
  obtain ⟨f, x, y, z, rfl, h1, h2, h3, h4⟩ := h.at_
  have g1 := s64n_fit h1
  have g2 := s64n_fit (n := (f + x) % 18446744073709551616) (by omega)
  have g3 := smallN_le y
  have g4 := smallN_le z
  simp only [FitE, progE, List.getD_cons_zero, List.getD_cons_succ]
  omega
theorem progE_len (r : Nat × List Nat) : 0 ≤ (progE r).ln ∧ (progE r).ln ≤ 2147483647 := smallN_le _

theorem rawE_fit {bs : List Nat} (hb : ∀ x ∈ bs, x < 256) {a a1 : Nat} {r : Nat × List Nat} (h : rawE bs a = .ok (r, a1)) :
    FitR r ∧ a1 = a + (rawB r).length ∧ (a ≤ bs.length → a1 ≤ bs.length ∧ ∃ rest, bs.drop a = rawB r ++ rest) := by
  unfold rawE at h
  split at h
  · cases h
  · rename_i h8
    cases hr : reps (uvE bs) 3 (a + 8) with
    | error e => rw [hr] at h; cases h
    | ok p =>
      obtain ⟨vs, a'⟩ := p
      rw [hr] at h
      simp only [Except.ok.injEq, Prod.mk.injEq] at h
      obtain ⟨rfl, rfl⟩ := h
      obtain ⟨k1, k2, k3, k4, rest, k5⟩ := reps_back (bs := bs) (E := uvB) (P := fun v => v ≤ 18446744073709551615) (fun a x a1 h => uvE_back hb h) 3 (a + 8) vs a' hr (by omega)
      have hl8 : ((bs.drop a).take 8).length = 8 := by rw [List.length_take, List.length_drop]; omega
      have hb8 : ∀ x ∈ (bs.drop a).take 8, x < 256 := fun x hx => hb x (List.mem_of_mem_drop (List.mem_of_mem_take hx))
      have e8 := bigB_numB _ hb8
      rw [hl8] at e8
      have hlt := numB_lt _ hb8
      rw [hl8] at hlt
      refine ⟨⟨by simp only; omega, k1, k2⟩, ?_, fun ha => ⟨k4, rest, ?_⟩⟩
      · simp only [rawB, List.length_append, bigB_length]
        omega
      · simp only [rawB]
        rw [e8, List.append_assoc, ← k5, ← List.drop_drop, List.take_append_drop]
theorem rawE_put {bs : List Nat} {r : Nat × List Nat} {a : Nat} {rest : List Nat} (hr : FitR r) (ha : a ≤ bs.length) (h : bs.drop a = rawB r ++ rest) : rawE bs a = .ok (r, a + (rawB r).length) := by
  obtain ⟨f, vs⟩ := r
  obtain ⟨h1, h2, h3⟩ := hr
  simp only [rawB, List.append_assoc] at h
  have hlen : bs.length - a = 8 + ((vs.map uvB).flatten.length + rest.length) := by
    have := congrArg List.length h
    simpa [bigB_length] using this
  unfold rawE
  rw [if_neg (by omega)]
  have hd : bs.drop (a + 8) = (vs.map uvB).flatten ++ rest := by
    rw [← List.drop_drop, h, List.drop_left' (bigB_length 8 f)]
  have key := reps_put (bs := bs) (E := uvB) (g := fun v : Nat => v) (f := uvE bs) (P := fun v => v ≤ 18446744073709551615) (fun x a rest hx hd => by
    rcases Nat.lt_or_ge bs.length a with hlt | hge
    · rw [List.drop_of_length_le (by omega)] at hd
      have h1 := congrArg List.length hd
      have h2 := uvB_pos x
      simp only [List.length_nil, List.length_append] at h1
      omega
    · exact uvE_put hx hge hd) vs (a + 8) rest h3 hd
  rw [h2] at key
  rw [key]
  simp only
  rw [h, List.take_left' (bigB_length 8 f), numB_bigB 8 f (by omega)]
  simp only [List.map_id', rawB, List.length_append, bigB_length]
  congr 2
  omega

/-- an entry as it is read -/
def rawOf (e : Ent) : Nat × List Nat := (u64n e.mn, [u64n (e.mx - e.mn), u64n e.ct, u64n e.ln])
theorem rawOf_fit (e : Ent) : FitR (rawOf e) := ⟨u64n_le _, rfl, by
  intro x hx
  simp only [rawOf, List.mem_cons, List.not_mem_nil, or_false] at hx
  rcases hx with rfl | rfl | rfl <;> exact u64n_le _⟩
theorem rawB_of (e : Ent) : rawB (rawOf e) = entB e := by simp [rawB, rawOf, entB]
theorem progE_of {e : Ent} (hf : FitE e) (hm : MayE e) : progE (rawOf e) = e := by
  obtain ⟨m, x, c, l⟩ := e
  obtain ⟨⟨c1, c2⟩, ⟨l1, l2⟩, h3⟩ := hm
  obtain ⟨f1, f2, f3, f4⟩ := hf
  simp only at *
  simp only [progE, rawOf, List.getD_cons_zero, List.getD_cons_succ, Ent.mk.injEq]
  refine ⟨s64n_u64n f1, ?_, ?_, ?_⟩
  · have : (u64n m + u64n (x - m)) % 18446744073709551616 = u64n x := by unfold u64n; omega
    rw [this]
    exact s64n_u64n f2
  · rw [u64n_nat (by omega)]
    unfold smallN
    rw [if_neg (by omega)]
    omega
  · rw [u64n_nat (by omega)]
    unfold smallN
    rw [if_neg (by omega)]
    omega
theorem rawOf_prog {r : Nat × List Nat} (hf : FitR r) (hm : MayE (progE r)) : rawOf (progE r) = r := by
  obtain ⟨f, x, y, z, rfl, h1, h2, h3, h4⟩ := hf.at_
  simp only [MayE, progE, List.getD_cons_zero, List.getD_cons_succ] at hm
  obtain ⟨⟨c1, c2⟩, ⟨l1, l2⟩, h⟩ := hm
  simp only [rawOf, progE, List.getD_cons_zero, List.getD_cons_succ, Prod.mk.injEq, List.cons.injEq, and_true]
  refine ⟨u64n_s64n h1, ?_, ?_, ?_⟩
  · unfold s64n at h ⊢
    unfold u64n
    split at h <;> split at h <;> simp_all <;> omega
  · unfold smallN at c1 ⊢
    split at c1
    · omega
    · rw [if_neg (by assumption)]; unfold u64n; omega
  · unfold smallN at l1 ⊢
    split at l1
    · omega
    · rw [if_neg (by assumption)]; unfold u64n; omega

/-- the kind -/
noncomputable def getK (bs : List Nat) : Except Nat (Nat × Nat) :=
  if bs.take 4 ≠ [71, 84, 83, 49] then .error 5 else
  if bs.length ≤ 4 then .error 2 else
  if bs.getD 4 0 = 1 ∨ bs.getD 4 0 = 2 then .ok (bs.getD 4 0, 5) else .error 6
/-- the entries, from the place where their number stands -/
noncomputable def getL (bs : List Nat) (a : Nat) : Except Nat (List (Nat × List Nat) × Nat) :=
  match uvE bs a with
  | .error e => .error e
  | .ok (n, a1) => if 65535 < n then .error 9 else reps (rawE bs) n a1
/-- the place behind the sum -/
noncomputable def getS (bs : List Nat) (a : Nat) : Except Nat Nat :=
  if bs.length < a + 4 then .error 2 else
  if numB ((bs.drop a).take 4) = crcS (bs.take a) then .ok (a + 4) else .error 7
open Classical in
/-- the index that bytes begin with, and how many bytes it has; or what is amiss first -/
noncomputable def getI (bs : List Nat) : Except Nat (Nat × List Ent × Nat) :=
  match getK bs with
  | .error e => .error e
  | .ok (k, a) =>
    match getL bs a with
    | .error e => .error e
    | .ok (rs, a1) =>
      match getS bs a1 with
      | .error e => .error e
      | .ok a2 => if May k (rs.map progE) ∧ lensN (rs.map progE) = bs.length - a2 then .ok (k, rs.map progE, a2) else .error 8
/-- as the laws' own answer: kind, entries, number of bytes, error's number -/
noncomputable def ansI (bs : List Nat) : Nat × List Ent × Nat × Nat :=
  match getI bs with
  | .error e => (0, [], 0, e)
  | .ok (k, es, n) => (k, es, n, 0)

theorem getL_fit {bs : List Nat} (hb : ∀ x ∈ bs, x < 256) {a : Nat} {rs : List (Nat × List Nat)} {a1 : Nat} (h : getL bs a = .ok (rs, a1)) :
    ∃ v, uvE bs a = .ok (rs.length, v) ∧ rs.length ≤ 65535 ∧ (∀ r ∈ rs, FitR r) ∧ a1 = v + ((rs.map rawB).flatten).length ∧ a1 ≤ bs.length ∧ v ≤ bs.length ∧ ∃ rest, bs.drop v = (rs.map rawB).flatten ++ rest := by
  unfold getL at h
  cases hu : uvE bs a with
  | error e => rw [hu] at h; cases h
  | ok p =>
    obtain ⟨n, v⟩ := p
    rw [hu] at h
    simp only at h
    split at h
    · cases h
    · have hv : v ≤ bs.length := by
        obtain ⟨m, rfl, hx⟩ := uvE_at hu
        exact (uat_in hb hx).2.1
      obtain ⟨k1, k2, k3, k4, k5⟩ := reps_back (bs := bs) (E := rawB) (P := FitR) (fun a x a1 h => rawE_fit hb h) n v rs a1 h hv
      exact ⟨v, by rw [k1], by omega, k2, k3, k4, hv, k5⟩

theorem head_take {bs p q : List Nat} (h : bs = p ++ q) : bs.take p.length = p := by rw [h, List.take_left]

theorem getK_ok {bs : List Nat} {k a : Nat} (h : getK bs = .ok (k, a)) : (k = 1 ∨ k = 2) ∧ a = 5 ∧ bs.take 5 = [71, 84, 83, 49, k] ∧ 5 ≤ bs.length := by
  unfold getK at h
  split at h
  · cases h
  · rename_i h4
    split at h
    · cases h
    · rename_i h5
      split at h
      · rename_i h6
        simp only [Except.ok.injEq, Prod.mk.injEq] at h
        obtain ⟨rfl, rfl⟩ := h
        refine ⟨h6, rfl, ?_, by omega⟩
        have h4' : bs.take 4 = [71, 84, 83, 49] := by simpa using h4
        rw [List.take_succ_eq_append_getElem (by omega), h4', List.getD_eq_getElem?_getD, List.getElem?_eq_getElem (by omega)]
        rfl
      · cases h

/-- what is got may be, and, put, is those bytes -/
theorem getI_back {bs : List Nat} (hb : ∀ x ∈ bs, x < 256) {k : Nat} {es : List Ent} {n : Nat} (h : getI bs = .ok (k, es, n)) :
    May k es ∧ (∀ e ∈ es, FitE e) ∧ n ≤ bs.length ∧ idxB k es = bs.take n := by
  unfold getI at h
  cases hk : getK bs with
  | error e => rw [hk] at h; cases h
  | ok p =>
    obtain ⟨k', a⟩ := p
    rw [hk] at h
    simp only at h
    cases hl : getL bs a with
    | error e => rw [hl] at h; cases h
    | ok q =>
      obtain ⟨rs, a1⟩ := q
      rw [hl] at h
      simp only at h
      cases hs : getS bs a1 with
      | error e => rw [hs] at h; cases h
      | ok a2 =>
        rw [hs] at h
        simp only at h
        split at h
        · rename_i hm
          simp only [Except.ok.injEq, Prod.mk.injEq] at h
          obtain ⟨rfl, rfl, rfl⟩ := h
          obtain ⟨g1, rfl, g3, g4⟩ := getK_ok hk
          obtain ⟨v, u1, u2, u3, u4, u5, u6, rest, u7⟩ := getL_fit hb hl
          obtain ⟨_, w1, w2⟩ := uvE_back hb u1
          obtain ⟨_, rest2, w3⟩ := w2 g4
          unfold getS at hs
          split at hs
          · cases hs
          · rename_i hs4
            split at hs
            · rename_i hsum
              simp only [Except.ok.injEq] at hs
              subst hs
              have hmE : ∀ r ∈ rs, MayE (progE r) := by
                intro r hr
                obtain ⟨j, hj, rfl⟩ := List.getElem_of_mem hr
                have := (hm.1.2.2 j (by simpa using hj)).1
                simpa [List.getD_eq_getElem?_getD, hj] using this
              have hent : entsB (rs.map progE) = (rs.map rawB).flatten := by
                unfold entsB
                rw [List.map_map]
                congr 1
                refine List.map_congr_left fun r hr => ?_
                simp only [Function.comp]
                rw [← rawB_of, rawOf_prog (u3 r hr) (hmE r hr)]
              have hhead : headB k' (rs.map progE) = bs.take a1 := by
                have e1 : bs = bs.take 5 ++ bs.drop 5 := (List.take_append_drop 5 bs).symm
                have e2 : bs.drop 5 = uvB rs.length ++ bs.drop v := by
                  rw [w3]
                  congr 1
                  rw [w1, ← List.drop_drop, w3, List.drop_left]
                have e3 : bs = headB k' (rs.map progE) ++ rest := by
                  rw [e1, g3, e2, u7]
                  simp only [headB, hent, List.length_map, List.append_assoc]
                have hlen : (headB k' (rs.map progE)).length = a1 := by
                  simp only [headB, List.length_append, List.length_map, hent, List.length_cons, List.length_nil]
                  omega
                rw [← hlen]
                exact (head_take e3).symm
              have h4l : ((bs.drop a1).take 4).length = 4 := by rw [List.length_take, List.length_drop]; omega
              have hb4 := bigB_numB ((bs.drop a1).take 4) (fun x hx => hb x (List.mem_of_mem_drop (List.mem_of_mem_take hx)))
              rw [h4l, hsum] at hb4
              refine ⟨hm.1, ?_, by omega, ?_⟩
              · intro e he
                obtain ⟨r, hr, rfl⟩ := List.mem_map.1 he
                exact progE_fit (u3 r hr)
              · unfold idxB
                rw [hhead, hb4, ← List.take_add]
            · cases hs
        · cases h

/-- what was put is got, if as many bytes stand behind it as its Lens tell; else it is error 8 -/
theorem getI_put {k : Nat} {es : List Ent} (hk : k = 1 ∨ k = 2) (hm : May k es) (hf : ∀ e ∈ es, FitE e) (rest : List Nat) :
    getI (idxB k es ++ rest) = if lensN es = rest.length then .ok (k, es, (idxB k es).length) else .error 8 := by
  obtain ⟨bs, hbs⟩ : ∃ bs, bs = idxB k es ++ rest := ⟨_, rfl⟩
  rw [← hbs]
  have hA : bs = [71, 84, 83, 49, k] ++ (uvB es.length ++ (entsB es ++ (bigB 4 (crcS (headB k es)) ++ rest))) := by
    rw [hbs]; simp only [idxB, headB, List.append_assoc]
  have hlen : bs.length = 5 + ((uvB es.length).length + ((entsB es).length + (4 + rest.length))) := by
    rw [hA]; simp [bigB_length]; omega
  have hmE : ∀ e ∈ es, MayE e := by
    intro r hr
    obtain ⟨j, hj, rfl⟩ := List.getElem_of_mem hr
    have := (hm.2.2 j hj).1
    simpa [List.getD_eq_getElem?_getD, hj] using this
  have hK : getK bs = .ok (k, 5) := by
    unfold getK
    rw [if_neg (by rw [hA]; simp), if_neg (by omega)]
    have : bs.getD 4 0 = k := by rw [hA]; simp
    rw [this, if_pos hk]
  have hd5 : bs.drop 5 = uvB es.length ++ (entsB es ++ (bigB 4 (crcS (headB k es)) ++ rest)) := by
    rw [hA]
    rfl
  have hU := uvE_put (by have := hm.2.1; omega) (by omega) hd5
  have hdv : bs.drop (5 + (uvB es.length).length) = entsB es ++ (bigB 4 (crcS (headB k es)) ++ rest) := by
    rw [← List.drop_drop, hd5, List.drop_left]
  have hmap : es.map entB = (es.map rawOf).map rawB := by
    rw [List.map_map]
    refine List.map_congr_left fun e _ => ?_
    simp only [Function.comp]
    rw [rawB_of]
  have hR := reps_put (bs := bs) (E := rawB) (g := fun r : Nat × List Nat => r) (f := rawE bs) (P := FitR) (fun r a rest hx hd => by
    rcases Nat.lt_or_ge bs.length a with hlt | hge
    · rw [List.drop_of_length_le (by omega)] at hd
      have := congrArg List.length hd
      simp only [rawB, List.length_nil, List.length_append, bigB_length] at this
      omega
    · exact rawE_put hx hge hd) (es.map rawOf) (5 + (uvB es.length).length) (bigB 4 (crcS (headB k es)) ++ rest) (by
      intro r hr
      obtain ⟨e, _, rfl⟩ := List.mem_map.1 hr
      exact rawOf_fit e) (by rw [hdv]; unfold entsB; rw [hmap])
  rw [← hmap] at hR
  simp only [List.length_map, List.map_id'] at hR
  have hL : getL bs 5 = .ok (es.map rawOf, 5 + (uvB es.length).length + (entsB es).length) := by
    unfold getL
    rw [hU]
    simp only
    rw [if_neg (by have := hm.2.1; omega), hR]
    rfl
  have hhead : (headB k es).length = 5 + (uvB es.length).length + (entsB es).length := by
    simp [headB]; omega
  have hsplit : bs = headB k es ++ (bigB 4 (crcS (headB k es)) ++ rest) := by rw [hbs]; simp only [idxB, List.append_assoc]
  have hcrc : crcS (headB k es) < 256 ^ 4 := by
    have := crcS_lt (headB_lt (k := k) (by omega) es)
    omega
  have hS : getS bs (5 + (uvB es.length).length + (entsB es).length) = .ok (5 + (uvB es.length).length + (entsB es).length + 4) := by
    rw [← hhead]
    unfold getS
    rw [if_neg (by omega)]
    have e1 : bs.take (headB k es).length = headB k es := head_take hsplit
    have e2 : bs.drop (headB k es).length = bigB 4 (crcS (headB k es)) ++ rest := by
      conv => lhs; rw [hsplit]
      rw [List.drop_left]
    rw [e1, e2, List.take_left' (bigB_length 4 _), numB_bigB 4 _ hcrc, if_pos rfl]
  have hback : (es.map rawOf).map progE = es := by
    rw [List.map_map]
    have : es.map (progE ∘ rawOf) = es.map id := List.map_congr_left fun e he => progE_of (hf e he) (hmE e he)
    rw [this, List.map_id]
  have hil : (idxB k es).length = 5 + (uvB es.length).length + (entsB es).length + 4 := by
    simp only [idxB, List.length_append, bigB_length, hhead]
  unfold getI
  rw [hK]
  simp only
  rw [hL]
  simp only
  rw [hS]
  simp only
  rw [hback, hil]
  by_cases hc : lensN es = rest.length
  · rw [if_pos hc, if_pos ⟨hm, by omega⟩]
  · rw [if_neg hc, if_neg (by omega)]

end Go.Proofs.YtaebljoacffghaaGreatDoor
