/-
  The contract of the reference's GetUvar: what bytes begin with, from a place on; it changes nothing.
-/
import Derived.Test.YtgmnhfkmneohcaaUvGet
namespace Go.Proofs.Ytgmnhfkmneohcaa
open Go.RowKit

/-- what GetUvar comes to -/
def RetR (w : World) (bs : List Nat) (a : Int) (e : Ending) (w' : World) : Prop :=
  ∃ v n k : Nat, UAt bs a v n k ∧ e = .returned (.tuple #[.int .u64 (v : Int), .int .i64 (n : Int), .int .i64 (k : Int)]) ∧ w = w'

set_option maxRecDepth 20000 in
set_option maxHeartbeats 400000 in
theorem rget_no (A : Option Addr) (m c : Nat) (bs : List Nat) (a : Int) (w : World) (hl : bs.length = m) (_hm : m ≤ 100000000) (ha : -9223372036854775808 ≤ a ∧ a ≤ 9223372036854775807)
    (hno : a < 0 ∨ (0 ≤ a ∧ (m : Int) < a)) :
    Calls Try.prog 28 #[.slice A m c, .int .i64 a] w (RetR w bs a) := by
  have HT : Hid (UAt bs a 0 0 2) := Lib.hid (.inl ⟨by omega, rfl, rfl, rfl⟩)
  clear hl
  rcases hno with h1 | h1
  all_goals
    go_enter Try.func28, Try.ntmps28
    go_wp2
    go_ret3
    exact ⟨0, 0, 2, HT.out, rfl, rfl⟩

set_option maxRecDepth 20000 in
set_option maxHeartbeats 400000 in
theorem rget_end (A : Option Addr) (m c : Nat) (bs : List Nat) (w : World) (hl : bs.length = m) (_hcap : m ≤ c) (_hm : m ≤ 100000000) :
    Calls Try.prog 28 #[.slice A m c, .int .i64 (m : Int)] w (RetR w bs m) := by
  have HT : Hid (UAt bs m 0 0 2) := Lib.hid (.inr ⟨m, rfl, by omega, .short 0 (by omega) (by simp; omega) (Lead.zero _)⟩)
  clear hl
  have hd0 : decide ((m : Int) < 0) = false := by simp
  go_enter Try.func28, Try.ntmps28
  go_wp2
  all_goals
    clear _hcap hd0
    go_loop [8] (fun i => i = .int .i64 0) (fun _ => 0)
    case atStart => rfl
    case round =>
      subst hrel
      go_wp2
      go_ret3
      exact ⟨0, 0, 2, HT.out, rfl, rfl⟩

theorem uval_drop (l : List Nat) (j : Nat) (h : j < l.length) : uval (l.drop j) = l.getD j 0 % 128 + 128 * uval (l.drop (j + 1)) := by
  rw [List.drop_eq_getElem_cons h, uval]
  simp [List.getD_eq_getElem?_getD, h]
theorem uval_drop_le (l : List Nat) : ∀ j, uval (l.drop j) ≤ uval l := by
  induction l with
  | nil => intro j; simp
  | cons x r ih =>
    intro j
    cases j with
    | zero => simp
    | succ j =>
      have := ih j
      simp only [List.drop_succ_cons, uval]
      omega

set_option maxRecDepth 100000 in
set_option maxHeartbeats 1000000 in
theorem rget_yes (A : Option Addr) (m c B : Nat) (bs : List Nat) (a : Nat) (w : World) (h : Rd w B A m c bs) (hb : ∀ x ∈ bs, x < 256) (hm : m ≤ 100000000) (ha : a < m) :
    Calls Try.prog 28 #[.slice A m c, .int .i64 (a : Int)] w (RetR w bs a) := by
  have hcap := h.cap
  have HT : Hid (∀ v n e, UGets (bs.drop a) v n e → UAt bs a v n e) := Lib.hid fun v n e hu => .inr ⟨a, rfl, by have := h.len; omega, hu⟩
  have HB : Hid (∀ x ∈ bs.drop a, x < 256) := Lib.hid fun x hx => hb x (List.mem_of_mem_drop hx)
  clear hb
  have hr := h.cutFrom (Nat.le_of_lt ha)
  obtain ⟨ad, hA, _⟩ := h.at_ ha
  subst hA
  clear h
  have hd0 : decide ((a : Int) < 0) = false := by simp
  have hd1 : decide (m < a) = false := by simp; omega
  go_enter Try.func28, Try.ntmps28
  go_wp2
  clear hcap hd0 hd1
  generalize bs.drop a = l at *
  have hn : m - a ≤ 100000000 := by omega
  have HL := Lib.hid hr.len
  generalize m - a = n at *
  clear ha
  simp only [Option.map_some] at hr
  generalize ad.add a = ad2 at *
  go_loop [8] (fun i => ∃ k : Nat, k ≤ n ∧ k ≤ 10 ∧ Lead l k ∧ i = .int .i64 (k : Int)) (fun i => n - (intOf i).toNat)
  case atStart => exact ⟨0, by omega, by omega, Lead.zero l, rfl⟩
  case round =>
    obtain ⟨k, hk, hk10, hlead, rfl⟩ := hrel
    have HLe := Lib.hid hlead
    clear hlead
    by_cases hlt : k < n
    · obtain ⟨ad, hA, hbl, hc⟩ := hr.at_ hlt
      injection hA with hA
      subst hA
      have hx := getD_lt HB.out k
      obtain ⟨x, ex⟩ : ∃ x, l.getD k 0 = x := ⟨_, rfl⟩
      rw [ex] at hc hx
      have HN : Hid (l.getD k 0 = x) := Lib.hid ex
      clear ex
      by_cases hk9 : k < 10
      · by_cases htop : 128 ≤ x
        · go_wp2
          go_round
          case rel => exact ⟨k + 1, by omega, by omega, HLe.out.succ (by rw [HN.out]; exact htop), by go_num⟩
          case measure => simp [intOf]; omega
        · have hne : ((k : Int) == (n : Int)) = false := by simp; omega
          have hdt : decide (128 ≤ (x : Int)) = false := by simp; omega
          have hc9 : 8 < k → w.cell? ⟨ad2.block, ad2.off + 9, none⟩ = some (.int .u8 (x : Int)) := by
            intro h
            obtain rfl : k = 9 := by omega
            simpa [Addr.add] using hc
          by_cases hbad : 0 < k ∧ x = 0
          · obtain ⟨hk0, hx1⟩ := hbad
            have hx2 : ((x : Int) == 0) = true := by simp; omega
            have hx3 : x < 2 := by omega
            have HX := Lib.hid hx1
            clear hx1
            by_cases h9 : 8 < k
            · have hc9' := hc9 h9
              clear hc9
              go_wp2
              go_ret3
              exact ⟨0, 0, 3, HT.out _ _ _ (.zero k (by omega) (by omega) (by rw [HL.out]; exact hlt) HLe.out (HN.out.trans HX.out)), rfl, rfl⟩
            · clear hc9
              go_wp2
              go_ret3
              exact ⟨0, 0, 3, HT.out _ _ _ (.zero k (by omega) (by omega) (by rw [HL.out]; exact hlt) HLe.out (HN.out.trans HX.out)), rfl, rfl⟩
          · by_cases hten : 8 < k ∧ 1 < x
            · obtain ⟨h9, h1⟩ := hten
              have hc9' := hc9 h9
              clear hc9
              have HK : Hid (k = 9) := Lib.hid (by omega)
              go_wp2
              go_ret3
              refine ⟨0, 0, 3, HT.out _ _ _ (.ten (by have := HL.out; omega) (by have := HLe.out; rwa [HK.out] at this) ?_), rfl, rfl⟩
              have := HN.out
              rw [HK.out] at this
              omega
            · have HG : Hid (UGets l (uval (l.take (k + 1))) (k + 1) 0) := Lib.hid (.ok k (by omega) (by rw [HL.out]; exact hlt) HLe.out (by have := HN.out; omega) (fun e => by have := HN.out; rw [e] at this; omega) (fun h => by have := HN.out; omega))
              have HV : Hid (uval (l.take (k + 1)) ≤ 18446744073709551615) := Lib.hid (gets_le HG.out).1
              have HTL : Hid ((l.take (k + 1)).length = k + 1) := Lib.hid (by have := HL.out; rw [List.length_take]; omega)
              have HTG : Hid (∀ j, j < k + 1 → (l.take (k + 1)).getD j 0 = l.getD j 0) := Lib.hid (fun j hj => by rw [List.getD_eq_getElem?_getD, List.getElem?_take_of_lt hj, ← List.getD_eq_getElem?_getD])
              generalize l.take (k + 1) = q at *
              rcases (show (8 < k ∧ 0 < k ∧ ¬ 1 < x ∧ ¬ x = 0) ∨ (¬ 8 < k ∧ 0 < k ∧ ¬ x = 0) ∨ (¬ 8 < k ∧ ¬ 0 < k) by omega) with ⟨h9, hk0, hx1, hx3⟩ | ⟨h9, hk0, hx3⟩ | ⟨h9, hk0⟩
              · have hx2 : ((x : Int) == 0) = false := by simp; omega
                have hc9' := hc9 h9
                clear hc9 hbad hten
                go_wp2
                clear hc9' hx2 hne hdt hc hx1 hx3
                go_loop [9, 10] (fun v i => ∃ j : Nat, j ≤ k + 1 ∧ i = .int .i64 ((j : Int) - 1) ∧ v = .int .u64 ((uval (q.drop j) : Nat) : Int)) (fun _ i => (intOf i + 1).toNat)
                case atStart => exact ⟨k + 1, by omega, by go_num, by rw [List.drop_of_length_le (by rw [HTL.out]; omega)]; rfl⟩
                case round =>
                  obtain ⟨j, hj, rfl, rfl⟩ := hrel
                  by_cases hj0 : 0 < j
                  · obtain ⟨i, ei⟩ : ∃ i, i + 1 = j := ⟨j - 1, by omega⟩
                    subst ei
                    obtain ⟨ad, hA, hbl1, hc1⟩ := hr.at_ (k := i) (by omega)
                    injection hA with hA
                    subst hA
                    have HD : Hid (uval (q.drop i) = l.getD i 0 % 128 + 128 * uval (q.drop (i + 1))) := Lib.hid (by rw [uval_drop q i (by rw [HTL.out]; omega), HTG.out i (by omega)])
                    have hle : uval (q.drop i) ≤ 18446744073709551615 := Nat.le_trans (uval_drop_le q i) HV.out
                    rw [HD.out] at hle
                    have hy := getD_lt HB.out i
                    generalize l.getD i 0 = y at *
                    generalize uval (q.drop (i + 1)) = z at *
                    have ej : ((i + 1 : Nat) : Int) - 1 = (i : Int) := by omega
                    rw [ej]
                    clear ej
                    go_wp2
                    go_round
                    case rel => exact ⟨i, by omega, rfl, by rw [HD.out]; go_num⟩
                    case measure => simp [intOf]
                  · obtain rfl : j = 0 := by omega
                    go_wp2
                    go_ret3
                    exact ⟨uval q, k + 1, 0, HT.out _ _ _ HG.out, rfl, rfl⟩
              · have hx2 : ((x : Int) == 0) = false := by simp; omega
                clear hc9 hbad hten
                go_wp2
                clear hx2 hne hdt hc hx3
                go_loop [9, 10] (fun v i => ∃ j : Nat, j ≤ k + 1 ∧ i = .int .i64 ((j : Int) - 1) ∧ v = .int .u64 ((uval (q.drop j) : Nat) : Int)) (fun _ i => (intOf i + 1).toNat)
                case atStart => exact ⟨k + 1, by omega, by go_num, by rw [List.drop_of_length_le (by rw [HTL.out]; omega)]; rfl⟩
                case round =>
                  obtain ⟨j, hj, rfl, rfl⟩ := hrel
                  by_cases hj0 : 0 < j
                  · obtain ⟨i, ei⟩ : ∃ i, i + 1 = j := ⟨j - 1, by omega⟩
                    subst ei
                    obtain ⟨ad, hA, hbl1, hc1⟩ := hr.at_ (k := i) (by omega)
                    injection hA with hA
                    subst hA
                    have HD : Hid (uval (q.drop i) = l.getD i 0 % 128 + 128 * uval (q.drop (i + 1))) := Lib.hid (by rw [uval_drop q i (by rw [HTL.out]; omega), HTG.out i (by omega)])
                    have hle : uval (q.drop i) ≤ 18446744073709551615 := Nat.le_trans (uval_drop_le q i) HV.out
                    rw [HD.out] at hle
                    have hy := getD_lt HB.out i
                    generalize l.getD i 0 = y at *
                    generalize uval (q.drop (i + 1)) = z at *
                    have ej : ((i + 1 : Nat) : Int) - 1 = (i : Int) := by omega
                    rw [ej]
                    clear ej
                    go_wp2
                    go_round
                    case rel => exact ⟨i, by omega, rfl, by rw [HD.out]; go_num⟩
                    case measure => simp [intOf]
                  · obtain rfl : j = 0 := by omega
                    go_wp2
                    go_ret3
                    exact ⟨uval q, k + 1, 0, HT.out _ _ _ HG.out, rfl, rfl⟩
              · have hk1 : decide (0 < (k : Int)) = false := by simp; omega
                clear hc9 hbad hten
                go_wp2
                clear hk1 hne hdt hc
                go_loop [9, 10] (fun v i => ∃ j : Nat, j ≤ k + 1 ∧ i = .int .i64 ((j : Int) - 1) ∧ v = .int .u64 ((uval (q.drop j) : Nat) : Int)) (fun _ i => (intOf i + 1).toNat)
                case atStart => exact ⟨k + 1, by omega, by go_num, by rw [List.drop_of_length_le (by rw [HTL.out]; omega)]; rfl⟩
                case round =>
                  obtain ⟨j, hj, rfl, rfl⟩ := hrel
                  by_cases hj0 : 0 < j
                  · obtain ⟨i, ei⟩ : ∃ i, i + 1 = j := ⟨j - 1, by omega⟩
                    subst ei
                    obtain ⟨ad, hA, hbl1, hc1⟩ := hr.at_ (k := i) (by omega)
                    injection hA with hA
                    subst hA
                    have HD : Hid (uval (q.drop i) = l.getD i 0 % 128 + 128 * uval (q.drop (i + 1))) := Lib.hid (by rw [uval_drop q i (by rw [HTL.out]; omega), HTG.out i (by omega)])
                    have hle : uval (q.drop i) ≤ 18446744073709551615 := Nat.le_trans (uval_drop_le q i) HV.out
                    rw [HD.out] at hle
                    have hy := getD_lt HB.out i
                    generalize l.getD i 0 = y at *
                    generalize uval (q.drop (i + 1)) = z at *
                    have ej : ((i + 1 : Nat) : Int) - 1 = (i : Int) := by omega
                    rw [ej]
                    clear ej
                    go_wp2
                    go_round
                    case rel => exact ⟨i, by omega, rfl, by rw [HD.out]; go_num⟩
                    case measure => simp [intOf]
                  · obtain rfl : j = 0 := by omega
                    go_wp2
                    go_ret3
                    exact ⟨uval q, k + 1, 0, HT.out _ _ _ HG.out, rfl, rfl⟩
      · obtain ⟨ad, hA, hbl9, hc9⟩ := hr.at_ (k := 9) (by omega)
        injection hA with hA
        subst hA
        have hx9 := HLe.out 9 (by omega)
        have HK : Hid (k = 10) := Lib.hid (by omega)
        obtain ⟨y, ey⟩ : ∃ y, l.getD 9 0 = y := ⟨_, rfl⟩
        rw [ey] at hc9 hx9
        have HY := Lib.hid ey
        clear ey
        have hc9' : w.cell? ⟨ad2.block, ad2.off + 9, none⟩ = some (.int .u8 (y : Int)) := by simpa [Addr.add] using hc9
        clear hc9
        go_wp2
        go_ret3
        exact ⟨0, 0, 3, HT.out _ _ _ (.ten (by have := HL.out; omega) (fun j hj => HLe.out j (by omega)) (by rw [HY.out]; omega)), rfl, rfl⟩
    · by_cases h9 : k < 9
      · have hne : ((k : Int) == (n : Int)) = true := by simp; omega
        go_wp2
        go_ret3
        exact ⟨0, 0, 2, HT.out _ _ _ (.short k (by omega) (by rw [HL.out]; omega) HLe.out), rfl, rfl⟩
      · by_cases h10 : n < 10
        · go_wp2
          go_ret3
          exact ⟨0, 0, 2, HT.out _ _ _ (.short k (by omega) (by rw [HL.out]; omega) HLe.out), rfl, rfl⟩
        · obtain ⟨ad, hA, hbl9, hc9⟩ := hr.at_ (k := 9) (by omega)
          injection hA with hA
          subst hA
          have hx9 := HLe.out 9 (by omega)
          obtain ⟨y, ey⟩ : ∃ y, l.getD 9 0 = y := ⟨_, rfl⟩
          rw [ey] at hc9 hx9
          have HY := Lib.hid ey
          clear ey
          have hc9' : w.cell? ⟨ad2.block, ad2.off + 9, none⟩ = some (.int .u8 (y : Int)) := by simpa [Addr.add] using hc9
          clear hc9
          go_wp2
          go_ret3
          exact ⟨0, 0, 3, HT.out _ _ _ (.ten (by have := HL.out; omega) (fun j hj => HLe.out j (by omega)) (by rw [HY.out]; omega)), rfl, rfl⟩

theorem rget_all (A : Option Addr) (m c B : Nat) (bs : List Nat) (a : Int) (w : World) (h : Rd w B A m c bs) (hb : ∀ x ∈ bs, x < 256) (hm : m ≤ 100000000) (ha : -9223372036854775808 ≤ a ∧ a ≤ 9223372036854775807) :
    Calls Try.prog 28 #[.slice A m c, .int .i64 a] w (RetR w bs a) := by
  by_cases hy : 0 ≤ a ∧ a ≤ m
  · obtain ⟨a', rfl⟩ := Int.eq_ofNat_of_zero_le hy.1
    by_cases he : a' = m
    · subst he
      exact rget_end A a' c bs w h.len h.cap hm
    · exact rget_yes A m c B bs a' w h hb hm (by omega)
  · exact rget_no A m c bs a w h.len hm ha (by omega)

end Go.Proofs.Ytgmnhfkmneohcaa
