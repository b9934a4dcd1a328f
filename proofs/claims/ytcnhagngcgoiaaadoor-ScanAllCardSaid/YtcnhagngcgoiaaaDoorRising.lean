/-
  The contract of the laws' own Rising: some samples whose times rise, in memory of its own.
-/
import Derived.Test.YtcnhagngcgoiaaaDoorWords
import Derived.Deep.RegionHeld3
import Derived.Deep.DeepCutAuto
namespace Go.Proofs.YtcnhagngcgoiaaaDoor
open Go.RowKit

/-- the times rise -/
def RiseQ (xs : List (Int × Nat)) : Prop := ∀ i, i + 1 < xs.length → (xs.getD i (0, 0)).1 < (xs.getD (i + 1) (0, 0)).1
theorem RiseQ.nil_ : RiseQ [] := fun i h => absurd h (by simp)
theorem RiseQ.one (x : Int × Nat) : RiseQ [x] := fun i h => absurd h (by simp)
theorem RiseQ.more {xs : List (Int × Nat)} {m : Nat} (h : RiseQ xs) (hm : xs.length = m + 1) (x : Int × Nat) (hx : (xs.getD m (0, 0)).1 < x.1) : RiseQ (xs ++ [x]) := by
  intro i hi
  rw [List.length_append, List.length_singleton] at hi
  simp only [List.getD_eq_getElem?_getD] at *
  by_cases e : i + 1 < xs.length
  · rw [List.getElem?_append_left (by omega), List.getElem?_append_left e]
    have := h i e
    simpa only [List.getD_eq_getElem?_getD] using this
  · obtain rfl : i = m := by omega
    rw [List.getElem?_append_left (by omega), List.getElem?_append_right (by omega)]
    have : i + 1 - xs.length = 0 := by omega
    rw [this]
    simpa using hx

/-- samples whose times rise, n at most, new -/
def RetRise (w : World) (n : Nat) (e : Ending) (w' : World) : Prop := ∃ ys A c, e = .returned (.slice A ys.length c) ∧ OwnQ w w' (.slice A ys.length c) ys ∧ RiseQ ys ∧ ys.length ≤ n

set_option maxRecDepth 20000 in
set_option maxHeartbeats 2000000 in
theorem rising_any (A : Option Addr) (m c : Nat) (xs : List (Int × Nat)) (w : World) (h : RdQ w w.heap.size A m c xs) (hm : m ≤ 100000) :
    Calls Tryd.prog 19 #[.slice A m c] w (RetRise w m) := by
  go_enter Tryd.func19, Tryd.ntmps19
  go_wp2
  go_loopw [3, 4] (fun v i wr => ∃ (k : Nat) (ys : List (Int × Nat)), k ≤ m ∧ i = .int .i64 k ∧ OwnQ w wr v ys ∧ RiseQ ys ∧ ys.length ≤ k) (fun _ i _ => m - (intOf i).toNat)
  case atStart => exact ⟨0, [], Nat.zero_le _, rfl, OwnQ.nil_ _ _ (Below.refl _ _), RiseQ.nil_, Nat.le_refl _⟩
  case round =>
    obtain ⟨k, ys, hk, rfl, hown, hri, hle⟩ := hrel
    have hwr := hown.bel
    by_cases hlt : k < m
    · obtain ⟨ad, rfl, hbl, hc0, hc1⟩ := (h.below hwr).at_ hlt
      have hfx := h.fitAt k
      generalize xs.getD k (0, 0) = x at *
      obtain ⟨t, v⟩ := x
      simp only at hc0 hc1
      by_cases h0 : ys.length = 0
      · obtain rfl : ys = [] := List.eq_nil_of_length_eq_zero h0
        obtain ⟨A1, c1, rfl, hr1⟩ := hown.form
        go_wp2_with (at_builtin; (refine wpList_appQ rfl (.tmp 16) (.tmp 21) rfl rfl rfl (hown.alloc _) (RdQ.one _ (t, v) hfx) (by simp) ?_; intro v' w' hown3 _))
        go_roundw
        case rel => exact ⟨k + 1, [(t, v)], by omega, by go_num, hown3, RiseQ.one _, by simp⟩
        case measure => simp [intOf]; omega
      · obtain ⟨M, hM⟩ : ∃ M, ys.length = M + 1 := ⟨ys.length - 1, by omega⟩
        obtain ⟨A1, c1, rfl, hr1⟩ := hown.form
        obtain ⟨ad1, rfl, hbl1, hd0, hd1⟩ := hr1.at_ (k := M) (by omega)
        have HR := Lib.hid (fun (x : Int × Nat) (hx : (ys.getD M (0, 0)).1 < x.1) => hri.more hM x hx)
        generalize (ys.getD M (0, 0)).1 = t1 at *
        have HYL := Lib.hid hM
        have hcap := hr1.cap
        have hnn : (((M + 1 : Nat) : Int) = 0) = False := by simp; omega
        have hMb : M ≤ 200000 := by omega
        obtain ⟨n1, hn1⟩ : ∃ n1, ys.length = n1 := ⟨_, rfl⟩
        rw [hn1] at hM hown hcap ⊢
        subst hM
        go_upto_region 8 with fail
        go_cut [34] (fun x34 wx => x34 = .bool (decide (t1 < t)) ∧ Below wr.heap.size wr wx)
        case first =>
          have hlt' : (k : Int) < (m : Int) := by omega
          have hMi : (M : Int) < ((M + 1 : Nat) : Int) := by omega
          have hM1 : M < M + 1 := by omega
          have hsub : IntKind.i64.wrap ((M : Int) + 1 - 1) = (M : Int) := by rw [show (M : Int) + 1 - 1 = (M : Int) by omega]; exact IntWalk.i64_in _ (by omega)
          clear HR HYL
          go_quiet (fail)
          go_wp2
          go_meet
          exact ⟨by rfl, by repeat (first | with_reducible exact Below.refl _ _ | with_reducible assumption | with_reducible refine Below.drew ?_ | with_reducible refine below_drewN ?_ _ | with_reducible refine Below.alloc ?_ (by (first | assumption | omega | (simp; done) | (simp; omega))) _ | with_reducible refine below_set ?_ (by (first | assumption | omega | (simp; done) | (simp; omega))) _ _)⟩
        case rest =>
          obtain ⟨rfl, hb⟩ := hcut
          have hown2 := hown.keep hb
          have hc0' := (hb.cell (p := ad.add (k * 2)) (by rw [add_block]; exact Nat.lt_of_lt_of_le hbl hwr.size)).trans hc0
          have hc1' := (hb.cell (p := ⟨(ad.add (k * 2)).block, (ad.add (k * 2)).off + 1, none⟩) (by show (ad.add (k * 2)).block < _; rw [add_block]; exact Nat.lt_of_lt_of_le hbl hwr.size)).trans hc1
          clear hc0 hc1 hown hr1 hd0 hd1
          by_cases ht : t1 < t
          · have HH : Hid (ys.length = M + 1) := HYL
            clear HYL
            go_wp2_with (at_builtin; (refine wpList_appQ rfl (.tmp 35) (.tmp 40) rfl rfl rfl (hown2.alloc _) (RdQ.one _ (t, v) hfx) (by rw [HH.out]; omega) ?_; intro v' w' hown3 _))
            go_roundw
            case rel => exact ⟨k + 1, ys ++ [(t, v)], by omega, by go_num, hown3, HR.out (t, v) ht, by rw [List.length_append, HH.out]; simp; have := HH.out; omega⟩
            case measure => simp [intOf]; omega
          · go_wp2
            go_roundw
            case rel => exact ⟨k + 1, ys, by omega, by go_num, hown2, hri, by omega⟩
            case measure => simp [intOf]; omega
    · obtain rfl : k = m := by omega
      obtain ⟨A1, c1, rfl, hr1⟩ := hown.form
      go_wp2
      go_ret
      exact ⟨ys, A1, c1, rfl, hown, hri, hle⟩

end Go.Proofs.YtcnhagngcgoiaaaDoor
