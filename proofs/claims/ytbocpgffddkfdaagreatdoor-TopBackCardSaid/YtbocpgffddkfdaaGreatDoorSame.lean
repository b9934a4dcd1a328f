/-
  The contract of the laws' own Same: are two lists of samples the same?
-/
import Derived.Test.YtbocpgffddkfdaaGreatDoorWords
import Derived.Test.YtbocpgffddkfdaaGreatDoorKinEq
import Derived.Deep.DeepCutAuto
import Derived.Deep.RegionHeld3
namespace Go.Proofs.YtbocpgffddkfdaaGreatDoor
open Go.RowKit

theorem run_neq_smp2 (w : World) (t v t' v' : Int) : (binOp .neq 61 (.agg #[.int .i64 t, .int .u64 v]) (.agg #[.int .i64 t', .int .u64 v'])).run Tryz.prog w = .ok (.bool (!(t == t' && v == v'))) w := by
  rw [run_neq_struct, run_equalIn_agg _ _ _ _ _ smp_fields smp_held]
  by_cases h1 : t = t' <;> by_cases h2 : v = v' <;> simp [Op.eqFields, go_sem, h1, h2]
theorem same_all {xs ys : List (Int × Nat)} {n : Nat} (lx : xs.length = n) (ly : ys.length = n) (h : ∀ i, i < n → xs.getD i (0, 0) = ys.getD i (0, 0)) : xs = ys := by
  apply List.ext_getElem (by omega)
  intro i h1 h2
  have := h i (by omega)
  simpa [List.getD_eq_getElem?_getD, h1, h2] using this

set_option maxRecDepth 20000 in
set_option maxHeartbeats 2000000 in
theorem same_any (A1 A2 : Option Addr) (m1 c1 m2 c2 : Nat) (xs ys : List (Int × Nat)) (w : World) (h1 : RdQ w w.heap.size A1 m1 c1 xs) (h2 : RdQ w w.heap.size A2 m2 c2 ys) (hm : m1 ≤ 100000) (hm2 : m2 ≤ 100000) :
    Calls Tryz.prog 26 #[.slice A1 m1 c1, .slice A2 m2 c2] w
      fun e w' => (∃ b : Bool, e = .returned (.int .i64 (if b then 1 else 0)) ∧ (b = true ↔ xs = ys)) ∧ Below w.heap.size w w' := by
  have HX := Lib.hid h1.len
  have HY := Lib.hid h2.len
  go_enter Tryz.func26, Tryz.ntmps26
  by_cases hmm : m1 = m2
  · subst hmm
    go_wp2_with fail
    go_loopw [5] (fun i wr => ∃ k : Nat, k ≤ m1 ∧ i = .int .i64 k ∧ Below w.heap.size w wr ∧ ∀ i, i < k → xs.getD i (0, 0) = ys.getD i (0, 0)) (fun i _ => m1 - (intOf i).toNat)
    case atStart => exact ⟨0, Nat.zero_le _, rfl, Below.refl _ _, fun i hi => absurd hi (by omega)⟩
    case round =>
      obtain ⟨k, hk, rfl, hwr, hsame⟩ := hrel
      have HS := Lib.hid hsame
      clear hsame
      by_cases hlt : k < m1
      · obtain ⟨ad, rfl, hbl, hc0, hc1⟩ := (h1.below hwr).at_ hlt
        obtain ⟨bd, rfl, hbl2, hd0, hd1⟩ := (h2.below hwr).at_ hlt
        have HXK : ∀ t v, xs.getD k (0, 0) = (t, v) → True := fun _ _ _ => trivial
        obtain ⟨x, hx⟩ : ∃ x, xs.getD k (0, 0) = x := ⟨_, rfl⟩
        obtain ⟨y, hy⟩ : ∃ y, ys.getD k (0, 0) = y := ⟨_, rfl⟩
        rw [hx] at hc0 hc1
        rw [hy] at hd0 hd1
        have HKX := Lib.hid hx
        have HKY := Lib.hid hy
        clear hx hy HXK
        obtain ⟨t, v⟩ := x
        obtain ⟨t', v'⟩ := y
        simp only at hc0 hc1 hd0 hd1
        have hlt' : (k : Int) < (m1 : Int) := by omega
        have qm := fun w => run_neq_smp2 w t (v : Int) t' (v' : Int)
        have mg := smp_guard
        by_cases he : t = t' ∧ v = v'
        · obtain ⟨rfl, rfl⟩ := he
          go_upto_region 6 with fail
          go_cut [25] (fun x25 wx => x25 = .bool false ∧ Below wr.heap.size wr wx)
          case first =>
            go_quiet (fail)
            go_wp2
            go_meet
            exact ⟨by simp, by repeat (first | with_reducible exact Below.refl _ _ | with_reducible assumption | with_reducible refine Below.drew ?_ | with_reducible refine below_drewN ?_ _ | with_reducible refine Below.alloc ?_ (by (first | assumption | omega | (simp; done) | (simp; omega))) _ | with_reducible refine below_set ?_ (by (first | assumption | omega | (simp; done) | (simp; omega))) _ _)⟩
          case rest =>
            obtain ⟨rfl, hb⟩ := hcut
            clear hc0 hc1 hd0 hd1 qm mg
            go_wp2_with fail
            go_roundw
            case rel =>
              refine ⟨k + 1, by omega, by go_num, hwr.trans (hb.mono hwr.size), fun i hi => ?_⟩
              by_cases hik : i = k
              · rw [hik, HKX.out, HKY.out]
              · exact HS.out i (by omega)
            case measure => simp [intOf]; omega
        · go_upto_region 6 with fail
          go_cut [25] (fun x25 wx => x25 = .bool true ∧ Below wr.heap.size wr wx)
          case first =>
            have hb0 : (t == t' && (v : Int) == (v' : Int)) = false := by
              rw [Bool.eq_false_iff]
              intro h
              simp at h
              exact he ⟨h.1, by omega⟩
            rw [hb0] at qm
            go_quiet (fail)
            go_wp2
            go_meet
            exact ⟨by simp, by repeat (first | with_reducible exact Below.refl _ _ | with_reducible assumption | with_reducible refine Below.drew ?_ | with_reducible refine below_drewN ?_ _ | with_reducible refine Below.alloc ?_ (by (first | assumption | omega | (simp; done) | (simp; omega))) _ | with_reducible refine below_set ?_ (by (first | assumption | omega | (simp; done) | (simp; omega))) _ _)⟩
          case rest =>
            obtain ⟨rfl, hb⟩ := hcut
            clear hc0 hc1 hd0 hd1 qm mg
            go_wp2
            go_ret
            refine ⟨⟨false, rfl, ⟨fun h => absurd h (by simp), fun h => ?_⟩⟩, hwr.trans (hb.mono hwr.size)⟩
            have := HKX.out
            rw [h, HKY.out] at this
            injection this with a b
            exact absurd ⟨a.symm, b.symm⟩ he
      · obtain rfl : k = m1 := by omega
        go_wp2
        go_ret
        exact ⟨⟨true, rfl, ⟨fun _ => same_all HX.out HY.out HS.out, fun _ => rfl⟩⟩, hwr⟩
  · have hne : ((m1 : Int) != (m2 : Int)) = true := by simp; omega
    go_wp2
    go_ret
    exact ⟨⟨false, rfl, ⟨fun h => absurd h (by simp), fun h => absurd (by rw [← HX.out, ← HY.out, h]) hmm⟩⟩, Below.refl _ _⟩

end Go.Proofs.YtbocpgffddkfdaaGreatDoor
