/-
  The contracts of sort.Search, of the question that layer 17's Seek asks by it, and of Seek.
-/
import Derived.Test.YtcnhagngcgoiaaaDoorCur
namespace Go.Proofs.YtcnhagngcgoiaaaDoor
open Go.RowKit

set_option maxRecDepth 20000 in
set_option maxHeartbeats 2000000 in
theorem asked_any (br bt n c i B : Nat) (A : Option Addr) (xs : List (Int × Nat)) (t : Int) (w : World) (h : RdQ w B A n c xs) (hi : i < n) (hr : w.cell? ⟨br, 0, none⟩ = some (.slice A n c)) (ht : w.cell? ⟨bt, 0, none⟩ = some (.int .i64 t)) :
    Calls Tryd.prog 40 #[.int .i64 i, .pointer (some ⟨br, 0, none⟩), .pointer (some ⟨bt, 0, none⟩)] w fun e w' => e = .returned (.bool (decide (t ≤ (xs.getD i (0, 0)).1))) ∧ Below w.heap.size w w' := by
  obtain ⟨ad, rfl, hbl, hc0, hc1⟩ := h.at_ hi
  have hii : (i : Int) < (n : Int) := by omega
  generalize (xs.getD i (0, 0)).1 = x at *
  clear hc1
  go_enter Tryd.func40, Tryd.ntmps40
  go_upto_region 1 with fail
  go_quiet (fail)
  go_wp2
  go_ret
  exact ⟨rfl, by repeat (first | with_reducible exact Below.refl _ _ | with_reducible assumption | with_reducible refine Below.drew ?_ | with_reducible refine below_drewN ?_ _ | with_reducible refine Below.alloc ?_ (by (first | assumption | omega | (simp; done) | (simp; omega))) _ | with_reducible refine below_set ?_ (by (first | assumption | omega | (simp; done) | (simp; omega))) _ _)⟩

set_option maxRecDepth 20000 in
set_option maxHeartbeats 2000000 in
theorem search_any (br bt n c B : Nat) (A : Option Addr) (xs : List (Int × Nat)) (t : Int) (w : World) (h : RdQ w B A n c xs) (hB : B ≤ w.heap.size) (hbr : br < w.heap.size) (hbt : bt < w.heap.size) (hn : n ≤ 100000) (hri : RiseQ xs)
    (hr : w.cell? ⟨br, 0, none⟩ = some (.slice A n c)) (ht : w.cell? ⟨bt, 0, none⟩ = some (.int .i64 t)) :
    Calls Tryd.prog 39 #[.int .i64 n, .func (.func 40) #[] #[.pointer (some ⟨br, 0, none⟩), .pointer (some ⟨bt, 0, none⟩)]] w fun e w' => (∃ k : Nat, e = .returned (.int .i64 k) ∧ Sought xs t 0 k) ∧ Below w.heap.size w w' := by
  have HL := Lib.hid h.len
  have HR := Lib.hid hri
  clear hri
  have HQ := Lib.hid (fun (i : Nat) (hi : i < n) (w' : World) (hb : Below w.heap.size w w') => asked_any br bt n c i B A xs t w' (h.below (hb.mono hB)) hi ((hb.cell (p := ⟨br, 0, none⟩) hbr).trans hr) ((hb.cell (p := ⟨bt, 0, none⟩) hbt).trans ht))
  clear h hr ht
  go_enter Tryd.func39, Tryd.ntmps39
  go_wp2
  go_loopw [5, 6] (fun s5 s6 wr => ∃ lo hi : Nat, s5 = .int .i64 lo ∧ s6 = .int .i64 hi ∧ lo ≤ hi ∧ hi ≤ n ∧ Below w.heap.size w wr ∧ Hid ((∀ i, i < lo → (xs.getD i (0, 0)).1 < t) ∧ (hi < n → t ≤ (xs.getD hi (0, 0)).1))) (fun s5 s6 _ => (intOf s6).toNat - (intOf s5).toNat)
  case atStart => exact ⟨0, n, rfl, rfl, by omega, by omega, Below.refl _ _, Lib.hid ⟨fun i hi => absurd hi (by omega), fun hi => absurd hi (by omega)⟩⟩
  case round =>
    obtain ⟨lo, hi, rfl, rfl, h1, h2, hwr, HI⟩ := hrel
    by_cases hlt : lo < hi
    · have hc := HQ.out ((lo + hi) / 2) (by omega) _ hwr
      rw [show (((lo + hi) / 2 : Nat) : Int) = ((lo : Int) + (hi : Int)) / 2 by omega] at hc
      cases hp : decide (t ≤ (xs.getD ((lo + hi) / 2) (0, 0)).1) <;> rw [hp] at hc
      · have HP := Lib.hid (of_decide_eq_false hp)
        clear hp
        go_wp2_with (go_at_call 40; refine hc.mono ?_; rintro e w' ⟨rfl, hb⟩)
        go_roundw
        case measure => simp [intOf]; omega
        case rel =>
          refine ⟨(lo + hi) / 2 + 1, hi, by rw [show ((lo : Int) + (hi : Int)) / 2 + 1 = (((lo + hi) / 2 + 1 : Nat) : Int) by omega], rfl, by omega, h2, hwr.trans (hb.mono hwr.size), Lib.hid ⟨fun i hi' => ?_, HI.out.2⟩⟩
          have := HR.out.le (i := i) (j := (lo + hi) / 2) (by omega) (by rw [HL.out]; omega)
          have := HP.out
          omega
      · have HP := Lib.hid (of_decide_eq_true hp)
        clear hp
        go_wp2_with (go_at_call 40; refine hc.mono ?_; rintro e w' ⟨rfl, hb⟩)
        go_roundw
        case measure => simp [intOf]; omega
        case rel => exact ⟨lo, (lo + hi) / 2, rfl, by rw [show ((lo : Int) + (hi : Int)) / 2 = (((lo + hi) / 2 : Nat) : Int) by omega], by omega, by omega, hwr.trans (hb.mono hwr.size), Lib.hid ⟨HI.out.1, fun _ => HP.out⟩⟩
    · obtain rfl : hi = lo := by omega
      go_wp2
      go_ret
      refine ⟨⟨hi, rfl, by omega, by rw [HL.out]; exact h2, fun i _ h => HI.out.1 i h, fun h => HI.out.2 (by rw [← HL.out]; exact h)⟩, hwr⟩

end Go.Proofs.YtcnhagngcgoiaaaDoor
