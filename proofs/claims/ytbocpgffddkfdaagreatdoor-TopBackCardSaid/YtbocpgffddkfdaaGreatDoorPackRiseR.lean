/-
  The contract of the reference's Rising: do times rise?
-/
import Derived.Test.YtbocpgffddkfdaaGreatDoorPackA
namespace Go.Proofs.YtbocpgffddkfdaaGreatDoor
open Go.RowKit

set_option maxRecDepth 20000 in
set_option maxHeartbeats 1000000 in
theorem rrises_any (A : Option Addr) (n c : Nat) (xs : List (Int × Nat)) (w : World) (h : RdQ w w.heap.size A n c xs) (hn : n ≤ 100000) :
    Calls Tryz.prog 22 #[.slice A n c] w (RetDP w (Rises xs)) := by
  go_enter Tryz.func22, Tryz.ntmps22
  have HL := Lib.hid h.len
  have HH := Lib.hid h
  clear h
  go_wp2
  go_loopw [3] (fun i wr => AtRise w n xs i wr) (fun i _ => n - (intOf i).toNat)
  case atStart => exact ⟨0, by omega, rfl, Below.refl _ _, fun j hj => absurd hj (by omega)⟩
  case round =>
    obtain ⟨k, hk, rfl, hbel, hup⟩ := hrel
    have HUP := Lib.hid hup
    clear hup
    by_cases hlt : k + 1 < n
    · obtain ⟨ad, rfl, hbl, hc0, _⟩ := (HH.out.below hbel).at_ hlt
      obtain ⟨ad', e', _, hd0, _⟩ := (HH.out.below hbel).at_ (k := k) (by omega)
      injection e' with e'
      subst e'
      obtain ⟨t1, HT1⟩ : ∃ t, Hid ((xs.getD (k + 1) (0, 0)).1 = t) := ⟨_, Lib.hid rfl⟩
      obtain ⟨t0, HT0⟩ : ∃ t, Hid ((xs.getD k (0, 0)).1 = t) := ⟨_, Lib.hid rfl⟩
      rw [HT1.out] at hc0
      rw [HT0.out] at hd0
      have hlt' : ((k + 1 : Nat) : Int) < (n : Int) := by omega
      have hlt2 : (k : Int) < (n : Int) := by omega
      have hkn : k < n := by omega
      have hsub : IntKind.i64.wrap (((k + 1 : Nat) : Int) - 1) = (k : Int) := by rw [show ((k + 1 : Nat) : Int) - 1 = (k : Int) by omega]; exact IntWalk.i64_in _ (by omega)
      have hsub2 : IntKind.i64.wrap ((k : Int) + 1 - 1) = (k : Int) := by rw [show (k : Int) + 1 - 1 = (k : Int) by omega]; exact IntWalk.i64_in _ (by omega)
      go_wp2_with fail
      go_cut [21] (fun x21 wx => x21 = .bool (decide (t1 ≤ t0)) ∧ Below wr.heap.size wr wx)
      case first =>
        go_quiet (fail)
        go_wp2
        go_meet
        exact ⟨by rfl, by repeat (first | with_reducible exact Below.refl _ _ | with_reducible assumption | with_reducible refine Below.drew ?_ | with_reducible refine below_drewN ?_ _ | with_reducible refine Below.alloc ?_ (by (first | assumption | omega | (simp; done) | (simp; omega))) _ | with_reducible refine below_set ?_ (by (first | assumption | omega | (simp; done) | (simp; omega))) _ _)⟩
      case rest =>
        obtain ⟨rfl, hb⟩ := hcut
        clear hc0 hd0 hsub hsub2
        have hbn := hbel.trans (hb.mono hbel.size)
        by_cases ht : t1 ≤ t0
        · go_wp2
          go_ret
          refine ⟨false, ⟨fun h => (by cases h), fun hr => ?_⟩, rfl, hbn⟩
          have := hr k (by rw [HL.out]; omega)
          rw [HT0.out, HT1.out] at this
          omega
        · go_wp2
          go_roundw
          case rel =>
            refine ⟨k + 1, by omega, by go_num, hbn, fun j hj => ?_⟩
            by_cases e : j = k
            · subst e
              rw [HT0.out, HT1.out]
              omega
            · exact HUP.out j (by omega)
          case measure => simp [intOf]; omega
    · go_wp2
      go_ret
      exact ⟨true, ⟨fun _ i hi => HUP.out i (by rw [HL.out] at hi; omega), fun _ => rfl⟩, rfl, hbel⟩

end Go.Proofs.YtbocpgffddkfdaaGreatDoor
