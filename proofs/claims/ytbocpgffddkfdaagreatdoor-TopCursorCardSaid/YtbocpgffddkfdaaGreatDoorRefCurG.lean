/-
  The contracts of the reference's cursor, behind which its own box alone has turned.
-/
import Derived.Test.YtbocpgffddkfdaaGreatDoorCurA
import Derived.Test.YtbocpgffddkfdaaGreatDoorFillA
import Derived.Deep.DeepCutAuto
import Derived.Deep.RegionHeld3
namespace Go.Proofs.YtbocpgffddkfdaaGreatDoor
open Go.RowKit

def RetRCurG (w : World) (g : Nat) (A : Option Addr) (n c : Nat) (bad : Int) (R : Bool → Int → Prop) (e : Ending) (w' : World) : Prop :=
  ∃ ok a', e = .returned (.bool ok) ∧ R ok a' ∧ BoxL w' g [.slice A n c, .int .i64 bad, .int .i64 a', .bool (!ok)] ∧ Below g w w' ∧ w.grownBy w' (some g)
theorem only_drawn (w : World) (g q j : Nat) (u : Value) : w.grownBy ((w.drewN q).setCell ⟨g, j, none⟩ u) (some g) := (only_drewN (World.grownBy.refl w _) q).trans (only_set _ _ _ _)
set_option maxRecDepth 20000 in
set_option maxHeartbeats 2000000 in
theorem rcur_nextG (g : Nat) (A : Option Addr) (n c : Nat) (bad a : Int) (d : Bool) (w : World) (h : BoxL w g [.slice A n c, .int .i64 bad, .int .i64 a, .bool d]) (ha : StandsAt n a) (hn : n ≤ 100000) :
    Calls Tryz.prog 12 #[.pointer (some ⟨g, 0, none⟩)] w (RetRCurG w g A n c bad (NextR n a d)) := by
  have hg := h.lt
  have hgg : Below g w w := Below.refl _ _
  have hw : IntKind.i64.wrap (a + 1) = a + 1 := IntWalk.i64_in _ (by unfold StandsAt at ha; omega)
  have HA := Lib.hid ha
  clear ha
  obtain ⟨u0, u1, u2, u3⟩ := h.get4c
  obtain ⟨f0, f1, f2, f3⟩ := h.free4c
  go_enter Tryz.func12, Tryz.ntmps12
  cases d
  · by_cases hl : a + 1 < (n : Int)
    · have hl2 : ¬ (n : Int) ≤ a + 1 := by omega
      go_upto_region 1 with fail
      go_quiet (fail)
      go_wp2
      go_ret
      exact ⟨true, a + 1, rfl, .inl ⟨rfl, hl, rfl, rfl⟩, (h.drewN _).put 2 (.int .i64 (a + 1)), below_set (below_drewN hgg _) (Nat.le_refl _) _ _, only_drawn _ _ _ _ _⟩
    · have hl2 : (n : Int) ≤ a + 1 := by omega
      have hl3 : a + 1 = (n : Int) := by have := HA.out; unfold StandsAt at this; omega
      have HL3 := Lib.hid hl3
      clear hl3
      go_upto_region 1 with fail
      go_quiet (fail)
      go_wp2
      go_ret
      exact ⟨false, a, rfl, .inr ⟨.inr HL3.out, rfl, rfl⟩, (h.drewN _).put 3 (.bool true), below_set (below_drewN hgg _) (Nat.le_refl _) _ _, only_drawn _ _ _ _ _⟩
  · go_upto_region 1 with fail
    go_quiet (fail)
    go_wp2
    go_ret
    exact ⟨false, a, rfl, .inr ⟨.inl rfl, rfl, rfl⟩, (h.drewN _).put 3 (.bool true), below_set (below_drewN hgg _) (Nat.le_refl _) _ _, only_drawn _ _ _ _ _⟩
set_option maxRecDepth 20000 in
set_option maxHeartbeats 2000000 in
theorem rcur_seekG (g B : Nat) (A : Option Addr) (n c : Nat) (xs : List (Int × Nat)) (bad a t : Int) (d : Bool) (w : World) (h : BoxL w g [.slice A n c, .int .i64 bad, .int .i64 a, .bool d]) (ha : StandsAt n a) (hn : n ≤ 100000) (hx : RdQ w B A n c xs) :
    Calls Tryz.prog 11 #[.pointer (some ⟨g, 0, none⟩), .int .i64 t] w (RetRCurG w g A n c bad (SeekR xs t a d)) := by
  have hg := h.lt
  have hgg : Below g w w := Below.refl _ _
  have HL := Lib.hid hx.len
  obtain ⟨u0, u1, u2, u3⟩ := h.get4c
  obtain ⟨f0, f1, f2, f3⟩ := h.free4c
  cases d
  · by_cases ha1 : a = -1
    · subst ha1
      go_enter Tryz.func11, Tryz.ntmps11
      go_wp2_with fail
      go_loopw [5] (fun s5 wr => ∃ k : Nat, s5 = .int .i64 k ∧ 0 ≤ k ∧ k ≤ n ∧ (∃ q, wr = w.drewN q) ∧ Hid (∀ i, 0 ≤ i → i < k → (xs.getD i (0, 0)).1 < t)) (fun s5 _ => n - (intOf s5).toNat)
      case atStart => exact ⟨0, rfl, Nat.le_refl _, Nat.zero_le _, ⟨0, rfl⟩, Lib.hid fun i h1 h2 => absurd h2 (by omega)⟩
      case round =>
        obtain ⟨k, rfl, h1, h2, ⟨q, rfl⟩, HI⟩ := hrel
        by_cases hlt : k < n
        · obtain ⟨ad, rfl, hbl, hc0, hc1⟩ := hx.at_ hlt
          clear hc1
          obtain ⟨x, hx1⟩ : ∃ x, (xs.getD k (0, 0)).1 = x := ⟨_, rfl⟩
          rw [hx1] at hc0
          have HX := Lib.hid hx1
          clear hx1
          have hki : (k : Int) < (n : Int) := by omega
          have hkn : ¬ (n : Int) ≤ (k : Int) := by omega
          by_cases hxt : x < t
          · go_wp2
            go_roundw
            case rel => exact ⟨k + 1, by go_num, by omega, by omega, ⟨q, rfl⟩, Lib.hid fun i h3 h4 => (by
              by_cases e : i = k
              · rw [e, HX.out]; exact hxt
              · exact HI.out i h3 (by omega))⟩
            case measure => simp [intOf]; omega
          · have HS : Hid (Sought xs t 0 k) := Lib.hid ⟨h1, by rw [HL.out]; exact h2, HI.out, fun _ => by rw [HX.out]; omega⟩
            go_wp2
            go_ret
            exact ⟨true, k, rfl, .inr ⟨rfl, k, HS.out, .inl ⟨by rw [HL.out]; exact hlt, rfl, rfl⟩⟩, (h.drewN q).put 2 (.int .i64 (k : Int)), below_set (below_drewN hgg _) (Nat.le_refl _) _ _, only_drawn _ _ _ _ _⟩
        · obtain rfl : k = n := by omega
          have HS : Hid (Sought xs t 0 k) := Lib.hid ⟨h1, by rw [HL.out]; exact h2, HI.out, fun h => absurd h (by rw [HL.out]; omega)⟩
          go_wp2
          go_ret
          exact ⟨false, -1, rfl, .inr ⟨rfl, k, HS.out, .inr ⟨HL.out.symm, rfl, rfl⟩⟩, (h.drewN q).put 3 (.bool true), below_set (below_drewN hgg _) (Nat.le_refl _) _ _, only_drawn _ _ _ _ _⟩
    · obtain ⟨f, rfl⟩ := Int.eq_ofNat_of_zero_le (a := a) (by unfold StandsAt at ha; omega)
      have hf : f < n := by unfold StandsAt at ha; omega
      go_enter Tryz.func11, Tryz.ntmps11
      go_wp2_with fail
      go_loopw [5] (fun s5 wr => ∃ k : Nat, s5 = .int .i64 k ∧ f ≤ k ∧ k ≤ n ∧ (∃ q, wr = w.drewN q) ∧ Hid (∀ i, f ≤ i → i < k → (xs.getD i (0, 0)).1 < t)) (fun s5 _ => n - (intOf s5).toNat)
      case atStart => exact ⟨f, rfl, Nat.le_refl _, Nat.le_of_lt hf, ⟨0, rfl⟩, Lib.hid fun i h1 h2 => absurd h2 (by omega)⟩
      case round =>
        obtain ⟨k, rfl, h1, h2, ⟨q, rfl⟩, HI⟩ := hrel
        by_cases hlt : k < n
        · obtain ⟨ad, rfl, hbl, hc0, hc1⟩ := hx.at_ hlt
          clear hc1
          obtain ⟨x, hx1⟩ : ∃ x, (xs.getD k (0, 0)).1 = x := ⟨_, rfl⟩
          rw [hx1] at hc0
          have HX := Lib.hid hx1
          clear hx1
          have hki : (k : Int) < (n : Int) := by omega
          have hkn : ¬ (n : Int) ≤ (k : Int) := by omega
          by_cases hxt : x < t
          · go_wp2
            go_roundw
            case rel => exact ⟨k + 1, by go_num, by omega, by omega, ⟨q, rfl⟩, Lib.hid fun i h3 h4 => (by
              by_cases e : i = k
              · rw [e, HX.out]; exact hxt
              · exact HI.out i h3 (by omega))⟩
            case measure => simp [intOf]; omega
          · have HS : Hid (Sought xs t f k) := Lib.hid ⟨h1, by rw [HL.out]; exact h2, HI.out, fun _ => by rw [HX.out]; omega⟩
            go_wp2
            go_ret
            exact ⟨true, k, rfl, .inr ⟨rfl, k, HS.out, .inl ⟨by rw [HL.out]; exact hlt, rfl, rfl⟩⟩, (h.drewN q).put 2 (.int .i64 (k : Int)), below_set (below_drewN hgg _) (Nat.le_refl _) _ _, only_drawn _ _ _ _ _⟩
        · obtain rfl : k = n := by omega
          have HS : Hid (Sought xs t f k) := Lib.hid ⟨h1, by rw [HL.out]; exact h2, HI.out, fun h => absurd h (by rw [HL.out]; omega)⟩
          go_wp2
          go_ret
          exact ⟨false, (f : Int), rfl, .inr ⟨rfl, k, HS.out, .inr ⟨HL.out.symm, rfl, rfl⟩⟩, (h.drewN q).put 3 (.bool true), below_set (below_drewN hgg _) (Nat.le_refl _) _ _, only_drawn _ _ _ _ _⟩
  · go_enter Tryz.func11, Tryz.ntmps11
    go_wp2
    go_ret
    exact ⟨false, a, rfl, .inl ⟨rfl, rfl, rfl⟩, h, hgg, World.grownBy.refl _ _⟩
end Go.Proofs.YtbocpgffddkfdaaGreatDoor
