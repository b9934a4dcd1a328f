/-
  The contracts of the reference's cursor.
-/
import Derived.Test.YtikcclagckcjnaaCur1
import Derived.Deep.DeepCutAuto
import Derived.Deep.RegionHeld3
namespace Go.Proofs.Ytikcclagckcjnaa
open Go.RowKit

set_option maxRecDepth 20000 in
set_option maxHeartbeats 2000000 in
theorem rcur_new (A : Option Addr) (n c : Nat) (bad : Int) (w : World) :
    Calls Try.prog 9 #[.slice A n c, .int .i64 bad] w fun e w' => e = .returned (.pointer (some ⟨w.heap.size, 0, none⟩)) ∧ BoxL w' w.heap.size [.slice A n c, .int .i64 bad, .int .i64 (-1), .bool false] ∧ Below w.heap.size w w' := by
  go_enter Try.func9, Try.ntmps9
  go_wp2
  go_ret
  exact ⟨rfl, BoxL.new_at0 [.slice A n c, .int .i64 bad, .int .i64 (-1), .bool false] 49 rfl, by repeat (first | with_reducible exact Below.refl _ _ | with_reducible assumption | with_reducible refine Below.drew ?_ | with_reducible refine below_drewN ?_ _ | with_reducible refine Below.alloc ?_ (by (first | assumption | omega | (simp; done) | (simp; omega))) _ | with_reducible refine below_set ?_ (by (first | assumption | omega | (simp; done) | (simp; omega))) _ _)⟩

/-- the reference's cursor behind a step -/
def RetRCur (w : World) (g : Nat) (A : Option Addr) (n c : Nat) (bad : Int) (R : Bool → Int → Prop) (e : Ending) (w' : World) : Prop :=
  ∃ ok a', e = .returned (.bool ok) ∧ R ok a' ∧ BoxL w' g [.slice A n c, .int .i64 bad, .int .i64 a', .bool (!ok)] ∧ Below g w w'

set_option maxRecDepth 20000 in
set_option maxHeartbeats 2000000 in
theorem rcur_err (g : Nat) (A : Option Addr) (n c : Nat) (bad a : Int) (d : Bool) (w : World) (h : BoxL w g [.slice A n c, .int .i64 bad, .int .i64 a, .bool d]) :
    Calls Try.prog 18 #[.pointer (some ⟨g, 0, none⟩)] w fun e w' => e = .returned (.int .i64 (bif d then bad else 0)) ∧ Below w.heap.size w w' := by
  obtain ⟨u0, u1, u2, u3⟩ := h.get4
  go_enter Try.func18, Try.ntmps18
  cases d
  · go_wp2
    go_ret
    exact ⟨rfl, by repeat (first | with_reducible exact Below.refl _ _ | with_reducible assumption | with_reducible refine Below.drew ?_ | with_reducible refine below_drewN ?_ _ | with_reducible refine Below.alloc ?_ (by (first | assumption | omega | (simp; done) | (simp; omega))) _ | with_reducible refine below_set ?_ (by (first | assumption | omega | (simp; done) | (simp; omega))) _ _)⟩
  · go_wp2
    go_ret
    exact ⟨rfl, by repeat (first | with_reducible exact Below.refl _ _ | with_reducible assumption | with_reducible refine Below.drew ?_ | with_reducible refine below_drewN ?_ _ | with_reducible refine Below.alloc ?_ (by (first | assumption | omega | (simp; done) | (simp; omega))) _ | with_reducible refine below_set ?_ (by (first | assumption | omega | (simp; done) | (simp; omega))) _ _)⟩

set_option maxRecDepth 20000 in
set_option maxHeartbeats 2000000 in
theorem rcur_next (g : Nat) (A : Option Addr) (n c : Nat) (bad a : Int) (d : Bool) (w : World) (h : BoxL w g [.slice A n c, .int .i64 bad, .int .i64 a, .bool d]) (ha : StandsAt n a) (hn : n ≤ 100000) :
    Calls Try.prog 13 #[.pointer (some ⟨g, 0, none⟩)] w (RetRCur w g A n c bad (NextR n a d)) := by
  have hg := h.lt
  have hgg : Below g w w := Below.refl _ _
  have hw : IntKind.i64.wrap (a + 1) = a + 1 := IntWalk.i64_in _ (by unfold StandsAt at ha; omega)
  have HA := Lib.hid ha
  clear ha
  obtain ⟨u0, u1, u2, u3⟩ := h.get4
  obtain ⟨f0, f1, f2, f3⟩ := h.free4
  go_enter Try.func13, Try.ntmps13
  cases d
  · by_cases hl : a + 1 < (n : Int)
    · have hl2 : ¬ (n : Int) ≤ a + 1 := by omega
      go_upto_region 1 with fail
      go_quiet (fail)
      go_wp2
      go_ret
      exact ⟨true, a + 1, rfl, .inl ⟨rfl, hl, rfl, rfl⟩, (h.drewN _).put 2 (.int .i64 (a + 1)), below_set (below_drewN hgg _) (Nat.le_refl _) _ _⟩
    · have hl2 : (n : Int) ≤ a + 1 := by omega
      have hl3 : a + 1 = (n : Int) := by have := HA.out; unfold StandsAt at this; omega
      have HL3 := Lib.hid hl3
      clear hl3
      go_upto_region 1 with fail
      go_quiet (fail)
      go_wp2
      go_ret
      exact ⟨false, a, rfl, .inr ⟨.inr HL3.out, rfl, rfl⟩, (h.drewN _).put 3 (.bool true), below_set (below_drewN hgg _) (Nat.le_refl _) _ _⟩
  · go_upto_region 1 with fail
    go_quiet (fail)
    go_wp2
    go_ret
    exact ⟨false, a, rfl, .inr ⟨.inl rfl, rfl, rfl⟩, (h.drewN _).put 3 (.bool true), below_set (below_drewN hgg _) (Nat.le_refl _) _ _⟩

set_option maxRecDepth 20000 in
set_option maxHeartbeats 2000000 in
theorem rcur_look (g B : Nat) (A : Option Addr) (n c : Nat) (xs : List (Int × Nat)) (bad a : Int) (d : Bool) (w : World) (h : BoxL w g [.slice A n c, .int .i64 bad, .int .i64 a, .bool d]) (ha : StandsAt n a) (hx : RdQ w B A n c xs) :
    Calls Try.prog 15 #[.pointer (some ⟨g, 0, none⟩)] w fun e w' => e = .returned (.tuple #[.int .i64 (lookQ xs a d).1, .int .u64 ((lookQ xs a d).2 : Int)]) ∧ Below w.heap.size w w' := by
  obtain ⟨u0, u1, u2, u3⟩ := h.get4
  unfold lookQ
  go_enter Try.func15, Try.ntmps15
  cases d
  · by_cases h0 : a < 0
    · rw [if_pos (.inr h0)]
      go_wp2
      refine bodyPost_ret ?_ rfl ⟨rfl, by repeat (first | with_reducible exact Below.refl _ _ | with_reducible assumption | with_reducible refine Below.drew ?_ | with_reducible refine below_drewN ?_ _ | with_reducible refine Below.alloc ?_ (by (first | assumption | omega | (simp; done) | (simp; omega))) _ | with_reducible refine below_set ?_ (by (first | assumption | omega | (simp; done) | (simp; omega))) _ _)⟩
      simp [results, Try.results15, go_sem]
    · rw [if_neg (by simp [h0])]
      obtain ⟨m, rfl⟩ := Int.eq_ofNat_of_zero_le (Int.not_lt.1 h0)
      have hm : m < n := by unfold StandsAt at ha; omega
      have hmi : (m : Int) < (n : Int) := by omega
      obtain ⟨ad, rfl, hbl, hc0, hc1⟩ := hx.at_ hm
      rw [Int.toNat_natCast]
      generalize xs.getD m (0, 0) = x at *
      obtain ⟨t, v⟩ := x
      simp only at hc0 hc1 ⊢
      go_upto_region 3 with fail
      go_quiet (fail)
      go_wp2
      refine bodyPost_ret ?_ rfl ⟨rfl, by repeat (first | with_reducible exact Below.refl _ _ | with_reducible assumption | with_reducible refine Below.drew ?_ | with_reducible refine below_drewN ?_ _ | with_reducible refine Below.alloc ?_ (by (first | assumption | omega | (simp; done) | (simp; omega))) _ | with_reducible refine below_set ?_ (by (first | assumption | omega | (simp; done) | (simp; omega))) _ _)⟩
      simp [results, Try.results15, go_sem]
  · rw [if_pos (.inl rfl)]
    go_wp2
    refine bodyPost_ret ?_ rfl ⟨rfl, by repeat (first | with_reducible exact Below.refl _ _ | with_reducible assumption | with_reducible refine Below.drew ?_ | with_reducible refine below_drewN ?_ _ | with_reducible refine Below.alloc ?_ (by (first | assumption | omega | (simp; done) | (simp; omega))) _ | with_reducible refine below_set ?_ (by (first | assumption | omega | (simp; done) | (simp; omega))) _ _)⟩
    simp [results, Try.results15, go_sem]

set_option maxRecDepth 20000 in
set_option maxHeartbeats 2000000 in
theorem rcur_seek (g B : Nat) (A : Option Addr) (n c : Nat) (xs : List (Int × Nat)) (bad a t : Int) (d : Bool) (w : World) (h : BoxL w g [.slice A n c, .int .i64 bad, .int .i64 a, .bool d]) (ha : StandsAt n a) (hn : n ≤ 100000) (hx : RdQ w B A n c xs) :
    Calls Try.prog 11 #[.pointer (some ⟨g, 0, none⟩), .int .i64 t] w (RetRCur w g A n c bad (SeekR xs t a d)) := by
  have hg := h.lt
  have hgg : Below g w w := Below.refl _ _
  have HL := Lib.hid hx.len
  obtain ⟨u0, u1, u2, u3⟩ := h.get4
  obtain ⟨f0, f1, f2, f3⟩ := h.free4
  cases d
  · by_cases ha1 : a = -1
    · subst ha1
      go_enter Try.func11, Try.ntmps11
      go_wp2_with fail
      go_loopw [5] (fun s5 wr => ∃ k : Nat, s5 = .int .i64 k ∧ 0 ≤ k ∧ k ≤ n ∧ (∃ q, wr = w.drewN q) ∧ Hid (∀ i, 0 ≤ i → i < k → (xs.getD i (0, 0)).1 < t)) (fun s5 _ => n - (intOf s5).toNat)
      case atStart => exact ⟨0, rfl, Nat.le_refl _, Nat.zero_le _, ⟨0, rfl⟩, Lib.hid fun i h1 h2 => absurd h2 (by omega)⟩
      case round =>
        obtain ⟨k, rfl, h1, h2, ⟨q, rfl⟩, HI⟩ := hrel
        by_cases hlt : k < n
        · obtain ⟨ad, rfl, hbl, hc0, hc1⟩ := hx.at_ hlt
          clear hc1
          obtain ⟨x, hx1⟩ : ∃ x, (xs.getD k (0, 0)).1 = x := ⟨_, rfl⟩
          rw [hx1] at hc0
          have HX := Lib.hid hx1
          clear hx1
          have hki : (k : Int) < (n : Int) := by omega
          have hkn : ¬ (n : Int) ≤ (k : Int) := by omega
          by_cases hxt : x < t
          · go_wp2
            go_roundw
            case rel => exact ⟨k + 1, by go_num, by omega, by omega, ⟨q, rfl⟩, Lib.hid fun i h3 h4 => (by
              by_cases e : i = k
              · rw [e, HX.out]; exact hxt
              · exact HI.out i h3 (by omega))⟩
            case measure => simp [intOf]; omega
          · have HS : Hid (Sought xs t 0 k) := Lib.hid ⟨h1, by rw [HL.out]; exact h2, HI.out, fun _ => by rw [HX.out]; omega⟩
            go_wp2
            go_ret
            exact ⟨true, k, rfl, .inr ⟨rfl, k, HS.out, .inl ⟨by rw [HL.out]; exact hlt, rfl, rfl⟩⟩, (h.drewN q).put 2 (.int .i64 (k : Int)), below_set (below_drewN hgg _) (Nat.le_refl _) _ _⟩
        · obtain rfl : k = n := by omega
          have HS : Hid (Sought xs t 0 k) := Lib.hid ⟨h1, by rw [HL.out]; exact h2, HI.out, fun h => absurd h (by rw [HL.out]; omega)⟩
          go_wp2
          go_ret
          exact ⟨false, -1, rfl, .inr ⟨rfl, k, HS.out, .inr ⟨HL.out.symm, rfl, rfl⟩⟩, (h.drewN q).put 3 (.bool true), below_set (below_drewN hgg _) (Nat.le_refl _) _ _⟩
    · obtain ⟨f, rfl⟩ := Int.eq_ofNat_of_zero_le (a := a) (by unfold StandsAt at ha; omega)
      have hf : f < n := by unfold StandsAt at ha; omega
      go_enter Try.func11, Try.ntmps11
      go_wp2_with fail
      go_loopw [5] (fun s5 wr => ∃ k : Nat, s5 = .int .i64 k ∧ f ≤ k ∧ k ≤ n ∧ (∃ q, wr = w.drewN q) ∧ Hid (∀ i, f ≤ i → i < k → (xs.getD i (0, 0)).1 < t)) (fun s5 _ => n - (intOf s5).toNat)
      case atStart => exact ⟨f, rfl, Nat.le_refl _, Nat.le_of_lt hf, ⟨0, rfl⟩, Lib.hid fun i h1 h2 => absurd h2 (by omega)⟩
      case round =>
        obtain ⟨k, rfl, h1, h2, ⟨q, rfl⟩, HI⟩ := hrel
        by_cases hlt : k < n
        · obtain ⟨ad, rfl, hbl, hc0, hc1⟩ := hx.at_ hlt
          clear hc1
          obtain ⟨x, hx1⟩ : ∃ x, (xs.getD k (0, 0)).1 = x := ⟨_, rfl⟩
          rw [hx1] at hc0
          have HX := Lib.hid hx1
          clear hx1
          have hki : (k : Int) < (n : Int) := by omega
          have hkn : ¬ (n : Int) ≤ (k : Int) := by omega
          by_cases hxt : x < t
          · go_wp2
            go_roundw
            case rel => exact ⟨k + 1, by go_num, by omega, by omega, ⟨q, rfl⟩, Lib.hid fun i h3 h4 => (by
              by_cases e : i = k
              · rw [e, HX.out]; exact hxt
              · exact HI.out i h3 (by omega))⟩
            case measure => simp [intOf]; omega
          · have HS : Hid (Sought xs t f k) := Lib.hid ⟨h1, by rw [HL.out]; exact h2, HI.out, fun _ => by rw [HX.out]; omega⟩
            go_wp2
            go_ret
            exact ⟨true, k, rfl, .inr ⟨rfl, k, HS.out, .inl ⟨by rw [HL.out]; exact hlt, rfl, rfl⟩⟩, (h.drewN q).put 2 (.int .i64 (k : Int)), below_set (below_drewN hgg _) (Nat.le_refl _) _ _⟩
        · obtain rfl : k = n := by omega
          have HS : Hid (Sought xs t f k) := Lib.hid ⟨h1, by rw [HL.out]; exact h2, HI.out, fun h => absurd h (by rw [HL.out]; omega)⟩
          go_wp2
          go_ret
          exact ⟨false, (f : Int), rfl, .inr ⟨rfl, k, HS.out, .inr ⟨HL.out.symm, rfl, rfl⟩⟩, (h.drewN q).put 3 (.bool true), below_set (below_drewN hgg _) (Nat.le_refl _) _ _⟩
  · go_enter Try.func11, Try.ntmps11
    go_wp2
    go_ret
    exact ⟨false, a, rfl, .inl ⟨rfl, rfl, rfl⟩, h, hgg⟩

end Go.Proofs.Ytikcclagckcjnaa
