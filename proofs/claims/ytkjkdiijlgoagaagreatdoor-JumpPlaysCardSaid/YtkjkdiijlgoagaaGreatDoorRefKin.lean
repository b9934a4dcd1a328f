/-
  The contract of the reference's After.
-/
import Derived.Test.YtkjkdiijlgoagaaGreatDoorKinsG
import Derived.Test.YtkjkdiijlgoagaaGreatDoorWords
import Derived.Test.YtkjkdiijlgoagaaGreatDoorRefs
import Derived.Deep.RegionHeld3
namespace Go.Proofs.YtkjkdiijlgoagaaGreatDoor
open Go.RowKit

theorem refD_wrap (a b : Int) : wrap64 (IntKind.u64.wrap (IntKind.u64.wrap a - IntKind.u64.wrap b)) = w64 (a - b) := by
  rw [w64_wrap, u64_mod, u64_mod, u64_mod]
  unfold w64
  omega

set_option maxRecDepth 20000 in
set_option maxHeartbeats 1000000 in
theorem refafter_any (k : Nat) (s : KS) (t : Int) (v : Nat) (y : XS) (w : World) (hk : k = 1 ∨ k = 2) (hn : s.n ≤ 1000000) :
    Calls Tryz.prog 84 #[.int .i64 (k : Int), (.agg #[.int .i64 (s.n : Int), .int .i64 s.t, .int .i64 s.d, .int .u64 (s.v : Int), .int .u64 (s.e : Int), .int .u64 (s.x.prev : Int), .int .i64 (s.x.lead : Int), .int .i64 (s.x.len : Int)]), (.agg #[.int .i64 t, .int .u64 (v : Int)]), (.agg #[.int .u64 (y.prev : Int), .int .i64 (y.lead : Int), .int .i64 (y.len : Int)])] w fun e w' => e = .returned (.agg #[.int .i64 ((afterK k s t v y).n : Int), .int .i64 (afterK k s t v y).t, .int .i64 (afterK k s t v y).d, .int .u64 ((afterK k s t v y).v : Int), .int .u64 ((afterK k s t v y).e : Int), .int .u64 ((afterK k s t v y).x.prev : Int), .int .i64 ((afterK k s t v y).x.lead : Int), .int .i64 ((afterK k s t v y).x.len : Int)]) ∧ Below w.heap.size w w' := by
  have hw := refD_wrap t s.t
  have hu : IntKind.u64.wrap ((v : Int) - (s.v : Int)) = ((un64 ((v : Int) - (s.v : Int)) : Nat) : Int) := by rw [u64_mod, un64_cast]
  have hsn : IntKind.i64.wrap ((s.n : Int) + 1) = (s.n : Int) + 1 := by rw [IntKind.wrap_i64]; omega
  by_cases h0 : s.n = 0
  · have h1 : ((s.n : Int) == 0) = true := by simp [h0]
    have hs1 : (s.n : Int) + 1 = 1 := by omega
    rcases hk with rfl | rfl
    · have HA : Hid (afterK 1 s t v y = ⟨s.n + 1, t, 0, v, 0, ⟨v, 0, 0⟩⟩) := Lib.hid (by unfold afterK; rw [if_pos h0, h0]; rfl)
      rw [HA.out]
      clear h0 hs1
      go_enter Tryz.func84, Tryz.ntmps84
      go_wp2
      go_returns
      exact ⟨rfl, by repeat (first | with_reducible exact Below.refl _ _ | assumption | with_reducible refine Below.drew ?_ | with_reducible refine Below.alloc ?_ (by (first | assumption | omega | (simp; done) | (simp; omega))) _)⟩
    · have HA : Hid (afterK 2 s t v y = ⟨s.n + 1, t, 0, v, 0, zeroX⟩) := Lib.hid (by unfold afterK; rw [if_pos h0, h0]; rfl)
      rw [HA.out]
      clear h0 hs1
      go_enter Tryz.func84, Tryz.ntmps84
      go_wp2
      go_returns
      exact ⟨rfl, by repeat (first | with_reducible exact Below.refl _ _ | assumption | with_reducible refine Below.drew ?_ | with_reducible refine Below.alloc ?_ (by (first | assumption | omega | (simp; done) | (simp; omega))) _)⟩
  · have h1 : ((s.n : Int) == 0) = false := by simp [h0]
    rcases hk with rfl | rfl
    · have HA : Hid (afterK 1 s t v y = ⟨s.n + 1, t, w64 (t - s.t), v, 0, y⟩) := Lib.hid (by unfold afterK; rw [if_neg h0]; rfl)
      rw [HA.out]
      clear h0
      go_enter Tryz.func84, Tryz.ntmps84
      go_wp2
      go_returns
      exact ⟨rfl, by repeat (first | with_reducible exact Below.refl _ _ | assumption | with_reducible refine Below.drew ?_ | with_reducible refine Below.alloc ?_ (by (first | assumption | omega | (simp; done) | (simp; omega))) _)⟩
    · have HA : Hid (afterK 2 s t v y = ⟨s.n + 1, t, w64 (t - s.t), v, un64 ((v : Int) - (s.v : Int)), zeroX⟩) := Lib.hid (by unfold afterK; rw [if_neg h0]; rfl)
      rw [HA.out]
      clear h0
      go_enter Tryz.func84, Tryz.ntmps84
      go_wp2
      go_returns
      exact ⟨rfl, by repeat (first | with_reducible exact Below.refl _ _ | assumption | with_reducible refine Below.drew ?_ | with_reducible refine Below.alloc ?_ (by (first | assumption | omega | (simp; done) | (simp; omega))) _)⟩

/-- what PutSample comes to -/
def RetRP (w : World) (p : List Bool) (s : KS) (e : Ending) (w' : World) : Prop :=
  ∃ A c, e = .returned (.tuple #[.slice A p.length c, (.agg #[.int .i64 (s.n : Int), .int .i64 s.t, .int .i64 s.d, .int .u64 (s.v : Int), .int .u64 (s.e : Int), .int .u64 (s.x.prev : Int), .int .i64 (s.x.lead : Int), .int .i64 (s.x.len : Int)]), .int .i64 0]) ∧ Own w w' (.slice A p.length c) (enc p)
theorem own_form {w0 w : World} {v : Value} {p : List Bool} (h : Own w0 w v (enc p)) : ∃ A c, v = .slice A p.length c := by
  obtain ⟨A, c, e, _⟩ := h.form
  rw [enc_length] at e
  exact ⟨A, c, e⟩

theorem refT_wrap (s : KS) (t : Int) : wrap64 (IntKind.u64.wrap (IntKind.u64.wrap (IntKind.u64.wrap t - IntKind.u64.wrap s.t) - IntKind.u64.wrap s.d)) = stepT s t := by
  unfold stepT
  rw [w64_wrap, u64_mod, u64_mod, u64_mod, u64_mod, u64_mod]
  unfold w64
  omega
theorem wrap_w64 (x : Int) : IntKind.i64.wrap x = w64 x := by rw [IntKind.wrap_i64]; unfold w64; rfl
theorem stepE_wrap' (s : KS) (v : Nat) : IntKind.i64.wrap (IntKind.u64.wrap (IntKind.u64.wrap ((v : Int) - (s.v : Int)) - (s.e : Int))) = stepE s v := by
  rw [wrap_w64, ← w64_wrap]
  exact stepE_wrap s v

end Go.Proofs.YtkjkdiijlgoagaaGreatDoor
