/-
  The contract of layer 19's Checked.
-/
import Derived.Test.YtaebljoacffghaaGreatDoorJmpA
namespace Go.Proofs.YtaebljoacffghaaGreatDoor
open Go.RowKit

set_option maxRecDepth 20000 in
set_option maxHeartbeats 2000000 in
theorem jck_any (P : Nat → Prop) (g : Nat) (s : JS) (w : World) (h : JIn P w g s) :
    Calls Tryz.prog 31 #[.pointer (some ⟨g, 0, none⟩)] w fun e w' => e = .returned (.int .i64 (s.ck : Int)) ∧ Below w.heap.size w w' := by
  obtain ⟨A1, A2, A3, c1, c2, c3, h⟩ := h
  have hbx := h.box
  unfold jcells at hbx
  obtain ⟨u0, u1, u2, u3, u4, u5, u6, u7⟩ := hbx.get8
  clear h hbx
  go_enter Tryz.func31, Tryz.ntmps31
  go_wp2
  go_ret
  exact ⟨rfl, by repeat (first | with_reducible exact Below.refl _ _ | with_reducible assumption | with_reducible refine Below.drew ?_ | with_reducible refine below_drewN ?_ _ | with_reducible refine Below.alloc ?_ (by (first | assumption | omega | (simp; done) | (simp; omega))) _ | with_reducible refine below_set ?_ (by (first | assumption | omega | (simp; done) | (simp; omega))) _ _)⟩

end Go.Proofs.YtaebljoacffghaaGreatDoor
