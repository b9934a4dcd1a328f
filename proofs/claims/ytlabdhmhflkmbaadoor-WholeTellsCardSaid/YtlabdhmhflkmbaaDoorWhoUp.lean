/-
  The example at the head of layer 16's laws.
-/
import Derived.Test.YtlabdhmhflkmbaaDoorWhoP
import Derived.Test.YtlabdhmhflkmbaaDoorWhoA
namespace Go.Proofs.YtlabdhmhflkmbaaDoor
open Go.RowKit

/-- what Decode comes to is told by a number up to 9 -/
theorem wholeF_le {bs : List Nat} : (wholeF bs).2 ≤ 9 := by
  unfold wholeF
  cases h : getI bs with
  | error j => exact (getI_err h).2
  | ok p => exact blkF_le _ _ _
theorem RetCh.res {w w' : World} {r : Except Nat (List (Int × Nat))} {e : Ending} (h : RetCh w r e w') : ∃ A c, e = .returned (.tuple #[.slice A (chRes r).1.length c, errV (chRes r).2]) ∧ RdQ w' w'.heap.size A (chRes r).1.length c (chRes r).1 ∧ Below w.heap.size w w' := by
  cases r with
  | ok xs =>
    obtain ⟨A, c, he, ho⟩ := h
    exact ⟨A, c, he, ho.rd, ho.bel⟩
  | error j =>
    obtain ⟨he, hb⟩ := h
    exact ⟨none, 0, he, (OwnQ.nil_ w w' hb).rd, hb⟩

set_option maxRecDepth 20000 in
set_option maxHeartbeats 2000000 in
theorem up16_any (w : World) (hR : RoomW w) (hT : TzW w) : Calls Tryd.prog 5 #[] w fun e w' => e = .returned (.bool true) ∧ Below w.heap.size w w' := by
  have hD := wdec_any none 0 0 0 [] w Rd.nil_ (Nat.zero_le _) (by simp) (by omega) hR hT
  rw [wholeF_void] at hD
  have hC := fun X (hX : Below w.heap.size w X) => chunk_any 1 0 0 0 0 none 0 0 0 [] X Rd.nil_ (Nat.zero_le _) (by simp) (by omega) (by omega) (hR.bel hX) (hT.bel hX)
  rw [chF_void] at hC
  have hcd := fun k w' (h : k ≤ 9) => code_any k w' h
  go_enter Tryd.func5, Tryd.ntmps5
  go_wp2_with fail
  refine hD.mono ?_
  rintro e w1 ⟨A1, c1, rfl, ho1⟩
  have hb1 := ho1.bel
  clear hD ho1
  go_wp2_with fail
  refine (hC _ hb1).mono ?_
  rintro e w2 ⟨rfl, hb2⟩
  replace hb1 := hb1.trans (hb2.mono hb1.size)
  clear hC hb2
  simp only
  go_wp2_with (go_at_call 12; refine (hcd _ _ (by omega)).mono ?_; rintro e w3 ⟨rfl, rfl⟩)
  go_ret
  exact ⟨rfl, hb1⟩

end Go.Proofs.YtlabdhmhflkmbaaDoor
