/-
  The example at the head of layer 15's laws.
-/
import Derived.Test.YtkndoalnlldolaaDoorPackPut
namespace Go.Proofs.YtkndoalnlldolaaDoor
open Go.RowKit

theorem rd_no (w : World) (B : Nat) : RdQ w B none 0 0 [] := RdQ.empty rfl (fun _ => rfl)
theorem up15_ok : PackE 2 5 [] 0 := .inr ⟨by omega, .inr ⟨2, rfl, .inr rfl, .inr ⟨fun i h => absurd h (by simp), rfl⟩⟩⟩
theorem up15_len : (blockE 2 5 [] 0).length = 10 := by
  have h0 : manyQ 5 [] = 0 := rfl
  unfold blockE
  rw [if_pos rfl]
  show (blockB 2 5 []).length = 10
  unfold blockB
  rw [h0]
  simp [entsTo, bodyTo, idxB, headB, entsB, uvB_last, bigB_length]

set_option maxRecDepth 20000 in
set_option maxHeartbeats 2000000 in
theorem up15_any (w : World) (hR : RoomW w) (hT : TzW w) : Calls Tryd.prog 5 #[] w fun e w' => e = .returned (.bool true) ∧ Below w.heap.size w w' := by
  have hP := pack_any 2 5 none 0 0 [] w (rd_no _ _) (by omega) hR hT
  have hP0 := fun X (hX : Below w.heap.size w X) => pack_any 2 0 none 0 0 [] X (rd_no _ _) (by omega) (hR.bel hX) (hT.bel hX)
  go_enter Tryd.func5, Tryd.ntmps5
  go_wp2_with fail
  refine hP.mono ?_
  rintro e w1 ⟨er, A1, c1, her, rfl, ho1⟩
  obtain rfl := her.same up15_ok
  rw [up15_len]
  rw [show errV 0 = .nilIface from rfl]
  have hb1 := ho1.bel
  clear hP her ho1
  go_wp2_with fail
  refine (hP0 _ hb1).mono ?_
  rintro e w2 ⟨er, A2, c2, her, rfl, ho2⟩
  obtain rfl := her.same (.inl ⟨by omega, rfl⟩ : PackE 2 0 [] 1)
  replace hb1 := hb1.trans (ho2.bel.mono hb1.size)
  clear hP0 her ho2
  have he1 : errV 1 = .iface 56 (.int .i64 1) := rfl
  rw [he1]
  clear he1
  generalize (blockE 2 0 [] 1).length = L2
  go_wp2_with (go_at_call 8; refine (code_some 1 _ (by omega) (by omega)).mono ?_; rintro e w3 ⟨rfl, rfl⟩)
  go_ret
  exact ⟨rfl, hb1⟩

end Go.Proofs.YtkndoalnlldolaaDoor
