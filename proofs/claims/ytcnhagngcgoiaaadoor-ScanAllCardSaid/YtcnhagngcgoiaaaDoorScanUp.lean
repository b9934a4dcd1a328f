/-
  The example at the head of layer 18's laws.
-/
import Derived.Test.YtcnhagngcgoiaaaDoorScan
namespace Go.Proofs.YtcnhagngcgoiaaaDoor
open Go.RowKit

set_option maxRecDepth 20000 in
set_option maxHeartbeats 2000000 in
theorem up18_any (w : World) (hR : RoomW w) (hT : TzW w) : Calls Tryd.prog 5 #[] w (RetTrue w) := by
  have hN := sc_new none 0 0 0 [] w Rd.nil_ (Nat.zero_le _) (by simp) (by omega) hR hT
  rw [wholeF_void] at hN
  have he : IsErr (errV 5) := isErr_v 5
  have hst := store_err he
  replace hN : Calls Tryd.prog 6 #[.slice none 0 0] w fun e w' => ∃ g A c, e = .returned (.pointer (some ⟨g, 0, none⟩)) ∧ BoxL w' g [.slice A 0 c, .iface 69 (.int .i64 5), .int .i64 (-1), .bool false] ∧ w.heap.size ≤ g ∧ Below w.heap.size w w' := hN.mono (by
    rintro e w' ⟨g, A, c, rfl, hg, hx, _, hb⟩
    exact ⟨g, A, c, rfl, hx, hg, hb⟩)
  clear hst he
  go_enter Tryd.func5, Tryd.ntmps5
  go_wp2_with fail
  refine hN.mono ?_
  rintro e w1 ⟨g, A, c, rfl, x1, hg, hb1⟩
  have hS := sc_next g A 0 c _ (-1) false w1 x1 (.inr ⟨5, rfl⟩) ⟨by omega, by omega⟩ (by omega)
  clear hN
  go_wp2_with fail
  refine hS.mono ?_
  rintro e w2 ⟨ok, a', W, rfl, hr, hb2, hw2⟩
  obtain ⟨rfl, rfl⟩ := hr.one (.inr ⟨.inr (by simp), rfl, rfl⟩)
  have x2 : BoxL w2 g [.slice A 0 c, .iface 69 (.int .i64 5), .int .i64 (-1), .bool true] := by rw [hw2]; exact x1.step hb2
  have hb3 : Below w.heap.size w w2 := by rw [hw2]; exact below_step hb1 hb2 hg
  clear hS hr hw2 hb2 hb1 x1
  have hE := sc_err g A 0 c _ (-1) true w2 x2 (.inr ⟨5, rfl⟩)
  simp only [cond_true] at hE
  have hC := fun X => code_some 5 X (by omega) (by omega)
  go_wp2_with fail
  refine hE.mono ?_
  rintro e w3 ⟨rfl, hb4⟩
  clear hE
  go_wp2_with fail
  refine (hC _).mono ?_
  rintro e w4 ⟨rfl, rfl⟩
  clear hC
  go_wp2
  go_ret
  exact ⟨rfl, hb3.trans (hb4.mono hb3.size)⟩

end Go.Proofs.YtcnhagngcgoiaaaDoor
