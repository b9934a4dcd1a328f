/-
  An argument of a law opened as deeds of layer 17.
-/
import Derived.Test.YtikcclagckcjnaaDeeds0
import Derived.Test.YtikcclagckcjnaaSamples
namespace Go.Proofs.Ytikcclagckcjnaa
open Go.ChangeShapes Go.WideShapes Go.ChangeAt Go.RowKit

section
variable {H : Type} {enc : TypeId × Value → H} {W W' : World}
theorem open_num17 {v : Value} {n base : Nat} {spare : Nat → Bool} {held : Bool} {y : DataW H × List MemPlace} (h : DataW.trod enc Try.prog W base spare held n 3 [v] = some y) : ∃ x : Int, v = .int .i64 x ∧ -9223372036854775808 ≤ x ∧ x ≤ 9223372036854775807 := by
  obtain ⟨x, hcs, _, hw⟩ := DataW.trod_int Try.underlying3 h
  simp at hcs
  exact ⟨x, hcs, wf_i64 hw⟩
set_option maxRecDepth 20000 in
/-- an argument of type []Deed -/
theorem open_deeds17 {base : Nat} {v : Value} {d : DataW H} {p : List MemPlace} (hv : Value.okWide Try.prog W .any base 23 v) (h : DataW.Trod enc Try.prog W 0 (fun _ => true) true 23 v d p) :
    ∃ A n c, v = .slice A n c ∧ RdP W W.heap.size A n ∧ n ≤ 9223372036854775807 := by
  obtain ⟨A, n, c, rfl⟩ := okWide_slice Try.underlying23 hv
  obtain ⟨fuel, hf⟩ := h
  rcases Deep.open_slice_pairs Try.underlying23 Try.underlying36 (by kernel_rfl) rfl rfl (by kernel_rfl) (by kernel_rfl) hf with ⟨hcs, _⟩ | ⟨a, len, cap, m, n', V0, V1, D0, D1, P0, P1, hcs, _, hl, hm, hmm, _, hcell⟩
  · simp [Value.cells] at hcs
    obtain ⟨rfl, rfl, rfl⟩ := hcs
    exact ⟨none, 0, 0, rfl, fun h => absurd h (by omega), by omega⟩
  · simp [Value.cells] at hcs
    obtain ⟨rfl, rfl, rfl⟩ := hcs
    simp only [if_true] at hmm
    refine ⟨some a, n, c, rfl, fun hn => ⟨a, rfl, ?_, fun j hj => ?_⟩, by unfold maxLen at hm; omega⟩
    · have := World.block_lt_of_cell? W _ (hcell 0 (by omega)).1
      rwa [add_block] at this
    · obtain ⟨c1, c2, t1, t2⟩ := hcell j (by omega)
      obtain ⟨x, hx, hx'⟩ := open_num17 t1
      obtain ⟨y, hy, hy'⟩ := open_i64v t2
      rw [hx] at c1
      rw [hy] at c2
      exact ⟨x, y, c1, c2, hx'.1, hx'.2, hy'.1, hy'.2⟩
end

end Go.Proofs.Ytikcclagckcjnaa
