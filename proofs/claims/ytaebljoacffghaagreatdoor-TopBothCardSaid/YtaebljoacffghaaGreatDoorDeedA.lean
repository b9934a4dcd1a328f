/-
  Texts of this proof, one behind the other: Deeds0, CurDeeds.
-/
import Derived.Test.YtaebljoacffghaaGreatDoorWords
import Derived.Deep.SlicePairs

/-
  Words for memory: a slice value that reads as deeds (pairs of signed numbers of 64 bits).
-/
namespace Go.Proofs.YtaebljoacffghaaGreatDoor
open Go.ChangeShapes Go.WideShapes Go.ChangeAt Go.RowKit

/-- the slice value '.slice A n c' reads as n pairs of numbers, and lies below block B -/
def RdP (w : World) (B : Nat) (A : Option Addr) (n : Nat) : Prop :=
  0 < n → ∃ ad, A = some ad ∧ ad.block < B ∧ ∀ j, j < n → ∃ x y : Int, w.cell? (ad.add (j * 2)) = some (.int .i64 x) ∧ w.cell? (ad.add (j * 2 + 1)) = some (.int .i64 y) ∧
    -9223372036854775808 ≤ x ∧ x ≤ 9223372036854775807 ∧ -9223372036854775808 ≤ y ∧ y ≤ 9223372036854775807

section
variable {w w' : World} {B n : Nat} {A : Option Addr}
theorem add_one' (b : Addr) : b.add 1 = ⟨b.block, b.off + 1, none⟩ := rfl
theorem RdP.at_ {k : Nat} (h : RdP w B A n) (hk : k < n) : ∃ ad x y, A = some ad ∧ w.cell? (ad.add (k * 2)) = some (.int .i64 x) ∧ w.cell? ⟨(ad.add (k * 2)).block, (ad.add (k * 2)).off + 1, none⟩ = some (.int .i64 y) ∧
    -9223372036854775808 ≤ x ∧ x ≤ 9223372036854775807 ∧ -9223372036854775808 ≤ y ∧ y ≤ 9223372036854775807 := by
  obtain ⟨ad, e, _, hc⟩ := h (by omega)
  obtain ⟨x, y, h1, h2, r⟩ := hc k hk
  rw [← add_add', add_one'] at h2
  exact ⟨ad, x, y, e, h1, h2, r⟩
theorem RdP.below (h : RdP w B A n) (hb : Below B w w') : RdP w' B A n := fun hn => by
  obtain ⟨ad, e, hlt, hc⟩ := h hn
  refine ⟨ad, e, hlt, fun j hj => ?_⟩
  obtain ⟨x, y, h1, h2, r⟩ := hc j hj
  exact ⟨x, y, (hb.cell (by rw [add_block]; exact hlt)).trans h1, (hb.cell (by rw [add_block]; exact hlt)).trans h2, r⟩
end

end Go.Proofs.YtaebljoacffghaaGreatDoor

/-
  An argument of a law opened as deeds of layer 17.
-/
namespace Go.Proofs.YtaebljoacffghaaGreatDoor
open Go.ChangeShapes Go.WideShapes Go.ChangeAt Go.RowKit

section
variable {H : Type} {enc : TypeId × Value → H} {W W' : World}
theorem open_num17 {v : Value} {n base : Nat} {spare : Nat → Bool} {held : Bool} {y : DataW H × List MemPlace} (h : DataW.trod enc Tryz.prog W base spare held n 3 [v] = some y) : ∃ x : Int, v = .int .i64 x ∧ -9223372036854775808 ≤ x ∧ x ≤ 9223372036854775807 := by
  obtain ⟨x, hcs, _, hw⟩ := DataW.trod_int Tryz.underlying3 h
  simp at hcs
  exact ⟨x, hcs, wf_i64 hw⟩
set_option maxRecDepth 20000 in
/-- an argument of type []Deed -/
theorem open_deeds17 {base : Nat} {v : Value} {d : DataW H} {p : List MemPlace} (hv : Value.okWide Tryz.prog W .any base 47 v) (h : DataW.Trod enc Tryz.prog W 0 (fun _ => true) true 47 v d p) :
    ∃ A n c, v = .slice A n c ∧ RdP W W.heap.size A n ∧ n ≤ 9223372036854775807 := by
  obtain ⟨A, n, c, rfl⟩ := okWide_slice Tryz.underlying47 hv
  obtain ⟨fuel, hf⟩ := h
  rcases Deep.open_slice_pairs Tryz.underlying47 Tryz.underlying54 (by kernel_rfl) rfl rfl (by kernel_rfl) (by kernel_rfl) hf with ⟨hcs, _⟩ | ⟨a, len, cap, m, n', V0, V1, D0, D1, P0, P1, hcs, _, hl, hm, hmm, _, hcell⟩
  · simp [Value.cells] at hcs
    obtain ⟨rfl, rfl, rfl⟩ := hcs
    exact ⟨none, 0, 0, rfl, fun h => absurd h (by omega), by omega⟩
  · simp [Value.cells] at hcs
    obtain ⟨rfl, rfl, rfl⟩ := hcs
    simp only [if_true] at hmm
    refine ⟨some a, n, c, rfl, fun hn => ⟨a, rfl, ?_, fun j hj => ?_⟩, by unfold maxLen at hm; omega⟩
    · have := World.block_lt_of_cell? W _ (hcell 0 (by omega)).1
      rwa [add_block] at this
    · obtain ⟨c1, c2, t1, t2⟩ := hcell j (by omega)
      obtain ⟨x, hx, hx'⟩ := open_num17 t1
      obtain ⟨y, hy, hy'⟩ := open_i64v t2
      rw [hx] at c1
      rw [hy] at c2
      exact ⟨x, y, c1, c2, hx'.1, hx'.2, hy'.1, hy'.2⟩
end

end Go.Proofs.YtaebljoacffghaaGreatDoor
