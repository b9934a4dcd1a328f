/-
  Words for memory: a slice value that reads as deeds (pairs of signed numbers of 64 bits).
-/
import Derived.Test.YtikcclagckcjnaaLaw0
import Derived.Test.YtikcclagckcjnaaMem0
import Derived.Deep.SlicePairs
namespace Go.Proofs.Ytikcclagckcjnaa
open Go.ChangeShapes Go.WideShapes Go.ChangeAt Go.RowKit

/-- the slice value '.slice A n c' reads as n pairs of numbers, and lies below block B -/
def RdP (w : World) (B : Nat) (A : Option Addr) (n : Nat) : Prop :=
  0 < n → ∃ ad, A = some ad ∧ ad.block < B ∧ ∀ j, j < n → ∃ x y : Int, w.cell? (ad.add (j * 2)) = some (.int .i64 x) ∧ w.cell? (ad.add (j * 2 + 1)) = some (.int .i64 y) ∧
    -9223372036854775808 ≤ x ∧ x ≤ 9223372036854775807 ∧ -9223372036854775808 ≤ y ∧ y ≤ 9223372036854775807

section
variable {w w' : World} {B n : Nat} {A : Option Addr}
theorem add_one' (b : Addr) : b.add 1 = ⟨b.block, b.off + 1, none⟩ := rfl
theorem RdP.at_ {k : Nat} (h : RdP w B A n) (hk : k < n) : ∃ ad x y, A = some ad ∧ w.cell? (ad.add (k * 2)) = some (.int .i64 x) ∧ w.cell? ⟨(ad.add (k * 2)).block, (ad.add (k * 2)).off + 1, none⟩ = some (.int .i64 y) ∧
    -9223372036854775808 ≤ x ∧ x ≤ 9223372036854775807 ∧ -9223372036854775808 ≤ y ∧ y ≤ 9223372036854775807 := by
  obtain ⟨ad, e, _, hc⟩ := h (by omega)
  obtain ⟨x, y, h1, h2, r⟩ := hc k hk
  rw [← add_add', add_one'] at h2
  exact ⟨ad, x, y, e, h1, h2, r⟩
theorem RdP.below (h : RdP w B A n) (hb : Below B w w') : RdP w' B A n := fun hn => by
  obtain ⟨ad, e, hlt, hc⟩ := h hn
  refine ⟨ad, e, hlt, fun j hj => ?_⟩
  obtain ⟨x, y, h1, h2, r⟩ := hc j hj
  exact ⟨x, y, (hb.cell (by rw [add_block]; exact hlt)).trans h1, (hb.cell (by rw [add_block]; exact hlt)).trans h2, r⟩
end

end Go.Proofs.Ytikcclagckcjnaa
