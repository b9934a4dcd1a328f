/-
  Plain facts (no program): what bits begin with, for any kind.
-/
import Derived.Test.YtkndoalnlldolaaDoorPlain
namespace Go.Proofs.YtkndoalnlldolaaDoor

theorem known_is {z : Int} (h : ¬ (z ≠ 1 ∧ z ≠ 2)) : ∃ k : Nat, z = (k : Int) ∧ (k = 1 ∨ k = 2) := by
  refine ⟨z.toNat, ?_, ?_⟩ <;> omega
/-- what bits begin with, for any kind -/
def KG (z : Int) (s : KS) (p : List Bool) (r : KA) : Prop := ((z ≠ 1 ∧ z ≠ 2) ∧ r = badK 6) ∨ ∃ k : Nat, z = (k : Int) ∧ (k = 1 ∨ k = 2) ∧ KGets k s p r
theorem KG.same {z : Int} {s : KS} {p : List Bool} {r r' : KA} (h : KG z s p r) (h' : KG z s p r') : r = r' := by
  rcases h with ⟨h1, rfl⟩ | ⟨k, rfl, hk, h⟩
  · rcases h' with ⟨_, rfl⟩ | ⟨k, rfl, hk, _⟩
    · rfl
    · exact absurd h1 (by omega)
  · rcases h' with ⟨h1, _⟩ | ⟨k', hk', _, h'⟩
    · exact absurd h1 (by omega)
    · have : k = k' := by omega
      subst this
      exact h.same h'
theorem kg_in {z : Int} {s : KS} {p : List Bool} {r : KA} (hs : s.May) (h : KG z s p r) :
    (-9223372036854775808 ≤ r.t ∧ r.t ≤ 9223372036854775807) ∧ r.v ≤ 18446744073709551615 ∧ r.s.May ∧ r.n ≤ 146 ∧ r.e ≤ 6 ∧ (r.e = 0 → r.n ≤ p.length ∧ r.s.n = s.n + 1 ∧ 2 ≤ r.n) := by
  rcases h with ⟨_, rfl⟩ | ⟨k, _, _, h⟩
  · exact ⟨by simp [badK], by simp [badK], zeroK_may, by simp [badK], by simp [badK], fun h => by simp [badK] at h⟩
  · have := kgets_in hs h
    exact ⟨this.1, this.2.1, this.2.2.1, this.2.2.2.1, by omega, this.2.2.2.2.2⟩

end Go.Proofs.YtkndoalnlldolaaDoor
