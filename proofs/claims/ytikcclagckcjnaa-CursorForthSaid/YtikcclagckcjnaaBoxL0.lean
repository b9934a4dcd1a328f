/-
  A box of any number of cells in memory, told by the list of what they hold: its words.
-/
import Derived.Test.YtikcclagckcjnaaMem0
namespace Go.Proofs.Ytikcclagckcjnaa
open Go.RowKit

/-- a box of cells in memory, none of them shut -/
structure BoxL (w : World) (g : Nat) (l : List Value) : Prop where
  lt : g < w.heap.size
  cell : ∀ i v, l[i]? = some v → w.cell? ⟨g, i, none⟩ = some v
  free : ∀ i v, l[i]? = some v → w.frozen? ⟨g, i, none⟩ = false

section
variable {w w' : World} {g : Nat} {l : List Value}
theorem BoxL.new (w : World) (l : List Value) (t : TypeId) : BoxL (w.alloc (.cells l.toArray t)) w.heap.size l :=
  ⟨by simp, fun i v h => by rw [World.cell?_alloc_at _ _ _ _ rfl]; simpa using h, fun i v h => World.frozen?_alloc_at _ _ _ _ rfl⟩
theorem BoxL.below (h : BoxL w g l) (hb : Below w.heap.size w w') : BoxL w' g l :=
  ⟨Nat.lt_of_lt_of_le h.lt hb.size, fun i v hi => (hb.cell (p := ⟨g, i, none⟩) h.lt).trans (h.cell i v hi), fun i v hi => (hb.frozen (p := ⟨g, i, none⟩) h.lt).trans (h.free i v hi)⟩
theorem BoxL.drew (h : BoxL w g l) : BoxL w.drew g l := ⟨h.lt, h.cell, h.free⟩
theorem BoxL.drewN (h : BoxL w g l) (k : Nat) : BoxL (w.drewN k) g l := ⟨h.lt, h.cell, h.free⟩
theorem BoxL.onA (h : BoxL w g l) (o : Obj) : BoxL (w.alloc o) g l := h.below ((Below.refl _ _).alloc (Nat.le_refl _) o)
theorem BoxL.oth (h : BoxL w g l) {d : Nat} (hd : g ≠ d) (k : Nat) (u : Value) : BoxL (w.setCell ⟨d, k, none⟩ u) g l :=
  ⟨by simpa using h.lt, fun i v hi => (World.cell?_setCell_other w ⟨d, k, none⟩ ⟨g, i, none⟩ u (fun e => hd (by injection e with e; exact e.symm))).trans (h.cell i v hi), fun i v hi => (World.frozen?_setCell ..).trans (h.free i v hi)⟩
theorem BoxL.put (h : BoxL w g l) (k : Nat) (u : Value) : BoxL (w.setCell ⟨g, k, none⟩ u) g (l.set k u) := by
  refine ⟨by simpa using h.lt, fun i v hi => ?_, fun i v hi => ?_⟩
  · rw [List.getElem?_set] at hi
    split at hi
    · rename_i e
      subst e
      split at hi
      · rename_i hk
        injection hi with hi
        subst hi
        exact World.cell?_setCell_same w ⟨g, k, none⟩ u (h.cell k l[k] (List.getElem?_eq_getElem hk))
      · cases hi
    · rename_i e
      exact (World.cell?_setCell_other w ⟨g, k, none⟩ ⟨g, i, none⟩ u (fun e' => e (by injection e'))).trans (h.cell i v hi)
  · rw [World.frozen?_setCell]
    rw [List.getElem?_set] at hi
    split at hi
    · rename_i e
      subst e
      split at hi
      · rename_i hk
        exact h.free k l[k] (List.getElem?_eq_getElem hk)
      · cases hi
    · exact h.free i v hi
theorem BoxL.grown (h : BoxL w g l) {row : Option Nat} (hg : w.grownBy w' row) (hne : row ≠ some g) : BoxL w' g l :=
  ⟨Nat.lt_of_lt_of_le h.lt hg.size, fun i v hi => (World.cell?_of_block (a := ⟨g, i, none⟩) (hg.block g h.lt (fun e => hne e.symm))).trans (h.cell i v hi),
    fun i v hi => (World.frozen?_of_block (a := ⟨g, i, none⟩) (hg.block g h.lt (fun e => hne e.symm))).trans (h.free i v hi)⟩
end

theorem below_set {B : Nat} {a w : World} (h : Below B a w) {d : Nat} (hd : B ≤ d) (k : Nat) (u : Value) : Below B a (w.setCell ⟨d, k, none⟩ u) := h.setCell (p := ⟨d, k, none⟩) hd u
theorem below_set2 {B : Nat} {a w : World} (h : Below B a w) {d : Nat} (hd : B ≤ d) (u0 u1 : Value) : Below B a ((w.setCell ⟨d, 0, none⟩ u0).setCell ⟨d, 1, none⟩ u1) := below_set (below_set h hd 0 u0) hd 1 u1

theorem BoxL.get2 {w : World} {g : Nat} {a b : Value} (h : BoxL w g [a, b]) : w.cell? ⟨g, 0, none⟩ = some a ∧ w.cell? ⟨g, 1, none⟩ = some b := ⟨h.cell 0 _ rfl, h.cell 1 _ rfl⟩
theorem BoxL.get3 {w : World} {g : Nat} {a b c : Value} (h : BoxL w g [a, b, c]) : w.cell? ⟨g, 0, none⟩ = some a ∧ w.cell? ⟨g, 1, none⟩ = some b ∧ w.cell? ⟨g, 2, none⟩ = some c := ⟨h.cell 0 _ rfl, h.cell 1 _ rfl, h.cell 2 _ rfl⟩
theorem BoxL.free2 {w : World} {g : Nat} {a b : Value} (h : BoxL w g [a, b]) : w.frozen? ⟨g, 0, none⟩ = false ∧ w.frozen? ⟨g, 1, none⟩ = false := ⟨h.free 0 _ rfl, h.free 1 _ rfl⟩
theorem BoxL.free3 {w : World} {g : Nat} {a b c : Value} (h : BoxL w g [a, b, c]) : w.frozen? ⟨g, 0, none⟩ = false ∧ w.frozen? ⟨g, 1, none⟩ = false ∧ w.frozen? ⟨g, 2, none⟩ = false := ⟨h.free 0 _ rfl, h.free 1 _ rfl, h.free 2 _ rfl⟩

end Go.Proofs.Ytikcclagckcjnaa
