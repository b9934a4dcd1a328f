/-
  A box of any number of cells in memory, told by the list of what they hold.
-/
import Derived.Test.YtgmnhfkmneohcaaBox3
namespace Go.Proofs.Ytgmnhfkmneohcaa
open Go.RowKit

/-- a box of cells in memory, none of them shut -/
structure BoxL (w : World) (g : Nat) (l : List Value) : Prop where
  lt : g < w.heap.size
  cell : ∀ i v, l[i]? = some v → w.cell? ⟨g, i, none⟩ = some v
  free : ∀ i v, l[i]? = some v → w.frozen? ⟨g, i, none⟩ = false

section
variable {w w' : World} {g : Nat} {l : List Value}
theorem BoxL.new (w : World) (l : List Value) (t : TypeId) : BoxL (w.alloc (.cells l.toArray t)) w.heap.size l :=
  ⟨by simp, fun i v h => by rw [World.cell?_alloc_at _ _ _ _ rfl]; simpa using h, fun i v h => World.frozen?_alloc_at _ _ _ _ rfl⟩
theorem BoxL.below (h : BoxL w g l) (hb : Below w.heap.size w w') : BoxL w' g l :=
  ⟨Nat.lt_of_lt_of_le h.lt hb.size, fun i v hi => (hb.cell (p := ⟨g, i, none⟩) h.lt).trans (h.cell i v hi), fun i v hi => (hb.frozen (p := ⟨g, i, none⟩) h.lt).trans (h.free i v hi)⟩
theorem BoxL.drew (h : BoxL w g l) : BoxL w.drew g l := ⟨h.lt, h.cell, h.free⟩
theorem BoxL.drewN (h : BoxL w g l) (k : Nat) : BoxL (w.drewN k) g l := ⟨h.lt, h.cell, h.free⟩
theorem BoxL.onA (h : BoxL w g l) (o : Obj) : BoxL (w.alloc o) g l := h.below ((Below.refl _ _).alloc (Nat.le_refl _) o)
theorem BoxL.oth (h : BoxL w g l) {d : Nat} (hd : g ≠ d) (k : Nat) (u : Value) : BoxL (w.setCell ⟨d, k, none⟩ u) g l :=
  ⟨by simpa using h.lt, fun i v hi => (World.cell?_setCell_other w ⟨d, k, none⟩ ⟨g, i, none⟩ u (fun e => hd (by injection e with e; exact e.symm))).trans (h.cell i v hi), fun i v hi => (World.frozen?_setCell ..).trans (h.free i v hi)⟩
theorem BoxL.put (h : BoxL w g l) (k : Nat) (u : Value) : BoxL (w.setCell ⟨g, k, none⟩ u) g (l.set k u) := by
  refine ⟨by simpa using h.lt, fun i v hi => ?_, fun i v hi => ?_⟩
  · rw [List.getElem?_set] at hi
    split at hi
    · rename_i e
      subst e
      split at hi
      · rename_i hk
        injection hi with hi
        subst hi
        exact World.cell?_setCell_same w ⟨g, k, none⟩ u (h.cell k l[k] (List.getElem?_eq_getElem hk))
      · cases hi
    · rename_i e
      exact (World.cell?_setCell_other w ⟨g, k, none⟩ ⟨g, i, none⟩ u (fun e' => e (by injection e'))).trans (h.cell i v hi)
  · rw [World.frozen?_setCell]
    rw [List.getElem?_set] at hi
    split at hi
    · rename_i e
      subst e
      split at hi
      · rename_i hk
        exact h.free k l[k] (List.getElem?_eq_getElem hk)
      · cases hi
    · exact h.free i v hi
theorem BoxL.grown (h : BoxL w g l) {row : Option Nat} (hg : w.grownBy w' row) (hne : row ≠ some g) : BoxL w' g l :=
  ⟨Nat.lt_of_lt_of_le h.lt hg.size, fun i v hi => (World.cell?_of_block (a := ⟨g, i, none⟩) (hg.block g h.lt (fun e => hne e.symm))).trans (h.cell i v hi),
    fun i v hi => (World.frozen?_of_block (a := ⟨g, i, none⟩) (hg.block g h.lt (fun e => hne e.symm))).trans (h.free i v hi)⟩
end

section
variable {w : World} {g : Nat}
theorem BoxL.two {a b : Value} (h : BoxL w g [a, b]) : BoxAt w g a b := ⟨h.lt, h.cell 0 _ rfl, h.cell 1 _ rfl, h.free 0 _ rfl, h.free 1 _ rfl⟩
theorem BoxAt.list {a b : Value} (h : BoxAt w g a b) : BoxL w g [a, b] :=
  ⟨h.lt, fun i v hi => by
    match i, hi with
    | 0, hi => injection hi with hi; subst hi; exact h.c0
    | 1, hi => injection hi with hi; subst hi; exact h.c1, fun i v hi => by
    match i, hi with
    | 0, hi => exact h.f0
    | 1, hi => exact h.f1⟩
theorem BoxL.three {a b c : Value} (h : BoxL w g [a, b, c]) : Box3 w g a b c := ⟨h.lt, h.cell 0 _ rfl, h.cell 1 _ rfl, h.cell 2 _ rfl, h.free 0 _ rfl, h.free 1 _ rfl, h.free 2 _ rfl⟩
/-- eight cells, and that none is shut -/
theorem BoxL.get8 {a0 a1 a2 a3 a4 a5 a6 a7 : Value} (h : BoxL w g [a0, a1, a2, a3, a4, a5, a6, a7]) :
    w.cell? ⟨g, 0, none⟩ = some a0 ∧ w.cell? ⟨g, 1, none⟩ = some a1 ∧ w.cell? ⟨g, 2, none⟩ = some a2 ∧ w.cell? ⟨g, 3, none⟩ = some a3 ∧ w.cell? ⟨g, 4, none⟩ = some a4 ∧ w.cell? ⟨g, 5, none⟩ = some a5 ∧ w.cell? ⟨g, 6, none⟩ = some a6 ∧ w.cell? ⟨g, 7, none⟩ = some a7 :=
  ⟨h.cell 0 _ rfl, h.cell 1 _ rfl, h.cell 2 _ rfl, h.cell 3 _ rfl, h.cell 4 _ rfl, h.cell 5 _ rfl, h.cell 6 _ rfl, h.cell 7 _ rfl⟩
theorem BoxL.free8 {a0 a1 a2 a3 a4 a5 a6 a7 : Value} (h : BoxL w g [a0, a1, a2, a3, a4, a5, a6, a7]) :
    w.frozen? ⟨g, 0, none⟩ = false ∧ w.frozen? ⟨g, 1, none⟩ = false ∧ w.frozen? ⟨g, 2, none⟩ = false ∧ w.frozen? ⟨g, 3, none⟩ = false ∧ w.frozen? ⟨g, 4, none⟩ = false ∧ w.frozen? ⟨g, 5, none⟩ = false ∧ w.frozen? ⟨g, 6, none⟩ = false ∧ w.frozen? ⟨g, 7, none⟩ = false :=
  ⟨h.free 0 _ rfl, h.free 1 _ rfl, h.free 2 _ rfl, h.free 3 _ rfl, h.free 4 _ rfl, h.free 5 _ rfl, h.free 6 _ rfl, h.free 7 _ rfl⟩
/-- all cells written, one behind the other -/
theorem BoxL.all2 {a0 a1 : Value} (h : BoxL w g [a0, a1]) (u0 u1 : Value) : BoxL ((w.setCell ⟨g, 0, none⟩ u0).setCell ⟨g, 1, none⟩ u1) g [u0, u1] := (h.put 0 u0).put 1 u1
theorem BoxL.all3 {a0 a1 a2 : Value} (h : BoxL w g [a0, a1, a2]) (u0 u1 u2 : Value) : BoxL (((w.setCell ⟨g, 0, none⟩ u0).setCell ⟨g, 1, none⟩ u1).setCell ⟨g, 2, none⟩ u2) g [u0, u1, u2] := ((h.put 0 u0).put 1 u1).put 2 u2
theorem BoxL.all8 {a0 a1 a2 a3 a4 a5 a6 a7 : Value} (h : BoxL w g [a0, a1, a2, a3, a4, a5, a6, a7]) (u0 u1 u2 u3 u4 u5 u6 u7 : Value) :
    BoxL ((((((((w.setCell ⟨g, 0, none⟩ u0).setCell ⟨g, 1, none⟩ u1).setCell ⟨g, 2, none⟩ u2).setCell ⟨g, 3, none⟩ u3).setCell ⟨g, 4, none⟩ u4).setCell ⟨g, 5, none⟩ u5).setCell ⟨g, 6, none⟩ u6).setCell ⟨g, 7, none⟩ u7) g [u0, u1, u2, u3, u4, u5, u6, u7] :=
  (((((((h.put 0 u0).put 1 u1).put 2 u2).put 3 u3).put 4 u4).put 5 u5).put 6 u6).put 7 u7
theorem BoxL.oth2 {l : List Value} (h : BoxL w g l) {d : Nat} (hd : g ≠ d) (u0 u1 : Value) : BoxL ((w.setCell ⟨d, 0, none⟩ u0).setCell ⟨d, 1, none⟩ u1) g l := (h.oth hd 0 u0).oth hd 1 u1
theorem BoxL.oth8 {l : List Value} (h : BoxL w g l) {d : Nat} (hd : g ≠ d) (u0 u1 u2 u3 u4 u5 u6 u7 : Value) :
    BoxL ((((((((w.setCell ⟨d, 0, none⟩ u0).setCell ⟨d, 1, none⟩ u1).setCell ⟨d, 2, none⟩ u2).setCell ⟨d, 3, none⟩ u3).setCell ⟨d, 4, none⟩ u4).setCell ⟨d, 5, none⟩ u5).setCell ⟨d, 6, none⟩ u6).setCell ⟨d, 7, none⟩ u7) g l :=
  (((((((h.oth hd 0 u0).oth hd 1 u1).oth hd 2 u2).oth hd 3 u3).oth hd 4 u4).oth hd 5 u5).oth hd 6 u6).oth hd 7 u7
end
theorem below_set {B : Nat} {a w : World} (h : Below B a w) {d : Nat} (hd : B ≤ d) (k : Nat) (u : Value) : Below B a (w.setCell ⟨d, k, none⟩ u) := h.setCell (p := ⟨d, k, none⟩) hd u
theorem below_set2 {B : Nat} {a w : World} (h : Below B a w) {d : Nat} (hd : B ≤ d) (u0 u1 : Value) : Below B a ((w.setCell ⟨d, 0, none⟩ u0).setCell ⟨d, 1, none⟩ u1) := below_set (below_set h hd 0 u0) hd 1 u1
theorem below_set8 {B : Nat} {a w : World} (h : Below B a w) {d : Nat} (hd : B ≤ d) (u0 u1 u2 u3 u4 u5 u6 u7 : Value) :
    Below B a ((((((((w.setCell ⟨d, 0, none⟩ u0).setCell ⟨d, 1, none⟩ u1).setCell ⟨d, 2, none⟩ u2).setCell ⟨d, 3, none⟩ u3).setCell ⟨d, 4, none⟩ u4).setCell ⟨d, 5, none⟩ u5).setCell ⟨d, 6, none⟩ u6).setCell ⟨d, 7, none⟩ u7) :=
  below_set (below_set (below_set (below_set (below_set (below_set (below_set (below_set h hd 0 u0) hd 1 u1) hd 2 u2) hd 3 u3) hd 4 u4) hd 5 u5) hd 6 u6) hd 7 u7

theorem BoxAt.get2 {w : World} {g : Nat} {a b : Value} (h : BoxAt w g a b) : w.cell? ⟨g, 0, none⟩ = some a ∧ w.cell? ⟨g, 1, none⟩ = some b := ⟨h.c0, h.c1⟩
theorem BoxL.get2 {w : World} {g : Nat} {a b : Value} (h : BoxL w g [a, b]) : w.cell? ⟨g, 0, none⟩ = some a ∧ w.cell? ⟨g, 1, none⟩ = some b := ⟨h.cell 0 _ rfl, h.cell 1 _ rfl⟩
theorem BoxL.get3 {w : World} {g : Nat} {a b c : Value} (h : BoxL w g [a, b, c]) : w.cell? ⟨g, 0, none⟩ = some a ∧ w.cell? ⟨g, 1, none⟩ = some b ∧ w.cell? ⟨g, 2, none⟩ = some c := ⟨h.cell 0 _ rfl, h.cell 1 _ rfl, h.cell 2 _ rfl⟩
theorem BoxL.free2 {w : World} {g : Nat} {a b : Value} (h : BoxL w g [a, b]) : w.frozen? ⟨g, 0, none⟩ = false ∧ w.frozen? ⟨g, 1, none⟩ = false := ⟨h.free 0 _ rfl, h.free 1 _ rfl⟩
theorem BoxL.free3 {w : World} {g : Nat} {a b c : Value} (h : BoxL w g [a, b, c]) : w.frozen? ⟨g, 0, none⟩ = false ∧ w.frozen? ⟨g, 1, none⟩ = false ∧ w.frozen? ⟨g, 2, none⟩ = false := ⟨h.free 0 _ rfl, h.free 1 _ rfl, h.free 2 _ rfl⟩

theorem Mid.set2 {w0 w : World} {B : Nat} {v : Value} {bs : List Nat} (h : Mid w0 B w v bs) {g : Nat} (h0 : w0.heap.size ≤ g) (h1 : g < B) (u0 u1 : Value) : Mid w0 B ((w.setCell ⟨g, 0, none⟩ (u0)).setCell ⟨g, 1, none⟩ (u1)) v bs :=
  (h.set ⟨g, 0, none⟩ u0 h0 h1).set ⟨g, 1, none⟩ u1 h0 h1
theorem Mid.set8 {w0 w : World} {B : Nat} {v : Value} {bs : List Nat} (h : Mid w0 B w v bs) {g : Nat} (h0 : w0.heap.size ≤ g) (h1 : g < B) (u0 u1 u2 u3 u4 u5 u6 u7 : Value) : Mid w0 B ((((((((w.setCell ⟨g, 0, none⟩ (u0)).setCell ⟨g, 1, none⟩ (u1)).setCell ⟨g, 2, none⟩ (u2)).setCell ⟨g, 3, none⟩ (u3)).setCell ⟨g, 4, none⟩ (u4)).setCell ⟨g, 5, none⟩ (u5)).setCell ⟨g, 6, none⟩ (u6)).setCell ⟨g, 7, none⟩ (u7)) v bs :=
  (((((((h.set ⟨g, 0, none⟩ u0 h0 h1).set ⟨g, 1, none⟩ u1 h0 h1).set ⟨g, 2, none⟩ u2 h0 h1).set ⟨g, 3, none⟩ u3 h0 h1).set ⟨g, 4, none⟩ u4 h0 h1).set ⟨g, 5, none⟩ u5 h0 h1).set ⟨g, 6, none⟩ u6 h0 h1).set ⟨g, 7, none⟩ u7 h0 h1
theorem Mid.on {w0 w w2 : World} {B : Nat} {v : Value} {bs : List Nat} (h : Mid w0 B w v bs) (hb : Below w.heap.size w w2) : Mid w0 B w2 v bs := by
  refine ⟨⟨h.row.1, ?_⟩, h.bel.trans (hb.mono h.bel.size), h.le⟩
  rcases h.row.2 with h1 | ⟨g, cap, cur, hv, hg, hh, r⟩
  · exact .inl h1
  · refine .inr ⟨g, cap, cur, hv, hg, ?_, r⟩
    rw [hb.block g (by
      rcases Nat.lt_or_ge g w.heap.size with hlt | hge
      · exact hlt
      · rw [Array.getElem?_eq_none hge] at hh; cases hh)]
    exact hh

end Go.Proofs.Ytgmnhfkmneohcaa
