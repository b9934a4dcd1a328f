/-
  A box of three cells in memory.
-/
import Derived.Test.YtgmnhfkmneohcaaBox
namespace Go.Proofs.Ytgmnhfkmneohcaa
open Go.RowKit

theorem below_drewN {B : Nat} {a w : World} (h : Below B a w) (n : Nat) : Below B a (w.drewN n) := ⟨h.os, h.tape, h.output, h.size, h.block⟩

/-- a box of three cells -/
structure Box3 (w : World) (b : Nat) (s n t : Value) : Prop where
  lt : b < w.heap.size
  c0 : w.cell? ⟨b, 0, none⟩ = some s
  c1 : w.cell? ⟨b, 1, none⟩ = some n
  c2 : w.cell? ⟨b, 2, none⟩ = some t
  f0 : w.frozen? ⟨b, 0, none⟩ = false
  f1 : w.frozen? ⟨b, 1, none⟩ = false
  f2 : w.frozen? ⟨b, 2, none⟩ = false
theorem Box3.new (w : World) (s n t : Value) (ty : TypeId) : Box3 (w.alloc (.cells #[s, n, t] ty)) w.heap.size s n t := by
  refine ⟨by simp, ?_, ?_, ?_, ?_, ?_, ?_⟩ <;> go_simp
theorem Box3.below {w w' : World} {b : Nat} {s n t : Value} (h : Box3 w b s n t) (hb : Below w.heap.size w w') : Box3 w' b s n t :=
  ⟨Nat.lt_of_lt_of_le h.lt hb.size, (hb.cell (p := ⟨b, 0, none⟩) h.lt).trans h.c0, (hb.cell (p := ⟨b, 1, none⟩) h.lt).trans h.c1, (hb.cell (p := ⟨b, 2, none⟩) h.lt).trans h.c2,
    (hb.frozen (p := ⟨b, 0, none⟩) h.lt).trans h.f0, (hb.frozen (p := ⟨b, 1, none⟩) h.lt).trans h.f1, (hb.frozen (p := ⟨b, 2, none⟩) h.lt).trans h.f2⟩
theorem Box3.drew {w : World} {b : Nat} {s n t : Value} (h : Box3 w b s n t) : Box3 w.drew b s n t := ⟨h.lt, h.c0, h.c1, h.c2, h.f0, h.f1, h.f2⟩
theorem Box3.drewN {w : World} {b : Nat} {s n t : Value} (h : Box3 w b s n t) (k : Nat) : Box3 (w.drewN k) b s n t := ⟨h.lt, h.c0, h.c1, h.c2, h.f0, h.f1, h.f2⟩
theorem Box3.set {w : World} {b : Nat} {s n t : Value} (h : Box3 w b s n t) (s' n' t' : Value) : Box3 (((w.setCell ⟨b, 0, none⟩ s').setCell ⟨b, 1, none⟩ n').setCell ⟨b, 2, none⟩ t') b s' n' t' := by
  have c0 := h.c0
  have c1 := h.c1
  have c2 := h.c2
  have f0 := h.f0
  have f1 := h.f1
  have f2 := h.f2
  refine ⟨by simpa using h.lt, ?_, ?_, ?_, ?_, ?_, ?_⟩ <;> go_simp
theorem Box3.other {w : World} {b d : Nat} {s n t : Value} (h : Box3 w b s n t) (hd : b ≠ d) (k : Nat) (u : Value) : Box3 (w.setCell ⟨d, k, none⟩ u) b s n t := by
  have c0 := h.c0
  have c1 := h.c1
  have c2 := h.c2
  have f0 := h.f0
  have f1 := h.f1
  have f2 := h.f2
  refine ⟨by simpa using h.lt, ?_, ?_, ?_, ?_, ?_, ?_⟩ <;> go_simp
theorem Box3.onA {w : World} {b : Nat} {s n t : Value} (h : Box3 w b s n t) (o : Obj) : Box3 (w.alloc o) b s n t := h.below ((Below.refl _ _).alloc (Nat.le_refl _) o)

theorem BoxAt.oth {w : World} {b d : Nat} {s n : Value} (h : BoxAt w b s n) (hd : b ≠ d) (k : Nat) (u : Value) : BoxAt (w.setCell ⟨d, k, none⟩ u) b s n := by
  have c0 := h.c0
  have c1 := h.c1
  have f0 := h.f0
  have f1 := h.f1
  refine ⟨by simpa using h.lt, ?_, ?_, ?_, ?_⟩ <;> go_simp
/-- a box of two and one of three cells -/
structure Two23 (w : World) (b d : Nat) (s n x y z : Value) : Prop where
  e0 : w.cell? ⟨b, 0, none⟩ = some s
  e1 : w.cell? ⟨b, 1, none⟩ = some n
  g0 : w.cell? ⟨d, 0, none⟩ = some x
  g1 : w.cell? ⟨d, 1, none⟩ = some y
  g2 : w.cell? ⟨d, 2, none⟩ = some z
theorem Two23.of {w : World} {b d : Nat} {s n x y z : Value} (h : BoxAt w b s n) (h' : Box3 w d x y z) : Two23 w b d s n x y z := ⟨h.c0, h.c1, h'.c0, h'.c1, h'.c2⟩
/-- both written, the one of two ahead -/
theorem Two23.one {w : World} {b d : Nat} {s n x y z : Value} (h : BoxAt w b s n) (h' : Box3 w d x y z) (hd : b ≠ d) (s' n' x' y' z' : Value) :
    Two23 (((((w.setCell ⟨b, 0, none⟩ s').setCell ⟨b, 1, none⟩ n').setCell ⟨d, 0, none⟩ x').setCell ⟨d, 1, none⟩ y').setCell ⟨d, 2, none⟩ z') b d s' n' x' y' z' :=
  Two23.of ((((h.set s' n').oth hd 0 x').oth hd 1 y').oth hd 2 z') (((h'.other (Ne.symm hd) 0 s').other (Ne.symm hd) 1 n').set x' y' z')
/-- both written, the one of three ahead -/
theorem Two23.two {w : World} {b d : Nat} {s n x y z : Value} (h : BoxAt w b s n) (h' : Box3 w d x y z) (hd : b ≠ d) (s' n' x' y' z' : Value) :
    Two23 (((((w.setCell ⟨d, 0, none⟩ x').setCell ⟨d, 1, none⟩ y').setCell ⟨d, 2, none⟩ z').setCell ⟨b, 0, none⟩ s').setCell ⟨b, 1, none⟩ n') b d s' n' x' y' z' :=
  Two23.of ((((h.oth hd 0 x').oth hd 1 y').oth hd 2 z').set s' n') (((h'.set x' y' z').other (Ne.symm hd) 0 s').other (Ne.symm hd) 1 n')

/-- bytes of the call's own, made behind block B; of what lay in w0 nothing has turned -/
structure Mid (w0 : World) (B : Nat) (w : World) (v : Value) (bs : List Nat) : Prop where
  row : w.ownsRow B 5 1 v bs.length (bvals bs)
  bel : Below w0.heap.size w0 w
  le : w0.heap.size ≤ B
theorem Mid.of {w0 w1 w : World} {v : Value} {bs : List Nat} (h : Own w1 w v bs) (hb : Below w0.heap.size w0 w1) : Mid w0 w1.heap.size w v bs := ⟨h.row, hb.trans (h.bel.mono hb.size), hb.size⟩
theorem Mid.set {w0 w : World} {B : Nat} {v : Value} {bs : List Nat} (h : Mid w0 B w v bs) (p : Addr) (u : Value) (h0 : w0.heap.size ≤ p.block) (h1 : p.block < B) : Mid w0 B (w.setCell p u) v bs :=
  ⟨ownsRow_setCell_below h.row h1 u, h.bel.setCell h0 u, h.le⟩
theorem Mid.own {w0 w : World} {B : Nat} {v : Value} {bs : List Nat} (h : Mid w0 B w v bs) : Own w0 w v bs := by
  refine ⟨⟨h.row.1, ?_⟩, h.bel⟩
  rcases h.row.2 with h1 | ⟨g, cap, cur, hv, hg, r⟩
  · exact .inl h1
  · exact .inr ⟨g, cap, cur, hv, Nat.le_trans h.le hg, r⟩

end Go.Proofs.Ytgmnhfkmneohcaa
