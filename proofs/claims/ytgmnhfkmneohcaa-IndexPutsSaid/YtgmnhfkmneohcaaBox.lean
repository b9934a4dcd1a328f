/-
  A box of two cells in memory.
-/
import Derived.Test.YtgmnhfkmneohcaaMem
namespace Go.Proofs.Ytgmnhfkmneohcaa
open Go.RowKit

/-- a box of two cells -/
structure BoxAt (w : World) (b : Nat) (s n : Value) : Prop where
  lt : b < w.heap.size
  c0 : w.cell? ⟨b, 0, none⟩ = some s
  c1 : w.cell? ⟨b, 1, none⟩ = some n
  f0 : w.frozen? ⟨b, 0, none⟩ = false
  f1 : w.frozen? ⟨b, 1, none⟩ = false
theorem BoxAt.new (w : World) (s n : Value) (t : TypeId) : BoxAt (w.alloc (.cells #[s, n] t)) w.heap.size s n := by
  obtain ⟨h0, h1, g0, g1⟩ := two_new (w := w) (a := s) (b := n) (t := t) (Below.refl _ _)
  exact ⟨by simp, h0, h1, g0, g1⟩
theorem BoxAt.below {w w' : World} {b : Nat} {s n : Value} (h : BoxAt w b s n) (hb : Below w.heap.size w w') : BoxAt w' b s n :=
  ⟨Nat.lt_of_lt_of_le h.lt hb.size, (hb.cell (p := ⟨b, 0, none⟩) h.lt).trans h.c0, (hb.cell (p := ⟨b, 1, none⟩) h.lt).trans h.c1, (hb.frozen (p := ⟨b, 0, none⟩) h.lt).trans h.f0, (hb.frozen (p := ⟨b, 1, none⟩) h.lt).trans h.f1⟩
theorem BoxAt.drew {w : World} {b : Nat} {s n : Value} (h : BoxAt w b s n) : BoxAt w.drew b s n := ⟨h.lt, h.c0, h.c1, h.f0, h.f1⟩
theorem BoxAt.set {w : World} {b : Nat} {s n : Value} (h : BoxAt w b s n) (s' n' : Value) : BoxAt ((w.setCell ⟨b, 0, none⟩ s').setCell ⟨b, 1, none⟩ n') b s' n' := by
  have c0 := h.c0
  have c1 := h.c1
  have f0 := h.f0
  have f1 := h.f1
  refine ⟨by simpa using h.lt, ?_, ?_, ?_, ?_⟩ <;> go_simp
theorem BoxAt.other {w : World} {b d : Nat} {s n : Value} (h : BoxAt w b s n) (hd : b ≠ d) (u u' : Value) : BoxAt ((w.setCell ⟨d, 0, none⟩ u).setCell ⟨d, 1, none⟩ u') b s n := by
  have c0 := h.c0
  have c1 := h.c1
  have f0 := h.f0
  have f1 := h.f1
  refine ⟨by simpa using h.lt, ?_, ?_, ?_, ?_⟩ <;> go_simp

theorem Rd.onA {w : World} {A : Option Addr} {n c : Nat} {bs : List Nat} (h : Rd w w.heap.size A n c bs) (o : Obj) : Rd (w.alloc o) (w.alloc o).heap.size A n c bs :=
  (h.below ((Below.refl _ _).alloc (Nat.le_refl _) o)).more (by simp)
theorem BoxAt.onA {w : World} {b : Nat} {s n : Value} (h : BoxAt w b s n) (o : Obj) : BoxAt (w.alloc o) b s n := h.below ((Below.refl _ _).alloc (Nat.le_refl _) o)
theorem BoxAt.then_ {w : World} {b : Nat} {s n : Value} (_ : BoxAt w b s n) (s' n' : Value) (t : TypeId) : BoxAt (w.alloc (.cells #[s', n'] t)) w.heap.size s' n' := BoxAt.new w s' n' t

end Go.Proofs.Ytgmnhfkmneohcaa
