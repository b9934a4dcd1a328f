/-
  Words with which the end of a region that draws its order is shown, step by step from its world.
-/
import Derived.Test.YtldodfdbaonmkaaDoorMidApp
namespace Go.Proofs.YtldodfdbaonmkaaDoor
open Go.RowKit

section
variable {w : World} {g : Nat} {l : List Value}
theorem BoxL.new_at (l : List Value) (t : TypeId) (hg : g = w.heap.size) : BoxL (w.alloc (.cells l.toArray t)) g l := by
  subst hg
  exact BoxL.new w l t
theorem BoxL.all2_ (h : BoxL w g l) (hl : l.length = 2) (u0 u1 : Value) : BoxL ((w.setCell ⟨g, 0, none⟩ (u0)).setCell ⟨g, 1, none⟩ (u1)) g [u0, u1] := by
  match l, hl with
  | [a, b], _ => exact h.all2 u0 u1
theorem BoxL.all3_ (h : BoxL w g l) (hl : l.length = 3) (u0 u1 u2 : Value) : BoxL (((w.setCell ⟨g, 0, none⟩ (u0)).setCell ⟨g, 1, none⟩ (u1)).setCell ⟨g, 2, none⟩ (u2)) g [u0, u1, u2] := by
  match l, hl with
  | [a, b, c], _ => exact h.all3 u0 u1 u2
theorem BoxL.all8_ (h : BoxL w g l) (hl : l.length = 8) (u0 u1 u2 u3 u4 u5 u6 u7 : Value) : BoxL ((((((((w.setCell ⟨g, 0, none⟩ (u0)).setCell ⟨g, 1, none⟩ (u1)).setCell ⟨g, 2, none⟩ (u2)).setCell ⟨g, 3, none⟩ (u3)).setCell ⟨g, 4, none⟩ (u4)).setCell ⟨g, 5, none⟩ (u5)).setCell ⟨g, 6, none⟩ (u6)).setCell ⟨g, 7, none⟩ (u7)) g [u0, u1, u2, u3, u4, u5, u6, u7] := by
  match l, hl with
  | [a0, a1, a2, a3, a4, a5, a6, a7], _ => exact h.all8 u0 u1 u2 u3 u4 u5 u6 u7
end
section
variable {w0 w : World} {B : Nat} {v : Value} {bs : List Nat}
theorem Mid.onA (h : Mid w0 B w v bs) (o : Obj) : Mid w0 B (w.alloc o) v bs := h.on ((Below.refl _ _).alloc (Nat.le_refl _) o)
theorem Mid.drew (h : Mid w0 B w v bs) : Mid w0 B w.drew v bs := ⟨h.row, h.bel.drew, h.le⟩
theorem Mid.setAt (h : Mid w0 B w v bs) {g : Nat} (h0 : w0.heap.size ≤ g) (h1 : g < B) (k : Nat) (u : Value) : Mid w0 B (w.setCell ⟨g, k, none⟩ u) v bs := h.set ⟨g, k, none⟩ u h0 h1
end
theorem Mid.some {w0 w1 w : World} {v : Value} {bs : List Nat} (h : Own w1 w v bs) (hb : Below w0.heap.size w0 w1) : ∃ B, Hid (B = w1.heap.size) ∧ Mid w0 B w v bs := ⟨_, Lib.hid rfl, Mid.of h hb⟩
theorem Mid.rd {w0 w : World} {B n c : Nat} {A : Option Addr} {bs : List Nat} (h : Mid w0 B w (.slice A n c) bs) : Rd w w.heap.size A n c bs := h.own.rd

end Go.Proofs.YtldodfdbaonmkaaDoor
