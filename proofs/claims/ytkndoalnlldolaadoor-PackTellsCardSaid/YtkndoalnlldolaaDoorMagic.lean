/-
  The four bytes that an index begins with, as the program lays them; append onto them.
-/
import Derived.Test.YtkndoalnlldolaaDoorIdxNum
import Derived.Lib.SmallJoins
namespace Go.Proofs.YtkndoalnlldolaaDoor
open Go.RowKit

/-- the four bytes -/
def magV : Array Value := #[.int .u8 71, .int .u8 84, .int .u8 83, .int .u8 49]
def magB : List Nat := [71, 84, 83, 49]
theorem mag_rd (w : World) : Rd (w.alloc (.cells magV 5 (4, 5))) (w.heap.size + 1) (some ⟨w.heap.size, 0, none⟩) 4 4 magB := by
  refine ⟨rfl, Nat.le_refl _, (fun h => by cases h), fun _ => ⟨_, rfl, by simp, fun j hj => ?_⟩⟩
  rw [show ((⟨w.heap.size, 0, none⟩ : Addr).add j) = ⟨w.heap.size, j, none⟩ by simp [Addr.add]; intro h; rw [h], World.cell?_alloc_mark w magV _ _ j]
  rcases (by omega : j = 0 ∨ j = 1 ∨ j = 2 ∨ j = 3) with rfl | rfl | rfl | rfl <;> rfl
theorem mag_conv (w : World) : (convert 24 24 (.slice (some ⟨w.heap.size, 0, none⟩) 4 4)).run Tryd.prog (w.alloc (.cells magV 5)) = .ok (.slice (some ⟨w.heap.size, 0, none⟩) 4 4) (w.alloc (.cells magV 5 (4, 5))) :=
  Lib.run_convert_bytes_const (P := Tryd.prog) w 24 5 magV 4 4 Tryd.underlying24 Tryd.underlying5

set_option maxRecDepth 20000 in
/-- append of one byte onto four that leave no room -/
theorem run_magic (ty : TypeId) {w0 w : World} {B1 B2 c : Nat} {a1 a2 : Addr} {x : Nat} {bs : List Nat} (hb : Below w0.heap.size w0 w) (h1 : Rd w B1 (some a1) 4 4 bs) (h2 : Rd w B2 (some a2) 1 c [x]) :
    ∃ v' w', (Builtin.append_ #[24, 24] ty #[.slice (some a1) 4 4, .slice (some a2) 1 c]).run Tryd.prog w = .ok v' w' ∧ Own w0 w' v' (bs ++ [x]) := by
  obtain ⟨i0, hi, hz0, hz1, hz2⟩ := info_parts Tryd.infoB
  have hcells : ∀ {B n c : Nat} {a : Addr} {p : List Nat}, Rd w B (some a) n c p → ∀ j u, (bvals p)[j]? = some u → w.cell? (a.add j) = some u := by
    intro B n c a p h j u hu
    have hj : j < p.length := by
      have := (List.getElem?_eq_some_iff.1 hu).1
      rwa [bvals_length] at this
    obtain ⟨ad', e, _, hc⟩ := h.cell (by have := h.len; omega)
    injection e with e
    subst e
    rw [hc j (by rw [← h.len]; exact hj), ← hu]
    simp [bvals, bval, List.getD_eq_getElem?_getD, hj]
  have hl4 : bs.length = 4 := h1.len
  have hr := run_append_grow (P := Tryd.prog) w 24 ty 5 i0 (.int .u8 0) Tryd.underlying24 hi hz0 a1 4 4 (bvals bs) (by rw [bvals_length, hz1, hl4]) (hcells h1) a2 1 c (bvals [x]) (by rw [bvals_length, hz1]; rfl) (hcells h2) (by omega) (by omega) (by
    rw [hz2]
    have := nextslicecap_le (need := 4 + 1) (old := 4) (by omega)
    omega)
  have hge := grownCap_ge w 5 4 5
  have hcm : grownCap w 5 4 5 ≤ maxLen := grownCap_le_maxLen w 5 4 5 (by unfold maxLen; omega)
  refine ⟨_, _, hr, ?_⟩
  generalize grownCap w (4 + 1) 4 5 = cap at *
  refine ⟨⟨by simp [bvals], .inr ⟨w.heap.size, cap, _, by simp [hl4], hb.size, heap_alloc_new w.drew _, by simp [hl4]; exact hge, hcm, ?_, ?_⟩⟩, (hb.drew).alloc hb.size _⟩
  · have : (Value.int .u8 0).cells.size = 1 := rfl
    simp [size_zeroCells, this, bvals, hl4]
    omega
  · have hlen : (bs ++ [x]).length * 1 = (bvals bs ++ bvals [x]).length := by simp [bvals]
    rw [hlen, bvals_app]
    simp only [Array.toList_append]
    exact List.take_left' rfl
/-- in a plain region -/
theorem wpList_magic {ops : Array Oper} {rest : List Oper} {o : Oper} {a : Act} {Q : Exit → Act → World → Prop} (hgd : o.guard = none) (s x : Operand)
    (ho : o.op = .call { callee := .builtin .append, args := #[s, x], argTypes := #[24, 24] })
    {w0 w : World} {B1 B2 c : Nat} {a1 a2 : Addr} {y : Nat} {bs : List Nat} (hs : a.eval s = .slice (some a1) 4 4) (hx : a.eval x = .slice (some a2) 1 c) (hb : Below w0.heap.size w0 w) (h1 : Rd w B1 (some a1) 4 4 bs) (h2 : Rd w B2 (some a2) 1 c [y])
    (h : ∀ v' w', Own w0 w' v' (bs ++ [y]) → wpList Tryd.prog ops Q rest (a.put o.dst v') w') : wpList Tryd.prog ops Q (o :: rest) a w := by
  refine wpList_plain hgd fun K hK => ?_
  obtain ⟨v', w', hrun, h3⟩ := run_magic o.type hb h1 h2
  unfold Oper.wp execOp
  simp only [ho, resolve, invoke, builtin, Sem.run_bind, Sem.run_pure, Result.andThen_ok, List.map_toArray, List.map_cons, List.map_nil, hs, hx, hrun]
  exact hK _ _ (h v' w' h3)

end Go.Proofs.YtkndoalnlldolaaDoor
