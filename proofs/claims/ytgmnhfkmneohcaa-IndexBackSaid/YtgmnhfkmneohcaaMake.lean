/-
  The run of make of a slice of bytes; slices of bytes that are written out.
-/
import Derived.Test.YtgmnhfkmneohcaaMem
namespace Go.Proofs.Ytgmnhfkmneohcaa
open Go.RowKit

/-- make of a slice of bytes: the run, for a region that draws its order (laid ahead of it, at the world that is drawn) -/
theorem run_mk {w0 w : World} (hb : Below w0.heap.size w0 w) (n : Nat) (hn : n ≤ 1073741824) :
    ∃ w', (Instr.makeSlice 26 (.int .i64 (n : Int)) (.int .i64 (n : Int))).run Try.prog w = .ok (.slice (some ⟨w.heap.size, 0, none⟩) n n) w' ∧ Own w0 w' (.slice (some ⟨w.heap.size, 0, none⟩) n n) (List.replicate n 0) ∧ Below w.heap.size w w' := by
  obtain ⟨i0, hi, hz0, hz1, hz2⟩ := info_parts Try.infoB
  obtain ⟨w', hrun, hown, hgrow⟩ := run_make_full (P := Try.prog) w w0.heap.size 26 5 i0 (.int .u8 0) 1 Try.underlying26 hi hz0 hz1 .i64 .i64 n (by rw [hz2]; omega) (by unfold maxLen; omega) hb.size
  have e : (madeCells (Value.int .u8 0).cells (n * 1)).toList = bvals (List.replicate n 0) := by
    have := toList_madeCells_one (.int .u8 0) (n * 1)
    rw [Nat.mul_one] at this ⊢
    simpa [bvals, bval, Value.cells] using this
  rw [e] at hown
  exact ⟨w', hrun, ⟨by rw [List.length_replicate]; exact hown, hb.grown hgrow hb.size (fun k hk => by cases hk)⟩, (Below.refl _ _).grown hgrow (Nat.le_refl _) (fun k hk => by cases hk)⟩

/-- two bytes that are written out -/
theorem Own.litTwo {w0 w : World} (h : Below w0.heap.size w0 w) (x y : Nat) : Own w0 (w.alloc (.cells #[.int .u8 (x : Int), .int .u8 (y : Int)] 5)) (.slice (some ⟨w.heap.size, 0, none⟩) 2 2) [x, y] :=
  ⟨World.ownsRow_lit w #[.int .u8 (x : Int), .int .u8 (y : Int)] 2 h.size (by unfold maxLen; omega) rfl, h.alloc h.size _⟩
theorem Own.litOne {w0 w : World} (h : Below w0.heap.size w0 w) (x : Nat) : Own w0 (w.alloc (.cells #[.int .u8 (x : Int)] 5)) (.slice (some ⟨w.heap.size, 0, none⟩) 1 1) [x] :=
  ⟨World.ownsRow_lit w #[.int .u8 (x : Int)] 1 h.size (by unfold maxLen; omega) rfl, h.alloc h.size _⟩

end Go.Proofs.Ytgmnhfkmneohcaa
