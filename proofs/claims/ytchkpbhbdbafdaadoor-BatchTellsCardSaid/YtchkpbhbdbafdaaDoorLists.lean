/-
  Words for memory, more: a slice value that reads as ints; one that reads as pairs of ints.
-/
import Derived.Test.YtchkpbhbdbafdaaDoorWords
namespace Go.Proofs.YtchkpbhbdbafdaaDoor
open Go.ChangeShapes Go.WideShapes Go.ChangeAt Go.RowKit

/-- the slice value '.slice A n c' reads as the numbers xs, and lies below block B -/
structure RdI (w : World) (B : Nat) (A : Option Addr) (n : Nat) (xs : List Int) : Prop where
  len : xs.length = n
  cell : 0 < n → ∃ ad, A = some ad ∧ ad.block < B ∧ ∀ j, j < n → w.cell? (ad.add j) = some (.int .i64 (xs.getD j 0))
  fit : ∀ x ∈ xs, -9223372036854775808 ≤ x ∧ x ≤ 9223372036854775807

section
variable {w w' : World} {B n : Nat} {A : Option Addr} {xs : List Int}
theorem RdI.at_ {k : Nat} (h : RdI w B A n xs) (hk : k < n) : ∃ ad x, A = some ad ∧ ad.block < B ∧ w.cell? (ad.add k) = some (.int .i64 x) ∧ -9223372036854775808 ≤ x ∧ x ≤ 9223372036854775807 ∧ xs.getD k 0 = x := by
  obtain ⟨ad, e, hb, hc⟩ := h.cell (by omega)
  have hl : k < xs.length := by rw [h.len]; exact hk
  have hf := h.fit (xs.getD k 0) (by rw [List.getD_eq_getElem?_getD, List.getElem?_eq_getElem hl]; exact List.getElem_mem hl)
  exact ⟨ad, _, e, hb, hc k hk, hf.1, hf.2, rfl⟩
theorem RdI.keep (h : RdI w B A n xs) (hk : ∀ p : Addr, p.block < B → w'.cell? p = w.cell? p) : RdI w' B A n xs :=
  ⟨h.len, fun hn => by
    obtain ⟨ad, e, hb, hc⟩ := h.cell hn
    exact ⟨ad, e, hb, fun j hj => (hk _ (by rw [add_block]; exact hb)).trans (hc j hj)⟩, h.fit⟩
theorem RdI.below (h : RdI w B A n xs) (hb : Below B w w') : RdI w' B A n xs := h.keep fun _ hp => hb.cell hp
end

section
variable {H : Type} {enc : TypeId × Value → H} {W W' : World}
theorem Tryd.cellsI : Tryd.prog.cellsOf 3 = 1 := by kernel_rfl
set_option maxRecDepth 20000 in
/-- an argument of type []int -/
theorem open_intsl {base : Nat} {v : Value} {d : DataW H} {p : List MemPlace} (hv : Value.okWide Tryd.prog W .any base 23 v) (h : DataW.Trod enc Tryd.prog W 0 (fun _ => true) true 23 v d p) :
    ∃ A n c xs, v = .slice A n c ∧ RdI W W.heap.size A n xs ∧ n ≤ 9223372036854775807 := by
  obtain ⟨A, n, c, rfl⟩ := okWide_slice Tryd.underlying23 hv
  obtain ⟨fuel, hf⟩ := h
  rcases open_ints Tryd.underlying23 Tryd.underlying3 Tryd.cellsI hf with ⟨hcs, _⟩ | ⟨a, len, cap, zs, hcs, _, hl, hm, hz, _, hcell, hwz⟩
  · simp [Value.cells] at hcs
    obtain ⟨rfl, rfl, rfl⟩ := hcs
    exact ⟨none, 0, 0, [], rfl, ⟨rfl, fun h => absurd h (by omega), by simp⟩, by omega⟩
  · simp [Value.cells] at hcs
    obtain ⟨rfl, rfl, rfl⟩ := hcs
    simp only [if_true] at hz
    refine ⟨some a, n, c, zs.take n, rfl, ⟨by simp; omega, fun hn => ⟨a, rfl, ?_, fun j hj => ?_⟩, ?_⟩, by unfold maxLen at hm; omega⟩
    · have := World.block_lt_of_cell? W _ (hcell 0 (by omega))
      rwa [add_block] at this
    · rw [hcell j (by omega)]
      have hjz : j < zs.length := by omega
      simp only [List.getD_eq_getElem?_getD, List.getElem?_take_of_lt hj, List.getElem?_eq_getElem hjz, Option.getD_some]
    · intro x hx
      exact wf_i64 (hwz x (List.mem_of_mem_take hx))
end

end Go.Proofs.YtchkpbhbdbafdaaDoor
