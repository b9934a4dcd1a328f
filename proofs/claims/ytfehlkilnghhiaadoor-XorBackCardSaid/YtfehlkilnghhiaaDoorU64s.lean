/-
  Words for memory, more: a slice value that reads as numbers of 64 bits.
-/
import Derived.Test.YtfehlkilnghhiaaDoorLaw
namespace Go.Proofs.YtfehlkilnghhiaaDoor
open Go.ChangeShapes Go.WideShapes Go.ChangeAt Go.RowKit

/-- the slice value '.slice A n c' reads as the numbers xs, and lies below block B -/
structure RdU (w : World) (B : Nat) (A : Option Addr) (n : Nat) (xs : List Nat) : Prop where
  len : xs.length = n
  cell : 0 < n → ∃ ad, A = some ad ∧ ad.block < B ∧ ∀ j, j < n → w.cell? (ad.add j) = some (.int .u64 ((xs.getD j 0 : Nat) : Int))
  fit : ∀ x ∈ xs, x ≤ 18446744073709551615

section
variable {w w' : World} {B n : Nat} {A : Option Addr} {xs : List Nat}
theorem RdU.at_ {k : Nat} (h : RdU w B A n xs) (hk : k < n) : ∃ ad, A = some ad ∧ ad.block < B ∧ w.cell? (ad.add k) = some (.int .u64 ((xs.getD k 0 : Nat) : Int)) := by
  obtain ⟨ad, e, hb, hc⟩ := h.cell (by omega)
  exact ⟨ad, e, hb, hc k hk⟩
theorem RdU.keep (h : RdU w B A n xs) (hk : ∀ p : Addr, p.block < B → w'.cell? p = w.cell? p) : RdU w' B A n xs :=
  ⟨h.len, fun hn => by
    obtain ⟨ad, e, hb, hc⟩ := h.cell hn
    exact ⟨ad, e, hb, fun j hj => (hk _ (by rw [add_block]; exact hb)).trans (hc j hj)⟩, h.fit⟩
theorem RdU.below (h : RdU w B A n xs) (hb : Below B w w') : RdU w' B A n xs := h.keep fun _ hp => hb.cell hp
end

section
variable {H : Type} {enc : TypeId × Value → H} {W W' : World}
theorem Tryd.cellsU : Tryd.prog.cellsOf 22 = 1 := by kernel_rfl
/-- an argument of type []uint64 -/
theorem open_u64sl {base : Nat} {v : Value} {d : DataW H} {p : List MemPlace} (hv : Value.okWide Tryd.prog W .any base 46 v) (h : DataW.Trod enc Tryd.prog W 0 (fun _ => true) true 46 v d p) :
    ∃ A n c xs, v = .slice A n c ∧ RdU W W.heap.size A n xs ∧ n ≤ 9223372036854775807 := by
  obtain ⟨A, n, c, rfl⟩ := okWide_slice Tryd.underlying46 hv
  obtain ⟨fuel, hf⟩ := h
  rcases open_ints Tryd.underlying46 Tryd.underlying22 Tryd.cellsU hf with ⟨hcs, _⟩ | ⟨a, len, cap, zs, hcs, _, hl, hm, hz, _, hcell, hwz⟩
  · simp [Value.cells] at hcs
    obtain ⟨rfl, rfl, rfl⟩ := hcs
    exact ⟨none, 0, 0, [], rfl, ⟨rfl, fun h => absurd h (by omega), by simp⟩, by omega⟩
  · simp [Value.cells] at hcs
    obtain ⟨rfl, rfl, rfl⟩ := hcs
    simp only [if_true] at hz
    have hw : ∀ x ∈ zs, 0 ≤ x ∧ x ≤ 18446744073709551615 := by
      intro x hx
      have := hwz x hx
      simp [Lit.wf, IntKind.min, IntKind.max, IntKind.signed, IntKind.bits] at this
      omega
    refine ⟨some a, n, c, (zs.take n).map Int.toNat, rfl, ⟨by simp; omega, fun hn => ⟨a, rfl, ?_, fun j hj => ?_⟩, ?_⟩, by unfold maxLen at hm; omega⟩
    · have := World.block_lt_of_cell? W _ (hcell 0 (by omega))
      rwa [add_block] at this
    · rw [hcell j (by omega)]
      have hjz : j < zs.length := by omega
      have h2 := hw zs[j] (List.getElem_mem hjz)
      simp only [List.getD_eq_getElem?_getD, List.getElem?_map, List.getElem?_take_of_lt hj, List.getElem?_eq_getElem hjz, Option.map_some, Option.getD_some]
      rw [Int.toNat_of_nonneg h2.1]
    · intro x hx
      obtain ⟨y, hy, rfl⟩ := List.mem_map.1 hx
      have := hw y (List.mem_of_mem_take hy)
      omega
end

end Go.Proofs.YtfehlkilnghhiaaDoor
