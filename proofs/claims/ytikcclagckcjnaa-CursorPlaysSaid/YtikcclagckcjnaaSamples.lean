/-
  Words for memory: a slice value that reads as samples; an argument of a law opened so.
-/
import Derived.Test.YtikcclagckcjnaaLaw0
import Derived.Test.YtikcclagckcjnaaMem0
import Derived.Deep.SlicePairs
namespace Go.Proofs.Ytikcclagckcjnaa
open Go.ChangeShapes Go.WideShapes Go.ChangeAt Go.RowKit

/-- a sample fits its type -/
def FitQ (x : Int × Nat) : Prop := -9223372036854775808 ≤ x.1 ∧ x.1 ≤ 9223372036854775807 ∧ x.2 ≤ 18446744073709551615
/-- the slice value '.slice A n c' reads as the samples xs, and lies below block B -/
structure RdQ (w : World) (B : Nat) (A : Option Addr) (n c : Nat) (xs : List (Int × Nat)) : Prop where
  len : xs.length = n
  cap : n ≤ c
  no : A = none → c = 0
  cell : 0 < n → ∃ ad, A = some ad ∧ ad.block < B ∧ ∀ j, j < n → w.cell? (ad.add (j * 2)) = some (.int .i64 (xs.getD j (0, 0)).1) ∧ w.cell? (ad.add (j * 2 + 1)) = some (.int .u64 (((xs.getD j (0, 0)).2 : Nat) : Int))
  fit : ∀ x ∈ xs, FitQ x

section
variable {w w' : World} {B B' n c : Nat} {A : Option Addr} {xs : List (Int × Nat)}
theorem RdQ.fitAt (h : RdQ w B A n c xs) (k : Nat) : FitQ (xs.getD k (0, 0)) := by
  rcases Nat.lt_or_ge k xs.length with hk | hk
  · rw [List.getD_eq_getElem?_getD, List.getElem?_eq_getElem hk]
    exact h.fit _ (List.getElem_mem hk)
  · rw [List.getD_eq_getElem?_getD, List.getElem?_eq_none hk]
    exact ⟨by simp, by simp, by simp⟩
theorem RdQ.at_ {k : Nat} (h : RdQ w B A n c xs) (hk : k < n) : ∃ ad, A = some ad ∧ ad.block < B ∧ w.cell? (ad.add (k * 2)) = some (.int .i64 (xs.getD k (0, 0)).1) ∧ w.cell? ⟨(ad.add (k * 2)).block, (ad.add (k * 2)).off + 1, none⟩ = some (.int .u64 (((xs.getD k (0, 0)).2 : Nat) : Int)) := by
  obtain ⟨ad, e, hb, hc⟩ := h.cell (by omega)
  obtain ⟨h1, h2⟩ := hc k hk
  rw [← add_add'] at h2
  exact ⟨ad, e, hb, h1, h2⟩
theorem RdQ.keep (h : RdQ w B A n c xs) (hk : ∀ p : Addr, p.block < B → w'.cell? p = w.cell? p) : RdQ w' B A n c xs :=
  ⟨h.len, h.cap, h.no, fun hn => by
    obtain ⟨ad, e, hb, hc⟩ := h.cell hn
    exact ⟨ad, e, hb, fun j hj => ⟨(hk _ (by rw [add_block]; exact hb)).trans (hc j hj).1, (hk _ (by rw [add_block]; exact hb)).trans (hc j hj).2⟩⟩, h.fit⟩
theorem RdQ.below (h : RdQ w B A n c xs) (hb : Below B w w') : RdQ w' B A n c xs := h.keep fun _ hp => hb.cell hp
theorem RdQ.more (h : RdQ w B A n c xs) (hB : B ≤ B') : RdQ w B' A n c xs :=
  ⟨h.len, h.cap, h.no, fun hn => by
    obtain ⟨ad, e, hb, hc⟩ := h.cell hn
    exact ⟨ad, e, by omega, hc⟩, h.fit⟩
theorem RdQ.drew (h : RdQ w B A n c xs) : RdQ w.drew B A n c xs := ⟨h.len, h.cap, h.no, h.cell, h.fit⟩
end

section
variable {H : Type} {enc : TypeId × Value → H} {W W' : World}
theorem open_i64v {v : Value} {n base : Nat} {spare : Nat → Bool} {held : Bool} {y : DataW H × List MemPlace} (h : DataW.trod enc Try.prog W base spare held n 2 [v] = some y) : ∃ x : Int, v = .int .i64 x ∧ -9223372036854775808 ≤ x ∧ x ≤ 9223372036854775807 := by
  obtain ⟨x, hcs, _, hw⟩ := DataW.trod_int Try.underlying2 h
  simp at hcs
  exact ⟨x, hcs, wf_i64 hw⟩
theorem open_u64v {v : Value} {n base : Nat} {spare : Nat → Bool} {held : Bool} {y : DataW H × List MemPlace} (h : DataW.trod enc Try.prog W base spare held n 41 [v] = some y) : ∃ x : Nat, v = .int .u64 (x : Int) ∧ x ≤ 18446744073709551615 := by
  obtain ⟨x, hcs, _, hw⟩ := DataW.trod_int Try.underlying41 h
  simp at hcs
  obtain ⟨k, rfl, hk⟩ := wf_u64 hw
  exact ⟨k, hcs, hk⟩
set_option maxRecDepth 20000 in
/-- an argument of type []api.Sample -/
theorem open_samples {base : Nat} {v : Value} {d : DataW H} {p : List MemPlace} (hv : Value.okWide Try.prog W .any base 22 v) (h : DataW.Trod enc Try.prog W 0 (fun _ => true) true 22 v d p) :
    ∃ A n c xs, v = .slice A n c ∧ RdQ W W.heap.size A n c xs ∧ n ≤ 9223372036854775807 := by
  obtain ⟨A, n, c, rfl⟩ := okWide_slice Try.underlying22 hv
  obtain ⟨fuel, hf⟩ := h
  rcases Deep.open_slice_pairs Try.underlying22 Try.underlying52 (by kernel_rfl) rfl rfl (by kernel_rfl) (by kernel_rfl) hf with ⟨hcs, _⟩ | ⟨a, len, cap, m, n', V0, V1, D0, D1, P0, P1, hcs, _, hl, hm, hmm, _, hcell⟩
  · simp [Value.cells] at hcs
    obtain ⟨rfl, rfl, rfl⟩ := hcs
    exact ⟨none, 0, 0, [], rfl, ⟨rfl, Nat.le_refl _, fun _ => rfl, fun h => absurd h (by omega), by simp⟩, by omega⟩
  · simp [Value.cells] at hcs
    obtain ⟨rfl, rfl, rfl⟩ := hcs
    simp only [if_true] at hmm
    have key : ∀ j, ∃ q : Int × Nat, j < n → W.cell? (a.add (j * 2)) = some (.int .i64 q.1) ∧ W.cell? (a.add (j * 2 + 1)) = some (.int .u64 ((q.2 : Nat) : Int)) ∧ FitQ q := by
      intro j
      by_cases hj : j < n
      · obtain ⟨c1, c2, t1, t2⟩ := hcell j (by omega)
        obtain ⟨x, hx, hx'⟩ := open_i64v t1
        obtain ⟨y, hy, hy'⟩ := open_u64v t2
        rw [hx] at c1
        rw [hy] at c2
        exact ⟨(x, y), fun _ => ⟨c1, c2, hx'.1, hx'.2, hy'⟩⟩
      · exact ⟨(0, 0), fun h => absurd h hj⟩
    obtain ⟨f, hf'⟩ := Classical.axiomOfChoice key
    have hget : ∀ j, j < n → ((List.range n).map f).getD j (0, 0) = f j := by
      intro j hj
      simp [List.getD_eq_getElem?_getD, hj]
    refine ⟨some a, n, c, (List.range n).map f, rfl, ⟨by simp, by omega, (fun h => by cases h), fun hn => ⟨a, rfl, ?_, fun j hj => ?_⟩, ?_⟩, by unfold maxLen at hm; omega⟩
    · have := World.block_lt_of_cell? W _ (hcell 0 (by omega)).1
      rwa [add_block] at this
    · rw [hget j hj]
      exact ⟨(hf' j hj).1, (hf' j hj).2.1⟩
    · intro x hx
      obtain ⟨j, hj, rfl⟩ := List.mem_map.1 hx
      exact (hf' j (List.mem_range.1 hj)).2.2
end

end Go.Proofs.Ytikcclagckcjnaa
