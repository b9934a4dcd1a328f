/-
  An argument of a law, some bytes: what it weighs bounds how many they are.
-/
import Derived.Test.YtaebljoacffghaaGreatDoorWords
import Derived.Lib.SmallJoins
import Derived.Test.YtaebljoacffghaaGreatDoorRows
namespace Go.Proofs.YtaebljoacffghaaGreatDoor
open Go.ChangeShapes Go.WideShapes Go.ChangeAt Go.RowKit

set_option maxRecDepth 100000 in
theorem bytes_reach {H : Type} {enc : TypeId × Value → H} {W : World} {base : Nat} {v : Value} {d : DataW H} {p : List MemPlace} (hv : Value.okWide Tryz.prog W .any base 22 v) (h : DataW.Trod enc Tryz.prog W 0 (fun _ => true) true 22 v d p)
    (hz : (d.weights Tryz.prog 22).all (· ≤ reachBytes) = true) {A : Option Addr} {n c : Nat} (e : v = .slice A n c) : n ≤ 140737488355328 := by
  subst e
  obtain ⟨fuel, hf⟩ := h
  rcases open_ints Tryz.underlying22 Tryz.underlying5 Tryz.cellsB hf with ⟨hcs, _⟩ | ⟨a, len, cap, zs, hcs, _, hl, _, hlen, hx, _, _⟩
  · simp [Value.cells] at hcs
    omega
  · simp [Value.cells] at hcs
    obtain ⟨_, rfl, rfl⟩ := hcs
    simp only [Prod.mk.injEq] at hx
    obtain ⟨rfl, _⟩ := hx
    have hy : Tryz.prog.bytesOf 5 = 1 := by kernel_rfl
    have h2 := of_decide_eq_true (List.all_eq_true.1 hz (((lits .u8 (zs.take n)).length + (lits .u8 (zs.drop n)).length) * Tryz.prog.bytesOf 5) (by unfold DataW.weights; rw [Tryz.underlying22]; exact .head _))
    rw [hy] at h2
    have h3 : zs.length = c := by simpa using hlen
    simp [lits, reachBytes] at h2
    omega

end Go.Proofs.YtaebljoacffghaaGreatDoor
