/-
  Strings made of bytes, held against each other.
-/
import Derived.Test.YtgmnhfkmneohcaaMem
namespace Go.Proofs.Ytgmnhfkmneohcaa

theorem str_other {a b : ByteArray} (h : a ≠ b) : (a.toList == b.toList) = false := by
  rw [ByteArray.toList_eq, ByteArray.toList_eq]
  refine beq_eq_false_iff_ne.mpr (fun g => h ?_)
  cases a; cases b
  exact congrArg ByteArray.mk (Array.toList_inj.1 g)
theorem strB_inj {p q : List Nat} (hp : ∀ x ∈ p, x < 256) (hq : ∀ x ∈ q, x < 256) (h : strB p = strB q) : p = q := by
  unfold strB at h
  injection h with h
  have h2 := congrArg Array.toList h
  simp only at h2
  have h3 := congrArg (List.map UInt8.toNat) h2
  rw [List.map_map, List.map_map] at h3
  have key : ∀ l : List Nat, (∀ x ∈ l, x < 256) → l.map (UInt8.toNat ∘ UInt8.ofNat) = l := by
    intro l hl
    rw [List.map_congr_left (g := id) (fun x hx => by simp; have := hl x hx; omega), List.map_id]
  rwa [key p hp, key q hq] at h3
theorem strB_other {p q : List Nat} (hp : ∀ x ∈ p, x < 256) (hq : ∀ x ∈ q, x < 256) (h : p ≠ q) : ((strB p).toList == (strB q).toList) = false := str_other (fun e => h (strB_inj hp hq e))

end Go.Proofs.Ytgmnhfkmneohcaa
