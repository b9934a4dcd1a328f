/-
  Plain facts (no program): many samples in batches, one batch behind the other: what all of them come to.
-/
import Derived.Test.YtnjohmgacmcdnaaDoorBat1
import Derived.Test.YtnjohmgacmcdnaaDoorSlow2
namespace Go.Proofs.YtnjohmgacmcdnaaDoor

/-- j samples were gone over, without an error -/
structure AtQ (z : Int) (p0 : List Bool) (j : Nat) (xs : List (Int × Nat)) (s : KS) (p : List Bool) : Prop where
  bat : Bat z j zeroK p0 xs s p 0
  kind : j = 0 ∨ z = 1 ∨ z = 2
theorem AtQ.zero (z : Int) (p : List Bool) : AtQ z p 0 [] zeroK p := ⟨⟨rfl, rfl, rfl, rfl⟩, .inl rfl⟩
section
variable {z : Int} {p0 p : List Bool} {n j : Nat} {xs ys : List (Int × Nat)} {s s1 : KS} {p1 : List Bool} {e : Nat}
theorem AtQ.same_len (h : AtQ z p0 j xs s p) : xs.length = j ∧ s.May ∧ s.n = j := by
  obtain ⟨_, _, h3, h4, _, h6⟩ := Bat.le zeroK_may h.bat
  have := (h6 rfl).1
  refine ⟨this, h3, ?_⟩
  rw [h4, this]
  simp [zeroK]
/-- up to an error -/
theorem AtQ.err (h : AtQ z p0 j xs s p) (hj : j < n) (hb : BatA z ((n : Int) - (j : Int)) s p ys s1 p1 e) (he : e ≠ 0) : Dec z n zeroK p0 (xs ++ ys) e := by
  rcases hb with ⟨h1, rfl, rfl, rfl⟩ | ⟨_, hb⟩
  · have hj0 : j = 0 := by have := h.kind; omega
    subst hj0
    obtain ⟨rfl, rfl, rfl, _⟩ := h.bat
    obtain ⟨m, rfl⟩ : ∃ m, n = m + 1 := ⟨n - 1, by omega⟩
    exact ⟨badK 6, .inl ⟨h1, rfl⟩, .inl ⟨by simp [badK], rfl, rfl⟩⟩
  · generalize hk : (min ((n : Int) - (j : Int)) 32).toNat = k at hb
    have h2 := (h.bat.then_ hb).stop (n - (j + k)) he
    rw [show j + k + (n - (j + k)) = n by omega] at h2
    exact h2.dec_err he
/-- some more -/
theorem AtQ.more (h : AtQ z p0 j xs s p) (hj : j < n) (hb : BatA z ((n : Int) - (j : Int)) s p ys s1 p1 0) : AtQ z p0 (j + ys.length) (xs ++ ys) s1 p1 ∧ 1 ≤ ys.length ∧ j + ys.length ≤ n := by
  rcases hb with ⟨_, _, _, h4⟩ | ⟨hz, hb⟩
  · cases h4
  · have hl := ((Bat.le h.same_len.2.1 hb).2.2.2.2.2 rfl).1
    generalize hk : (min ((n : Int) - (j : Int)) 32).toNat = k at hb hl
    subst hl
    exact ⟨⟨h.bat.then_ hb, .inr hz⟩, by omega, by omega⟩
theorem AtQ.done (h : AtQ z p0 n xs s p) : Dec z n zeroK p0 xs (tailE p) := h.bat.dec_end
end

end Go.Proofs.YtnjohmgacmcdnaaDoor
