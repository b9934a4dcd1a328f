/-
  Plain facts (no program): decoding, sample by sample: what was gone over, and what is still to come.
-/
import Derived.Test.YtnjohmgacmcdnaaDoorSlow1
namespace Go.Proofs.YtnjohmgacmcdnaaDoor

/-- what decoding of n samples from bytes comes to, whatever the kind and the number -/
def DecA (z : Int) (bs : List Nat) (n : Int) (xs : List (Int × Nat)) (e : Nat) : Prop :=
  ((n < 1 ∨ 65535 < n) ∧ xs = [] ∧ e = 1) ∨ ((1 ≤ n ∧ n ≤ 65535) ∧ Dec z n.toNat zeroK (flat bs) xs e)
theorem DecA.same {z n : Int} {bs : List Nat} {xs xs' : List (Int × Nat)} {e e' : Nat} (h : DecA z bs n xs e) (h' : DecA z bs n xs' e') : xs = xs' ∧ e = e' := by
  rcases h with ⟨h1, rfl, rfl⟩ | ⟨h1, h2⟩
  · rcases h' with ⟨_, rfl, rfl⟩ | ⟨h1', _⟩
    · exact ⟨rfl, rfl⟩
    · exact absurd h1' (by omega)
  · rcases h' with ⟨h1', _⟩ | ⟨_, h2'⟩
    · exact absurd h1 (by omega)
    · exact h2.same h2'
theorem DecA.le {z n : Int} {bs : List Nat} {xs : List (Int × Nat)} {e : Nat} (h : DecA z bs n xs e) : e ≤ 6 := by
  rcases h with ⟨_, rfl, rfl⟩ | ⟨_, h⟩
  · omega
  · exact (Dec.le zeroK_may h).1
theorem DecA.many {z n : Int} {bs : List Nat} {xs : List (Int × Nat)} {e : Nat} (h : DecA z bs n xs e) : xs.length ≤ 100000 := by
  rcases h with ⟨_, rfl, rfl⟩ | ⟨h0, h⟩
  · simp
  · have := (Dec.le zeroK_may h).2.1
    omega
/-- some samples were gone over, r are still to come, from a state on -/
def GoneD (z : Int) (p0 : List Bool) (n : Nat) (xs : List (Int × Nat)) (r : Nat) (s : KS) (p : List Bool) : Prop :=
  ∀ ys e, Dec z r s p ys e → Dec z n zeroK p0 (xs ++ ys) e
section
variable {z : Int} {p0 p : List Bool} {n r : Nat} {xs : List (Int × Nat)} {s : KS}
theorem GoneD.zero (z : Int) (p : List Bool) (n : Nat) : GoneD z p n [] n zeroK p := fun _ _ h => h
theorem GoneD.step (h : GoneD z p0 n xs (r + 1) s p) {g : KA} (hg : KG z s p g) (he : g.e = 0) : GoneD z p0 n (xs ++ [(g.t, g.v)]) r g.s (p.drop g.n) := by
  intro ys e hd
  have := h ((g.t, g.v) :: ys) e ⟨g, hg, .inr ⟨he, ys, rfl, hd⟩⟩
  rw [List.append_assoc]
  exact this
theorem GoneD.err (h : GoneD z p0 n xs (r + 1) s p) {g : KA} (hg : KG z s p g) (he : g.e ≠ 0) : Dec z n zeroK p0 xs g.e := by
  have := h [] g.e ⟨g, hg, .inl ⟨he, rfl, rfl⟩⟩
  rwa [List.append_nil] at this
theorem GoneD.done (h : GoneD z p0 n xs 0 s p) : Dec z n zeroK p0 xs (tailE p) := by
  have := h [] _ ⟨rfl, rfl⟩
  rwa [List.append_nil] at this
theorem tailE_zero (p : List Bool) : tailE p = 0 ∨ tailE p = 3 := by unfold tailE; split; exact .inl rfl; exact .inr rfl
theorem tailE_long (h : 8 ≤ p.length) : tailE p = 3 := by unfold tailE; rw [if_neg (by omega)]
theorem tailE_short (h : p.length < 8) : tailE p = if num p = 0 then 0 else 3 := by
  unfold tailE
  by_cases h0 : num p = 0
  · rw [if_pos ⟨h, h0⟩, if_pos h0]
  · rw [if_neg (fun h => h0 h.2), if_neg h0]
end

end Go.Proofs.YtnjohmgacmcdnaaDoor
