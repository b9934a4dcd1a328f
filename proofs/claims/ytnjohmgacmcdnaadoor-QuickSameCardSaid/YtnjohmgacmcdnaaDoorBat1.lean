/-
  Plain facts (no program): some samples, one behind the other, out of bits: these, the state and the bits behind them, or what is amiss.
-/
import Derived.Test.YtnjohmgacmcdnaaDoorSlow1
namespace Go.Proofs.YtnjohmgacmcdnaaDoor

/-- n samples of bits, from a state on: up to the first error; the state behind them; the bits behind them, if there was none -/
def Bat (z : Int) : Nat → KS → List Bool → List (Int × Nat) → KS → List Bool → Nat → Prop
  | 0, s, p, xs, s', p', e => xs = [] ∧ s' = s ∧ p' = p ∧ e = 0
  | n + 1, s, p, xs, s', p', e => ∃ r, KG z s p r ∧ ((r.e ≠ 0 ∧ xs = [] ∧ s' = s ∧ e = r.e) ∨ (r.e = 0 ∧ ∃ ys, xs = (r.t, r.v) :: ys ∧ Bat z n r.s (p.drop r.n) ys s' p' e))
theorem Bat.same {z : Int} : ∀ {n : Nat} {s : KS} {p : List Bool} {xs xs' : List (Int × Nat)} {s1 s1' : KS} {p1 p1' : List Bool} {e e' : Nat}, Bat z n s p xs s1 p1 e → Bat z n s p xs' s1' p1' e' → xs = xs' ∧ s1 = s1' ∧ e = e' ∧ (e = 0 → p1 = p1')
  | 0, s, p, xs, xs', s1, s1', p1, p1', e, e', ⟨h1, h2, h3, h4⟩, ⟨g1, g2, g3, g4⟩ => ⟨h1.trans g1.symm, h2.trans g2.symm, h4.trans g4.symm, fun _ => h3.trans g3.symm⟩
  | n + 1, s, p, xs, xs', s1, s1', p1, p1', e, e', ⟨r, h1, h2⟩, ⟨r', h1', h2'⟩ => by
    obtain rfl := h1.same h1'
    rcases h2 with ⟨a, rfl, rfl, rfl⟩ | ⟨a, ys, rfl, b⟩ <;> rcases h2' with ⟨a', rfl, rfl, rfl⟩ | ⟨a', ys', rfl, b'⟩
    · exact ⟨rfl, rfl, rfl, fun h => absurd h a⟩
    · exact absurd a' a
    · exact absurd a a'
    · obtain ⟨rfl, rfl, rfl, h⟩ := b.same b'
      exact ⟨rfl, rfl, rfl, h⟩
theorem Bat.le {z : Int} : ∀ {n : Nat} {s : KS} {p : List Bool} {xs : List (Int × Nat)} {s1 : KS} {p1 : List Bool} {e : Nat}, s.May → Bat z n s p xs s1 p1 e →
    e ≤ 6 ∧ xs.length ≤ n ∧ s1.May ∧ s1.n = s.n + xs.length ∧ (∀ x ∈ xs, (-9223372036854775808 ≤ x.1 ∧ x.1 ≤ 9223372036854775807) ∧ x.2 ≤ 18446744073709551615) ∧ (e = 0 → xs.length = n ∧ ∃ k, p1 = p.drop k ∧ k ≤ p.length ∧ 2 * n ≤ k)
  | 0, s, p, xs, s1, p1, e, hs, ⟨h1, h2, h3, h4⟩ => by
    subst h1 h2 h3 h4
    exact ⟨by omega, by simp, hs, by simp, by simp, fun _ => ⟨rfl, 0, by simp, by omega, by omega⟩⟩
  | n + 1, s, p, xs, s1, p1, e, hs, ⟨r, h1, h2⟩ => by
    have hi := kg_in hs h1
    rcases h2 with ⟨a, rfl, rfl, rfl⟩ | ⟨a, ys, rfl, b⟩
    · exact ⟨hi.2.2.2.2.1, by simp, hs, by simp, by simp, fun h => absurd h a⟩
    · obtain ⟨g1, g2, g3, g4, g5, g6⟩ := Bat.le hi.2.2.1 b
      obtain ⟨i1, i2, i3⟩ := hi.2.2.2.2.2 a
      refine ⟨g1, by simp; omega, g3, by simp; omega, fun x hx => ?_, fun h => ?_⟩
      · rcases List.mem_cons.1 hx with rfl | hx
        · exact ⟨hi.1, hi.2.1⟩
        · exact g5 x hx
      · obtain ⟨j1, k, j2, j3, j4⟩ := g6 h
        rw [List.length_drop] at j3
        exact ⟨by simp [j1], r.n + k, by rw [j2, List.drop_drop], by omega, by omega⟩
/-- some, and then some more -/
theorem Bat.then_ {z : Int} : ∀ {n m : Nat} {s : KS} {p : List Bool} {xs ys : List (Int × Nat)} {s1 s2 : KS} {p1 p2 : List Bool} {e : Nat}, Bat z n s p xs s1 p1 0 → Bat z m s1 p1 ys s2 p2 e → Bat z (n + m) s p (xs ++ ys) s2 p2 e
  | 0, m, s, p, xs, ys, s1, s2, p1, p2, e, ⟨h1, h2, h3, _⟩, h => by
    subst h1 h2 h3
    rw [Nat.zero_add]
    exact h
  | n + 1, m, s, p, xs, ys, s1, s2, p1, p2, e, ⟨r, h1, h2⟩, h => by
    rcases h2 with ⟨a, _, _, h3⟩ | ⟨a, zs, rfl, b⟩
    · exact absurd h3.symm a
    · rw [show n + 1 + m = (n + m) + 1 by omega]
      exact ⟨r, h1, .inr ⟨a, zs ++ ys, rfl, b.then_ h⟩⟩
/-- some, up to an error: more are no others -/
theorem Bat.stop {z : Int} : ∀ {n : Nat} (m : Nat) {s : KS} {p : List Bool} {xs : List (Int × Nat)} {s1 : KS} {p1 : List Bool} {e : Nat}, Bat z n s p xs s1 p1 e → e ≠ 0 → Bat z (n + m) s p xs s1 p1 e
  | 0, m, s, p, xs, s1, p1, e, ⟨_, _, _, h⟩, he => absurd h he
  | n + 1, m, s, p, xs, s1, p1, e, ⟨r, h1, h2⟩, he => by
    rw [show n + 1 + m = (n + m) + 1 by omega]
    rcases h2 with h2 | ⟨a, zs, rfl, b⟩
    · exact ⟨r, h1, .inl h2⟩
    · exact ⟨r, h1, .inr ⟨a, zs, rfl, b.stop m he⟩⟩
/-- decoded: an error's -/
theorem Bat.dec_err {z : Int} : ∀ {n : Nat} {s : KS} {p : List Bool} {xs : List (Int × Nat)} {s1 : KS} {p1 : List Bool} {e : Nat}, Bat z n s p xs s1 p1 e → e ≠ 0 → Dec z n s p xs e
  | 0, s, p, xs, s1, p1, e, ⟨_, _, _, h⟩, he => absurd h he
  | n + 1, s, p, xs, s1, p1, e, ⟨r, h1, h2⟩, he => by
    rcases h2 with ⟨a, h2, _, h3⟩ | ⟨a, zs, rfl, b⟩
    · exact ⟨r, h1, .inl ⟨a, h2, h3⟩⟩
    · exact ⟨r, h1, .inr ⟨a, zs, rfl, b.dec_err he⟩⟩
/-- decoded: what is behind them tells -/
theorem Bat.dec_end {z : Int} : ∀ {n : Nat} {s : KS} {p : List Bool} {xs : List (Int × Nat)} {s1 : KS} {p1 : List Bool}, Bat z n s p xs s1 p1 0 → Dec z n s p xs (tailE p1)
  | 0, s, p, xs, s1, p1, ⟨h1, h2, h3, _⟩ => by
    subst h1 h2 h3
    exact ⟨rfl, rfl⟩
  | n + 1, s, p, xs, s1, p1, ⟨r, h1, h2⟩ => by
    rcases h2 with ⟨a, _, _, h3⟩ | ⟨a, zs, rfl, b⟩
    · exact absurd h3.symm a
    · exact ⟨r, h1, .inr ⟨a, zs, rfl, b.dec_end⟩⟩
/-- some samples were gone over, r are still to come -/
def GoneB (z : Int) (s0 : KS) (p0 : List Bool) (n : Nat) (xs : List (Int × Nat)) (r : Nat) (s : KS) (p : List Bool) : Prop :=
  ∀ ys s1 p1 e, Bat z r s p ys s1 p1 e → Bat z n s0 p0 (xs ++ ys) s1 p1 e
section
variable {z : Int} {s0 s : KS} {p0 p : List Bool} {n r : Nat} {xs : List (Int × Nat)}
theorem GoneB.zero (z : Int) (s : KS) (p : List Bool) (n : Nat) : GoneB z s p n [] n s p := fun _ _ _ _ h => h
theorem GoneB.step (h : GoneB z s0 p0 n xs (r + 1) s p) {g : KA} (hg : KG z s p g) (he : g.e = 0) : GoneB z s0 p0 n (xs ++ [(g.t, g.v)]) r g.s (p.drop g.n) := by
  intro ys s1 p1 e hd
  have := h ((g.t, g.v) :: ys) s1 p1 e ⟨g, hg, .inr ⟨he, ys, rfl, hd⟩⟩
  rw [List.append_assoc]
  exact this
theorem GoneB.err (h : GoneB z s0 p0 n xs (r + 1) s p) {g : KA} (hg : KG z s p g) (he : g.e ≠ 0) (p1 : List Bool) : Bat z n s0 p0 xs s p1 g.e := by
  have := h [] s p1 g.e ⟨g, hg, .inl ⟨he, rfl, rfl, rfl⟩⟩
  rwa [List.append_nil] at this
theorem GoneB.done (h : GoneB z s0 p0 n xs 0 s p) : Bat z n s0 p0 xs s p 0 := by
  have := h [] s p 0 ⟨rfl, rfl, rfl, rfl⟩
  rwa [List.append_nil] at this
end
/-- what Next comes to, whatever the kind and the number -/
def BatA (z : Int) (n : Int) (s : KS) (p : List Bool) (xs : List (Int × Nat)) (s1 : KS) (p1 : List Bool) (e : Nat) : Prop :=
  ((z ≠ 1 ∧ z ≠ 2) ∧ xs = [] ∧ s1 = s ∧ e = 6) ∨ ((z = 1 ∨ z = 2) ∧ Bat z (min n 32).toNat s p xs s1 p1 e)
theorem BatA.same {z n : Int} {s : KS} {p : List Bool} {xs xs' : List (Int × Nat)} {s1 s1' : KS} {p1 p1' : List Bool} {e e' : Nat} (h : BatA z n s p xs s1 p1 e) (h' : BatA z n s p xs' s1' p1' e') : xs = xs' ∧ s1 = s1' ∧ e = e' ∧ (e = 0 → p1 = p1') := by
  rcases h with ⟨h1, rfl, rfl, rfl⟩ | ⟨h1, h⟩ <;> rcases h' with ⟨h1', rfl, rfl, rfl⟩ | ⟨h1', h'⟩
  · exact ⟨rfl, rfl, rfl, fun h => absurd h (by omega)⟩
  · exact absurd h1' (by omega)
  · exact absurd h1 (by omega)
  · exact h.same h'

end Go.Proofs.YtnjohmgacmcdnaaDoor
