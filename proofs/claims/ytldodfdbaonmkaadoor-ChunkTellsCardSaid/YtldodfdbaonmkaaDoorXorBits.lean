/-
  Plain facts (no program): values' codes, one behind the other, and the states behind them; each is got again.
-/
import Derived.Test.YtldodfdbaonmkaaDoorXor1
namespace Go.Proofs.YtldodfdbaonmkaaDoor

/-- the state behind the first k values -/
def stX (vs : List Nat) : Nat → XS
  | 0 => zeroX
  | k + 1 => nextX (stX vs k) (vs.getD k 0)
/-- their codes -/
def cdX (vs : List Nat) : Nat → List Bool
  | 0 => []
  | k + 1 => cdX vs k ++ codeX (stX vs k) (vs.getD k 0)

theorem valX_le {vs : List Nat} (h : ∀ x ∈ vs, x ≤ 18446744073709551615) (k : Nat) : vs.getD k 0 ≤ 18446744073709551615 := by
  rw [List.getD_eq_getElem?_getD]
  cases e : vs[k]? with
  | none => simp
  | some x => exact h x (List.mem_of_getElem? e)
theorem stX_may {vs : List Nat} (h : ∀ x ∈ vs, x ≤ 18446744073709551615) : ∀ k, (stX vs k).May
  | 0 => zeroX_may
  | k + 1 => nextX_may (stX_may h k) (valX_le h k)
theorem cdX_le {vs : List Nat} (h : ∀ x ∈ vs, x ≤ 18446744073709551615) : ∀ k, (cdX vs k).length ≤ 78 * k
  | 0 => by simp [cdX]
  | k + 1 => by
    have h1 := cdX_le h k
    have h2 := (codeX_pos (stX_may h k) (valX_le h k)).2
    unfold cdX
    rw [List.length_append]
    omega
theorem cdX_more (vs : List Nat) {k : Nat} : ∀ {n}, k ≤ n → ∃ q, cdX vs n = cdX vs k ++ q
  | 0, h => by
    obtain rfl : k = 0 := by omega
    exact ⟨[], by simp⟩
  | n + 1, h => by
    by_cases e : k = n + 1
    · subst e
      exact ⟨[], by simp⟩
    · obtain ⟨q, hq⟩ := cdX_more vs (k := k) (n := n) (by omega)
      exact ⟨q ++ codeX (stX vs n) (vs.getD n 0), by rw [← List.append_assoc, ← hq]; rfl⟩
/-- a part of bits that were packed, from a place on -/
theorem rest_amid (p c q r : List Bool) (a : Nat) (hr : r = p ++ c ++ q) (ha : p.length = a) : ∃ s, restL (pack r) (a : Int) = c ++ s := by
  subst ha
  have h2 : flat (pack r) = r ++ (flat (pack r)).drop r.length := by
    have := List.take_append_drop r.length (flat (pack r))
    rw [take_flat_pack] at this
    exact this.symm
  have h3 : p.length ≤ 8 * (pack r).length := by
    rw [pack_length, hr, List.length_append, List.length_append]; omega
  rw [restL_yes h3]
  refine ⟨q ++ (flat (pack r)).drop r.length, ?_⟩
  conv => lhs; rw [h2]
  generalize (flat (pack r)).drop r.length = s
  subst hr
  rw [List.append_assoc, List.append_assoc, List.drop_left]
/-- the k-th value's code is got, amid all bits -/
theorem back_x {vs : List Nat} (h : ∀ x ∈ vs, x ≤ 18446744073709551615) {k n : Nat} (hk : k < n) (l t r : List Bool) (a : Nat) (hr : r = l ++ cdX vs n ++ t) (ha : (l ++ cdX vs k).length = a) :
    getX (stX vs k) (restL (pack r) (a : Int)) = ⟨vs.getD k 0, stX vs (k + 1), (codeX (stX vs k) (vs.getD k 0)).length, 0⟩ := by
  obtain ⟨q, hq⟩ := cdX_more vs (k := k + 1) (n := n) (by omega)
  obtain ⟨s, hs⟩ := rest_amid (l ++ cdX vs k) (codeX (stX vs k) (vs.getD k 0)) (q ++ t) r a (by
    rw [hr, hq]
    show l ++ ((cdX vs k ++ codeX (stX vs k) (vs.getD k 0)) ++ q) ++ t = _
    simp [List.append_assoc]) ha
  rw [hs]
  exact getX_put (stX_may h k) (valX_le h k) s

end Go.Proofs.YtldodfdbaonmkaaDoor
