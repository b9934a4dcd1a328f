/-
  Plain facts (no program): samples' bits, one behind the other, and the states behind them; each is got again.
-/
import Derived.Test.YtldodfdbaonmkaaDoorKin1
import Derived.Test.YtldodfdbaonmkaaDoorXorBits
namespace Go.Proofs.YtldodfdbaonmkaaDoor

/-- the state behind the first j samples -/
def stK (k : Nat) (xs : List (Int × Nat)) : Nat → KS
  | 0 => zeroK
  | j + 1 => nextK k (stK k xs j) (xs.getD j (0, 0)).1 (xs.getD j (0, 0)).2
/-- their bits -/
def cdK (k : Nat) (xs : List (Int × Nat)) : Nat → List Bool
  | 0 => []
  | j + 1 => cdK k xs j ++ putK k (stK k xs j) (xs.getD j (0, 0)).1 (xs.getD j (0, 0)).2

/-- samples of two numbers that fit -/
def AllQ (xs : List (Int × Nat)) : Prop := ∀ j, (-9223372036854775808 ≤ (xs.getD j (0, 0)).1 ∧ (xs.getD j (0, 0)).1 ≤ 9223372036854775807) ∧ (xs.getD j (0, 0)).2 ≤ 18446744073709551615
section
variable {k : Nat} {xs : List (Int × Nat)}
theorem stK_may (h : AllQ xs) : ∀ j, (stK k xs j).May
  | 0 => zeroK_may
  | j + 1 => nextK_may (stK_may h j) (h j).1 (h j).2
theorem stK_n : ∀ j, (stK k xs j).n = j
  | 0 => rfl
  | j + 1 => by
    unfold stK nextK
    rw [afterK_n, stK_n j]
theorem afterK_t (s : KS) (t : Int) (v : Nat) (y : XS) : (afterK k s t v y).t = t := by
  unfold afterK
  split <;> rfl
theorem stK_t (j : Nat) : (stK k xs (j + 1)).t = (xs.getD j (0, 0)).1 := by
  unfold stK nextK
  rw [afterK_t]
theorem stK_rises (h : ∀ i, i + 1 < xs.length → (xs.getD i (0, 0)).1 < (xs.getD (i + 1) (0, 0)).1) {j : Nat} (hj : j < xs.length) : risesK (stK k xs j) (xs.getD j (0, 0)).1 = true := by
  unfold risesK
  cases j with
  | zero => simp [stK, zeroK]
  | succ i =>
    rw [stK_t]
    have := h i hj
    rw [Bool.or_eq_true]
    exact .inr (decide_eq_true this)
theorem cdK_le (h : AllQ xs) : ∀ j, (cdK k xs j).length ≤ 146 * j
  | 0 => by simp [cdK]
  | j + 1 => by
    have h1 := cdK_le h j
    have h2 := (putK_len (k := k) (t := (xs.getD j (0, 0)).1) (stK_may (k := k) h j) (h j).2).2
    unfold cdK
    rw [List.length_append]
    omega
theorem cdK_more {j : Nat} : ∀ {n}, j ≤ n → ∃ q, cdK k xs n = cdK k xs j ++ q
  | 0, h => by
    obtain rfl : j = 0 := by omega
    exact ⟨[], by simp⟩
  | n + 1, h => by
    by_cases e : j = n + 1
    · subst e
      exact ⟨[], by simp⟩
    · obtain ⟨q, hq⟩ := cdK_more (j := j) (n := n) (by omega)
      exact ⟨q ++ putK k (stK k xs n) (xs.getD n (0, 0)).1 (xs.getD n (0, 0)).2, by rw [← List.append_assoc, ← hq]; rfl⟩
/-- the j-th sample's bits are got, amid all bits -/
theorem back_k (h : AllQ xs) (hr : ∀ i, i + 1 < xs.length → (xs.getD i (0, 0)).1 < (xs.getD (i + 1) (0, 0)).1) {j n : Nat} (hj : j < xs.length) (hn : j < n) (l t r : List Bool) (a : Nat) (hq : r = l ++ cdK k xs n ++ t) (ha : (l ++ cdK k xs j).length = a) :
    KGets k (stK k xs j) (restL (pack r) (a : Int)) ⟨(xs.getD j (0, 0)).1, (xs.getD j (0, 0)).2, stK k xs (j + 1), (putK k (stK k xs j) (xs.getD j (0, 0)).1 (xs.getD j (0, 0)).2).length, 0⟩ := by
  obtain ⟨q, hq'⟩ := cdK_more (k := k) (xs := xs) (j := j + 1) (n := n) (by omega)
  obtain ⟨s, hs⟩ := rest_amid (l ++ cdK k xs j) (putK k (stK k xs j) (xs.getD j (0, 0)).1 (xs.getD j (0, 0)).2) (q ++ t) r a (by
    rw [hq, hq']
    show l ++ ((cdK k xs j ++ putK k (stK k xs j) (xs.getD j (0, 0)).1 (xs.getD j (0, 0)).2) ++ q) ++ t = _
    simp [List.append_assoc]) ha
  rw [hs]
  exact kgets_put (stK_may h j) (h j).1 (h j).2 (stK_rises hr hj) s
end

end Go.Proofs.YtldodfdbaonmkaaDoor
