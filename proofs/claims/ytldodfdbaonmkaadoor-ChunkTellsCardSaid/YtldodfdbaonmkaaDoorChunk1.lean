/-
  Plain facts (no program): the bits of many samples, one behind the other: unlike samples have unlike bytes; a beginning has no more.
-/
import Derived.Test.YtldodfdbaonmkaaDoorKinBits
namespace Go.Proofs.YtldodfdbaonmkaaDoor

theorem getD_takeQ (xs : List (Int × Nat)) {i m : Nat} (h : i < m) : (xs.take m).getD i (0, 0) = xs.getD i (0, 0) := by
  simp only [List.getD_eq_getElem?_getD, List.getElem?_take_of_lt h]
section
variable {k : Nat} {xs ys : List (Int × Nat)}
theorem stK_take {m : Nat} : ∀ {j}, j ≤ m → stK k (xs.take m) j = stK k xs j
  | 0, _ => rfl
  | j + 1, h => by
    unfold stK
    rw [stK_take (by omega), getD_takeQ xs (by omega)]
theorem cdK_take {m : Nat} : ∀ {j}, j ≤ m → cdK k (xs.take m) j = cdK k xs j
  | 0, _ => rfl
  | j + 1, h => by
    unfold cdK
    rw [cdK_take (by omega), stK_take (by omega), getD_takeQ xs (by omega)]
theorem AllQ.take (h : AllQ xs) (m : Nat) : AllQ (xs.take m) := by
  intro j
  by_cases hj : j < m
  · rw [getD_takeQ xs hj]; exact h j
  · rw [List.getD_eq_getElem?_getD, List.getElem?_eq_none (by rw [List.length_take]; omega)]
    exact ⟨by simp, by simp⟩
theorem putK_first (t : Int) (v : Nat) : (putK k zeroK t v).length = 128 := by
  unfold putK timeK valK
  rw [List.length_append, if_pos (show zeroK.n = 0 from rfl), if_pos (show zeroK.n = 0 from rfl), low_length, low_length]
/-- the first sample alone has 128 bits -/
theorem cdK_first {n : Nat} (h : 1 ≤ n) : 128 ≤ (cdK k xs n).length := by
  obtain ⟨q, hq⟩ := cdK_more (k := k) (xs := xs) (j := 1) (n := n) h
  rw [hq, List.length_append]
  have : (cdK k xs 1).length = 128 := by
    show ([] ++ putK k zeroK _ _).length = 128
    rw [List.nil_append, putK_first]
  omega
theorem cdK_mono {j n : Nat} (h : j ≤ n) : (cdK k xs j).length ≤ (cdK k xs n).length := by
  obtain ⟨q, hq⟩ := cdK_more (k := k) (xs := xs) h
  rw [hq, List.length_append]
  omega
/-- the times rise -/
def Rises (xs : List (Int × Nat)) : Prop := ∀ i, i + 1 < xs.length → (xs.getD i (0, 0)).1 < (xs.getD (i + 1) (0, 0)).1
theorem Rises.take (h : Rises xs) (m : Nat) : Rises (xs.take m) := by
  intro i hi
  rw [List.length_take] at hi
  rw [getD_takeQ xs (by omega), getD_takeQ xs (by omega)]
  exact h i (by omega)
/-- as many samples whose bytes are the same are the same -/
theorem chunk_same (hx : AllQ xs) (hy : AllQ ys) (rx : Rises xs) (ry : Rises ys) {n : Nat} (lx : xs.length = n) (ly : ys.length = n) (hp : pack (cdK k xs n) = pack (cdK k ys n)) : xs = ys := by
  have key : ∀ j, j ≤ n → stK k xs j = stK k ys j ∧ cdK k xs j = cdK k ys j ∧ ∀ i, i < j → xs.getD i (0, 0) = ys.getD i (0, 0) := by
    intro j
    induction j with
    | zero => exact fun _ => ⟨rfl, rfl, fun i h => absurd h (by omega)⟩
    | succ j ih =>
      intro hj
      obtain ⟨h1, h2, h3⟩ := ih (by omega)
      have b1 := back_k (k := k) hx rx (j := j) (n := n) (by omega) (by omega) [] [] (cdK k xs n) (cdK k xs j).length (by simp) (by simp)
      have b2 := back_k (k := k) hy ry (j := j) (n := n) (by omega) (by omega) [] [] (cdK k ys n) (cdK k ys j).length (by simp) (by simp)
      rw [← hp, ← h2, ← h1] at b2
      have e := b1.same b2
      injection e with e1 e2 e3 e4
      have e5 : xs.getD j (0, 0) = ys.getD j (0, 0) := Prod.ext e1 e2
      refine ⟨e3, ?_, fun i hi => ?_⟩
      · show cdK k xs j ++ putK k (stK k xs j) _ _ = cdK k ys j ++ putK k (stK k ys j) _ _
        rw [h2, h1, e5]
      · by_cases hij : i = j
        · subst hij; exact e5
        · exact h3 i (by omega)
  obtain ⟨_, _, h⟩ := key n (Nat.le_refl _)
  apply List.ext_getElem (by omega)
  intro i h1 h2
  have := h i (by omega)
  simpa [List.getD_eq_getElem?_getD, h1, h2] using this
end

end Go.Proofs.YtldodfdbaonmkaaDoor
