/-
  Plain facts (no program): what is taken from the a-th bit on; n bits with 0s behind the last one; the number of eight bytes.
-/
import Derived.Test.YtldodfdbaonmkaaDoorBits1
namespace Go.Proofs.YtldodfdbaonmkaaDoor

/-- are there n bits from the a-th on? -/
def takeB (bs : List Nat) (a n : Int) : Bool := decide (0 ≤ n ∧ n ≤ 64 ∧ 0 ≤ a ∧ a + n ≤ 8 * (bs.length : Int))
/-- their number, or 0 -/
def takeN (bs : List Nat) (a n : Int) : Nat := if takeB bs a n then num (cut (flat bs) a.toNat n.toNat) else 0
theorem takeB_no {bs : List Nat} {a n : Int} (h : ¬ (0 ≤ n ∧ n ≤ 64 ∧ 0 ≤ a ∧ a + n ≤ 8 * (bs.length : Int))) : takeB bs a n = false ∧ takeN bs a n = 0 := by
  have h1 : takeB bs a n = false := by unfold takeB; exact decide_eq_false h
  exact ⟨h1, by unfold takeN; rw [h1]; rfl⟩
theorem takeB_yes {bs : List Nat} {a n : Nat} (h1 : n ≤ 64) (h2 : a + n ≤ 8 * bs.length) : takeB bs a n = true ∧ takeN bs a n = num (cut (flat bs) a n) := by
  have h : takeB bs a n = true := by unfold takeB; exact decide_eq_true (by omega)
  exact ⟨h, by unfold takeN; rw [h]; rfl⟩

/-- n bits from the a-th on, those behind the last one being 0 -/
def ext (p : List Bool) (a n : Nat) : List Bool := (List.range n).map fun j => p.getD (a + j) false
theorem ext_length (p : List Bool) (a n : Nat) : (ext p a n).length = n := by simp [ext]
theorem ext_getD (p : List Bool) (a n i : Nat) (h : i < n) : (ext p a n).getD i false = p.getD (a + i) false := by simp [ext, List.getD_eq_getElem?_getD, h]
theorem ext_cut (p : List Bool) (a n : Nat) (h : a + n ≤ p.length) : ext p a n = cut p a n := by
  apply getD_ext
  · rw [ext_length, cut_length _ _ _ h]
  · intro i hi
    rw [ext_length] at hi
    rw [ext_getD _ _ _ _ hi, cut_getD _ _ _ _ hi]
theorem ext_zeros (p : List Bool) (a n z : Nat) (hn : n ≤ z) : ((p.drop a) ++ List.replicate z false).take n = ext p a n := by
  apply getD_ext
  · rw [ext_length, List.length_take, List.length_append, List.length_replicate]; omega
  · intro i hi
    rw [List.length_take, List.length_append, List.length_replicate] at hi
    rw [ext_getD _ _ _ _ (by omega), List.getD_eq_getElem?_getD, List.getElem?_take_of_lt (by omega), List.getD_eq_getElem?_getD]
    by_cases h : a + i < p.length
    · rw [List.getElem?_append_left (by rw [List.length_drop]; omega), List.getElem?_drop]
    · rw [List.getElem?_append_right (by rw [List.length_drop]; omega), List.getElem?_eq_none (l := p) (by omega), List.getElem?_replicate]
      split <;> rfl
/-- the number of the first eight bytes, those behind the last one being 0 -/
def word (bs : List Nat) : Nat := num (ext (flat bs) 0 64)
theorem word_testBit (bs : List Nat) (j : Nat) : (word bs).testBit j = (decide (j < 64) && bit bs (63 - j)) := by
  unfold word
  rw [num_testBit, ext_length]
  by_cases h : j < 64
  · rw [ext_getD _ _ _ _ (by omega), flat_getD]
    have : 0 + (64 - 1 - j) = 63 - j := by omega
    rw [this]
  · simp [h]
theorem word_lt (bs : List Nat) : word bs ≤ 18446744073709551615 := by
  have := num_lt (ext (flat bs) 0 64)
  rw [ext_length] at this
  unfold word
  omega
theorem word_nil : word [] = 0 := by decide +kernel
theorem getD_head (l : List Nat) (k i : Nat) : (l.take k).getD i 0 = if i < k then l.getD i 0 else 0 := by
  split
  · rw [List.getD_eq_getElem?_getD, List.getElem?_take_of_lt (by omega), List.getD_eq_getElem?_getD]
  · rw [List.getD_eq_getElem?_getD, List.getElem?_eq_none (by rw [List.length_take]; omega)]
    rfl
theorem bit_high {x j : Nat} (h : x < 256) (hj : 8 ≤ j) : x.testBit j = false := by
  apply Nat.testBit_lt_two_pow
  have := Nat.pow_le_pow_right (n := 2) (by omega) hj
  omega
theorem word_step (bs : List Nat) (k : Nat) (hk : k < 8) (hb : ∀ x ∈ bs, x < 256) : word (bs.take (k + 1)) = word (bs.take k) ||| bs.getD k 0 * 2 ^ (56 - 8 * k) := by
  have hx := getD_lt hb k
  apply Nat.eq_of_testBit_eq
  intro j
  rw [Nat.testBit_or, word_testBit, word_testBit, Nat.testBit_mul_two_pow]
  unfold bit
  rw [getD_head, getD_head]
  by_cases h : j < 64
  · rcases Nat.lt_trichotomy ((63 - j) / 8) k with h1 | h1 | h1
    · rw [if_pos (by omega), if_pos h1, bit_high hx (by omega)]
      simp [h]
    · rw [if_pos (by omega), if_neg (by omega), h1]
      have e : 7 - (63 - j) % 8 = j - (56 - 8 * k) := by omega
      have e2 : 56 - 8 * k ≤ j := by omega
      simp [h, e, e2]
    · rw [if_neg (by omega), if_neg (by omega)]
      have e2 : ¬ 56 - 8 * k ≤ j := by omega
      simp [e2]
  · rw [bit_high hx (by omega)]
    simp [h]
theorem word_take (bs : List Nat) : word (bs.take 8) = word bs := by
  apply Nat.eq_of_testBit_eq
  intro j
  rw [word_testBit, word_testBit]
  unfold bit
  rw [getD_head]
  by_cases h : j < 64
  · rw [if_pos (by omega)]
  · simp [h]
/-- eight bytes, one by one -/
theorem word_eight (bs : List Nat) (hb : ∀ x ∈ bs, x < 256) :
    bs.getD 0 0 * 2 ^ 56 ||| bs.getD 1 0 * 2 ^ 48 ||| bs.getD 2 0 * 2 ^ 40 ||| bs.getD 3 0 * 2 ^ 32 ||| bs.getD 4 0 * 2 ^ 24 ||| bs.getD 5 0 * 2 ^ 16 ||| bs.getD 6 0 * 2 ^ 8 ||| bs.getD 7 0 = word bs := by
  have h := word_take bs
  rw [word_step bs 7 (by omega) hb, word_step bs 6 (by omega) hb, word_step bs 5 (by omega) hb, word_step bs 4 (by omega) hb, word_step bs 3 (by omega) hb, word_step bs 2 (by omega) hb, word_step bs 1 (by omega) hb, word_step bs 0 (by omega) hb] at h
  rw [← h, List.take_zero, word_nil]
  simp
theorem bit_drop (bs : List Nat) (k i : Nat) : bit (bs.drop k) i = bit bs (8 * k + i) := by
  unfold bit
  rw [List.getD_eq_getElem?_getD, List.getElem?_drop, ← List.getD_eq_getElem?_getD]
  have e1 : (8 * k + i) / 8 = k + i / 8 := by omega
  have e2 : (8 * k + i) % 8 = i % 8 := by omega
  rw [e1, e2]
/-- the next n bits out of the eight bytes from that of the next bit on -/
theorem word_peek (bs : List Nat) (a n : Nat) (h : n ≤ 56) : word (bs.drop (a / 8)) * 2 ^ (a % 8) % 18446744073709551616 / 2 ^ (64 - n) = num (ext (flat bs) a n) := by
  apply Nat.eq_of_testBit_eq
  intro j
  rw [show (18446744073709551616 : Nat) = 2 ^ 64 from rfl, Nat.testBit_div_two_pow, Nat.testBit_mod_two_pow, Nat.testBit_mul_two_pow, word_testBit, num_testBit, ext_length]
  by_cases h1 : j < n
  · rw [ext_getD _ _ _ _ (by omega), flat_getD, bit_drop]
    have e1 : a % 8 ≤ j + (64 - n) := by omega
    have e2 : j + (64 - n) < 64 := by omega
    have e3 : j + (64 - n) - a % 8 < 64 := by omega
    have e4 : 8 * (a / 8) + (63 - (j + (64 - n) - a % 8)) = a + (n - 1 - j) := by omega
    simp [h1, e1, e2, e3, e4]
  · have e2 : ¬ j + (64 - n) < 64 := by omega
    simp [h1, e2]
/-- a number of more bits as two -/
theorem num_app (p q : List Bool) : num (p ++ q) = num p * 2 ^ q.length + num q := by
  refine snoc_ind (P := fun q => num (p ++ q) = num p * 2 ^ q.length + num q) ?_ ?_ q
  · simp [num_nil]
  · intro q b ih
    rw [← List.append_assoc, num_snoc, num_snoc, ih, List.length_append, List.length_singleton, Nat.pow_succ, Nat.mul_add, ← Nat.mul_assoc, Nat.mul_comm 2 (num p), Nat.mul_assoc (num p), Nat.mul_comm 2 (2 ^ q.length), Nat.add_assoc]
theorem ext_app (p : List Bool) (a n m : Nat) : ext p a n ++ ext p (a + n) m = ext p a (n + m) := by
  apply getD_ext
  · simp [ext_length]
  · intro i hi
    rw [List.length_append, ext_length, ext_length] at hi
    rw [ext_getD p a (n + m) i hi]
    by_cases h : i < n
    · rw [List.getD_eq_getElem?_getD, List.getElem?_append_left (by rw [ext_length]; exact h), ← List.getD_eq_getElem?_getD, ext_getD _ _ _ _ h]
    · rw [List.getD_eq_getElem?_getD, List.getElem?_append_right (by rw [ext_length]; omega), ← List.getD_eq_getElem?_getD, ext_length, ext_getD _ _ _ _ (by omega)]
      congr 1
      omega

end Go.Proofs.YtldodfdbaonmkaaDoor
