/-
  Plain facts on lists of bits and bytes (no program): numbers of bits, bytes of bits, bits of bytes.
-/
import Derived.KernelRfl
namespace Go.Proofs.Ytgmnhfkmneohcaa

/-- the number of bits, the first one the highest -/
def num (p : List Bool) : Nat := p.foldl (fun a b => 2 * a + b.toNat) 0
/-- bit i of bytes, the highest one of each byte first -/
def bit (bs : List Nat) (i : Nat) : Bool := (bs.getD (i / 8) 0).testBit (7 - i % 8)
/-- all bits of bytes -/
def flat (bs : List Nat) : List Bool := (List.range (8 * bs.length)).map (bit bs)
/-- eight bits from the i-th on, as a byte -/
def byteAt (p : List Bool) (i : Nat) : Nat := num ((List.range 8).map fun j => p.getD (i + j) false)
/-- bits as bytes -/
def pack (p : List Bool) : List Nat := (List.range ((p.length + 7) / 8)).map fun k => byteAt p (8 * k)
/-- the n lowest bits of v -/
def low (v n : Nat) : List Bool := (List.range n).map fun i => v.testBit (n - 1 - i)

theorem num_nil : num [] = 0 := rfl
theorem num_snoc (p : List Bool) (b : Bool) : num (p ++ [b]) = 2 * num p + b.toNat := by simp [num, List.foldl_append]
theorem snoc_ind {P : List Bool → Prop} (h0 : P []) (h1 : ∀ p b, P p → P (p ++ [b])) (l : List Bool) : P l := by
  have : ∀ r : List Bool, P r.reverse := by
    intro r
    induction r with
    | nil => exact h0
    | cons b r ih => rw [List.reverse_cons]; exact h1 _ _ ih
  have h := this l.reverse
  rwa [List.reverse_reverse] at h
theorem num_testBit (p : List Bool) : ∀ j, (num p).testBit j = (decide (j < p.length) && p.getD (p.length - 1 - j) false) := by
  refine snoc_ind (P := fun p => ∀ j, (num p).testBit j = (decide (j < p.length) && p.getD (p.length - 1 - j) false)) ?_ ?_ p
  · intro j; simp [num]
  · intro p b ih j
    rw [num_snoc]
    cases j with
    | zero =>
      have : (2 * num p + b.toNat).testBit 0 = b := by
        cases b <;> simp [Nat.testBit_zero, Nat.add_mod]
      rw [this]; simp
    | succ j =>
      rw [Nat.testBit_succ]
      have : (2 * num p + b.toNat) / 2 = num p := by cases b <;> simp <;> omega
      rw [this, ih j]
      by_cases h : j < p.length
      · have h2 : p.length - 1 - j < p.length := by omega
        have h3 : p.length + 1 - 1 - (j + 1) = p.length - 1 - j := by omega
        simp only [List.length_append, List.length_singleton, h3, List.getD_eq_getElem?_getD]
        rw [List.getElem?_append_left h2]
        simp [h]
      · simp [h]
theorem num_lt (p : List Bool) : num p < 2 ^ p.length := by
  refine snoc_ind (P := fun p => num p < 2 ^ p.length) ?_ ?_ p
  · simp [num]
  · intro p b ih
    rw [num_snoc, List.length_append, List.length_singleton, Nat.pow_succ]
    cases b <;> simp <;> omega

theorem byteAt_lt (p : List Bool) (i : Nat) : byteAt p i < 256 := by
  have := num_lt ((List.range 8).map fun j => p.getD (i + j) false)
  simpa [byteAt] using this
theorem byteAt_testBit (p : List Bool) (i j : Nat) (h : j < 8) : (byteAt p i).testBit j = p.getD (i + (7 - j)) false := by
  unfold byteAt
  rw [num_testBit]
  have h1 : 8 - 1 - j < 8 := by omega
  simp [h, List.getD_eq_getElem?_getD, h1]

theorem pack_length (p : List Bool) : (pack p).length = (p.length + 7) / 8 := by simp [pack]
theorem pack_lt (p : List Bool) : ∀ x ∈ pack p, x < 256 := by
  intro x hx
  simp only [pack, List.mem_map] at hx
  obtain ⟨k, _, rfl⟩ := hx
  exact byteAt_lt _ _
theorem getD_lt {bs : List Nat} (h : ∀ x ∈ bs, x < 256) (i : Nat) : bs.getD i 0 < 256 := by
  rw [List.getD_eq_getElem?_getD]
  cases e : bs[i]? with
  | none => simp
  | some x => exact h x (List.mem_of_getElem? e)
theorem bit_pack (p : List Bool) (i : Nat) : bit (pack p) i = p.getD i false := by
  unfold bit
  by_cases h : i / 8 < (p.length + 7) / 8
  · have e : (pack p).getD (i / 8) 0 = byteAt p (8 * (i / 8)) := by simp [pack, List.getD_eq_getElem?_getD, h]
    rw [e, byteAt_testBit _ _ _ (by omega)]
    congr 1
    omega
  · have e : (pack p).getD (i / 8) 0 = 0 := by simp [pack, List.getD_eq_getElem?_getD, h]
    rw [e, Nat.zero_testBit, List.getD_eq_getElem?_getD, List.getElem?_eq_none (by omega)]
    rfl
theorem getD_ext {p q : List Bool} (hl : p.length = q.length) (h : ∀ i, i < p.length → p.getD i false = q.getD i false) : p = q := by
  apply List.ext_getElem hl
  intro i h1 h2
  have := h i h1
  simpa [List.getD_eq_getElem?_getD, h1, h2] using this
theorem getD_extN {p q : List Nat} (hl : p.length = q.length) (h : ∀ i, i < p.length → p.getD i 0 = q.getD i 0) : p = q := by
  apply List.ext_getElem hl
  intro i h1 h2
  have := h i h1
  simpa [List.getD_eq_getElem?_getD, h1, h2] using this
theorem byte_ext {a b : Nat} (ha : a < 256) (hb : b < 256) (h : ∀ j, j < 8 → a.testBit j = b.testBit j) : a = b := by
  apply Nat.eq_of_testBit_eq
  intro j
  by_cases hj : j < 8
  · exact h j hj
  · have h8 : 256 ≤ 2 ^ j := by
      have := Nat.pow_le_pow_right (n := 2) (by omega) (by omega : 8 ≤ j)
      simpa using this
    rw [Nat.testBit_lt_two_pow (Nat.lt_of_lt_of_le ha h8), Nat.testBit_lt_two_pow (Nat.lt_of_lt_of_le hb h8)]
theorem bytes_ext {as bs : List Nat} (ha : ∀ x ∈ as, x < 256) (hb : ∀ x ∈ bs, x < 256) (hl : as.length = bs.length) (h : ∀ i, i < 8 * as.length → bit as i = bit bs i) : as = bs := by
  apply getD_extN hl
  intro k hk
  apply byte_ext (getD_lt ha k) (getD_lt hb k)
  intro j hj
  have := h (8 * k + (7 - j)) (by omega)
  unfold bit at this
  have e1 : (8 * k + (7 - j)) / 8 = k := by omega
  have e2 : 7 - (8 * k + (7 - j)) % 8 = j := by omega
  rwa [e1, e2] at this
theorem eq_pack {bs : List Nat} {p : List Bool} (hb : ∀ x ∈ bs, x < 256) (hl : bs.length = (p.length + 7) / 8) (h : ∀ i, i < 8 * bs.length → bit bs i = p.getD i false) : bs = pack p :=
  bytes_ext hb (pack_lt p) (by rw [pack_length, hl]) fun i hi => by rw [bit_pack, h i hi]

theorem flat_length (bs : List Nat) : (flat bs).length = 8 * bs.length := by simp [flat]
theorem flat_getD (bs : List Nat) (i : Nat) : (flat bs).getD i false = bit bs i := by
  by_cases h : i < 8 * bs.length
  · simp [flat, List.getD_eq_getElem?_getD, h]
  · have h1 : bs.getD (i / 8) 0 = 0 := by rw [List.getD_eq_getElem?_getD, List.getElem?_eq_none (by omega)]; rfl
    rw [List.getD_eq_getElem?_getD, List.getElem?_eq_none (by rw [flat_length]; omega)]
    unfold bit
    rw [h1]; simp
theorem take_flat_pack (p : List Bool) : (flat (pack p)).take p.length = p := by
  apply getD_ext
  · rw [List.length_take, flat_length, pack_length]; omega
  · intro i hi
    rw [List.length_take, flat_length, pack_length] at hi
    rw [List.getD_eq_getElem?_getD, List.getElem?_take_of_lt (by omega), ← List.getD_eq_getElem?_getD, flat_getD, bit_pack]

theorem low_length (v n : Nat) : (low v n).length = n := by simp [low]
theorem low_getD (v n i : Nat) (h : i < n) : (low v n).getD i false = v.testBit (n - 1 - i) := by simp [low, List.getD_eq_getElem?_getD, h]
theorem num_low (v n : Nat) : num (low v n) = v % 2 ^ n := by
  apply Nat.eq_of_testBit_eq
  intro j
  rw [num_testBit, low_length, Nat.testBit_mod_two_pow]
  by_cases h : j < n
  · rw [low_getD _ _ _ (by omega)]
    have : n - 1 - (n - 1 - j) = j := by omega
    rw [this]
  · simp [h]
theorem low_zero (v : Nat) : low v 0 = [] := rfl

/-- what is taken from the at-th bit on, n bits -/
def cut (p : List Bool) (at_ n : Nat) : List Bool := (p.drop at_).take n
theorem cut_succ (p : List Bool) (a n : Nat) (h : a + n < p.length) : cut p a (n + 1) = cut p a n ++ [p.getD (a + n) false] := by
  unfold cut
  rw [List.take_succ_eq_append_getElem (by rw [List.length_drop]; omega)]
  congr 1
  simp [List.getD_eq_getElem?_getD, h]
theorem cut_length (p : List Bool) (a n : Nat) (h : a + n ≤ p.length) : (cut p a n).length = n := by
  unfold cut
  rw [List.length_take, List.length_drop]; omega
theorem cut_zero (p : List Bool) (a : Nat) : cut p a 0 = [] := by simp [cut]
theorem cut_getD (p : List Bool) (a n i : Nat) (h : i < n) : (cut p a n).getD i false = p.getD (a + i) false := by
  unfold cut
  rw [List.getD_eq_getElem?_getD, List.getElem?_take_of_lt h, List.getElem?_drop, ← List.getD_eq_getElem?_getD]
theorem cut_app (p q : List Bool) : cut (flat (pack (p ++ q))) p.length q.length = q := by
  apply getD_ext
  · rw [cut_length]; rw [flat_length, pack_length, List.length_append]; omega
  · intro i hi
    rw [cut_length _ _ _ (by rw [flat_length, pack_length, List.length_append]; omega)] at hi
    rw [cut_getD _ _ _ _ hi, flat_getD, bit_pack, List.getD_eq_getElem?_getD, List.getElem?_append_right (by omega), List.getD_eq_getElem?_getD]
    congr 2
    omega

end Go.Proofs.Ytgmnhfkmneohcaa
