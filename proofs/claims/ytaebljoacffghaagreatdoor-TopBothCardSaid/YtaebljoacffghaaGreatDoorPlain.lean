/-
  Texts of this proof, one behind the other: Bits1, Bits2, Dod1, Xor1, Kin1, XorBits, KinBits, Chunk1, CarryBits.
-/
import Derived.KernelRfl

/-
  Plain facts on lists of bits and bytes (no program): numbers of bits, bytes of bits, bits of bytes.
-/
namespace Go.Proofs.YtaebljoacffghaaGreatDoor

/-- the number of bits, the first one the highest -/
def num (p : List Bool) : Nat := p.foldl (fun a b => 2 * a + b.toNat) 0
/-- bit i of bytes, the highest one of each byte first -/
def bit (bs : List Nat) (i : Nat) : Bool := (bs.getD (i / 8) 0).testBit (7 - i % 8)
/-- all bits of bytes -/
def flat (bs : List Nat) : List Bool := (List.range (8 * bs.length)).map (bit bs)
/-- eight bits from the i-th on, as a byte -/
def byteAt (p : List Bool) (i : Nat) : Nat := num ((List.range 8).map fun j => p.getD (i + j) false)
/-- bits as bytes -/
def pack (p : List Bool) : List Nat := (List.range ((p.length + 7) / 8)).map fun k => byteAt p (8 * k)
/-- the n lowest bits of v -/
def low (v n : Nat) : List Bool := (List.range n).map fun i => v.testBit (n - 1 - i)

theorem num_nil : num [] = 0 := rfl
theorem num_snoc (p : List Bool) (b : Bool) : num (p ++ [b]) = 2 * num p + b.toNat := by simp [num, List.foldl_append]
theorem snoc_ind {P : List Bool → Prop} (h0 : P []) (h1 : ∀ p b, P p → P (p ++ [b])) (l : List Bool) : P l := by
  have : ∀ r : List Bool, P r.reverse := by
    intro r
    induction r with
    | nil => exact h0
    | cons b r ih => rw [List.reverse_cons]; exact h1 _ _ ih
  have h := this l.reverse
  rwa [List.reverse_reverse] at h
theorem num_testBit (p : List Bool) : ∀ j, (num p).testBit j = (decide (j < p.length) && p.getD (p.length - 1 - j) false) := by
  refine snoc_ind (P := fun p => ∀ j, (num p).testBit j = (decide (j < p.length) && p.getD (p.length - 1 - j) false)) ?_ ?_ p
  · intro j; simp [num]
  · intro p b ih j
    rw [num_snoc]
    cases j with
    | zero =>
      have : (2 * num p + b.toNat).testBit 0 = b := by
        cases b <;> simp [Nat.testBit_zero, Nat.add_mod]
      rw [this]; simp
    | succ j =>
      rw [Nat.testBit_succ]
      have : (2 * num p + b.toNat) / 2 = num p := by cases b <;> simp <;> omega
      rw [this, ih j]
      by_cases h : j < p.length
      · have h2 : p.length - 1 - j < p.length := by omega
        have h3 : p.length + 1 - 1 - (j + 1) = p.length - 1 - j := by omega
        simp only [List.length_append, List.length_singleton, h3, List.getD_eq_getElem?_getD]
        rw [List.getElem?_append_left h2]
        simp [h]
      · simp [h]
theorem num_lt (p : List Bool) : num p < 2 ^ p.length := by
  refine snoc_ind (P := fun p => num p < 2 ^ p.length) ?_ ?_ p
  · simp [num]
  · intro p b ih
    rw [num_snoc, List.length_append, List.length_singleton, Nat.pow_succ]
    cases b <;> simp <;> omega

theorem byteAt_lt (p : List Bool) (i : Nat) : byteAt p i < 256 := by
  have := num_lt ((List.range 8).map fun j => p.getD (i + j) false)
  simpa [byteAt] using this
theorem byteAt_testBit (p : List Bool) (i j : Nat) (h : j < 8) : (byteAt p i).testBit j = p.getD (i + (7 - j)) false := by
  unfold byteAt
  rw [num_testBit]
  have h1 : 8 - 1 - j < 8 := by omega
  simp [h, List.getD_eq_getElem?_getD, h1]

theorem pack_length (p : List Bool) : (pack p).length = (p.length + 7) / 8 := by simp [pack]
theorem pack_lt (p : List Bool) : ∀ x ∈ pack p, x < 256 := by
  intro x hx
  simp only [pack, List.mem_map] at hx
  obtain ⟨k, _, rfl⟩ := hx
  exact byteAt_lt _ _
theorem getD_lt {bs : List Nat} (h : ∀ x ∈ bs, x < 256) (i : Nat) : bs.getD i 0 < 256 := by
  rw [List.getD_eq_getElem?_getD]
  cases e : bs[i]? with
  | none => simp
  | some x => exact h x (List.mem_of_getElem? e)
theorem bit_pack (p : List Bool) (i : Nat) : bit (pack p) i = p.getD i false := by
  unfold bit
  by_cases h : i / 8 < (p.length + 7) / 8
  · have e : (pack p).getD (i / 8) 0 = byteAt p (8 * (i / 8)) := by simp [pack, List.getD_eq_getElem?_getD, h]
    rw [e, byteAt_testBit _ _ _ (by omega)]
    congr 1
    omega
  · have e : (pack p).getD (i / 8) 0 = 0 := by simp [pack, List.getD_eq_getElem?_getD, h]
    rw [e, Nat.zero_testBit, List.getD_eq_getElem?_getD, List.getElem?_eq_none (by omega)]
    rfl
theorem getD_ext {p q : List Bool} (hl : p.length = q.length) (h : ∀ i, i < p.length → p.getD i false = q.getD i false) : p = q := by
  apply List.ext_getElem hl
  intro i h1 h2
  have := h i h1
  simpa [List.getD_eq_getElem?_getD, h1, h2] using this
theorem getD_extN {p q : List Nat} (hl : p.length = q.length) (h : ∀ i, i < p.length → p.getD i 0 = q.getD i 0) : p = q := by
  apply List.ext_getElem hl
  intro i h1 h2
  have := h i h1
  simpa [List.getD_eq_getElem?_getD, h1, h2] using this
theorem byte_ext {a b : Nat} (ha : a < 256) (hb : b < 256) (h : ∀ j, j < 8 → a.testBit j = b.testBit j) : a = b := by
  apply Nat.eq_of_testBit_eq
  intro j
  by_cases hj : j < 8
  · exact h j hj
  · have h8 : 256 ≤ 2 ^ j := by
      have := Nat.pow_le_pow_right (n := 2) (by omega) (by omega : 8 ≤ j)
      simpa using this
    rw [Nat.testBit_lt_two_pow (Nat.lt_of_lt_of_le ha h8), Nat.testBit_lt_two_pow (Nat.lt_of_lt_of_le hb h8)]
theorem bytes_ext {as bs : List Nat} (ha : ∀ x ∈ as, x < 256) (hb : ∀ x ∈ bs, x < 256) (hl : as.length = bs.length) (h : ∀ i, i < 8 * as.length → bit as i = bit bs i) : as = bs := by
  apply getD_extN hl
  intro k hk
  apply byte_ext (getD_lt ha k) (getD_lt hb k)
  intro j hj
  have := h (8 * k + (7 - j)) (by omega)
  unfold bit at this
  have e1 : (8 * k + (7 - j)) / 8 = k := by omega
  have e2 : 7 - (8 * k + (7 - j)) % 8 = j := by omega
  rwa [e1, e2] at this
theorem eq_pack {bs : List Nat} {p : List Bool} (hb : ∀ x ∈ bs, x < 256) (hl : bs.length = (p.length + 7) / 8) (h : ∀ i, i < 8 * bs.length → bit bs i = p.getD i false) : bs = pack p :=
  bytes_ext hb (pack_lt p) (by rw [pack_length, hl]) fun i hi => by rw [bit_pack, h i hi]

theorem flat_length (bs : List Nat) : (flat bs).length = 8 * bs.length := by simp [flat]
theorem flat_getD (bs : List Nat) (i : Nat) : (flat bs).getD i false = bit bs i := by
  by_cases h : i < 8 * bs.length
  · simp [flat, List.getD_eq_getElem?_getD, h]
  · have h1 : bs.getD (i / 8) 0 = 0 := by rw [List.getD_eq_getElem?_getD, List.getElem?_eq_none (by omega)]; rfl
    rw [List.getD_eq_getElem?_getD, List.getElem?_eq_none (by rw [flat_length]; omega)]
    unfold bit
    rw [h1]; simp
theorem take_flat_pack (p : List Bool) : (flat (pack p)).take p.length = p := by
  apply getD_ext
  · rw [List.length_take, flat_length, pack_length]; omega
  · intro i hi
    rw [List.length_take, flat_length, pack_length] at hi
    rw [List.getD_eq_getElem?_getD, List.getElem?_take_of_lt (by omega), ← List.getD_eq_getElem?_getD, flat_getD, bit_pack]

theorem low_length (v n : Nat) : (low v n).length = n := by simp [low]
theorem low_getD (v n i : Nat) (h : i < n) : (low v n).getD i false = v.testBit (n - 1 - i) := by simp [low, List.getD_eq_getElem?_getD, h]
theorem num_low (v n : Nat) : num (low v n) = v % 2 ^ n := by
  apply Nat.eq_of_testBit_eq
  intro j
  rw [num_testBit, low_length, Nat.testBit_mod_two_pow]
  by_cases h : j < n
  · rw [low_getD _ _ _ (by omega)]
    have : n - 1 - (n - 1 - j) = j := by omega
    rw [this]
  · simp [h]
theorem low_zero (v : Nat) : low v 0 = [] := rfl

/-- what is taken from the at-th bit on, n bits -/
def cut (p : List Bool) (at_ n : Nat) : List Bool := (p.drop at_).take n
theorem cut_succ (p : List Bool) (a n : Nat) (h : a + n < p.length) : cut p a (n + 1) = cut p a n ++ [p.getD (a + n) false] := by
  unfold cut
  rw [List.take_succ_eq_append_getElem (by rw [List.length_drop]; omega)]
  congr 1
  simp [List.getD_eq_getElem?_getD, h]
theorem cut_length (p : List Bool) (a n : Nat) (h : a + n ≤ p.length) : (cut p a n).length = n := by
  unfold cut
  rw [List.length_take, List.length_drop]; omega
theorem cut_zero (p : List Bool) (a : Nat) : cut p a 0 = [] := by simp [cut]
theorem cut_getD (p : List Bool) (a n i : Nat) (h : i < n) : (cut p a n).getD i false = p.getD (a + i) false := by
  unfold cut
  rw [List.getD_eq_getElem?_getD, List.getElem?_take_of_lt h, List.getElem?_drop, ← List.getD_eq_getElem?_getD]
theorem cut_app (p q : List Bool) : cut (flat (pack (p ++ q))) p.length q.length = q := by
  apply getD_ext
  · rw [cut_length]; rw [flat_length, pack_length, List.length_append]; omega
  · intro i hi
    rw [cut_length _ _ _ (by rw [flat_length, pack_length, List.length_append]; omega)] at hi
    rw [cut_getD _ _ _ _ hi, flat_getD, bit_pack, List.getD_eq_getElem?_getD, List.getElem?_append_right (by omega), List.getD_eq_getElem?_getD]
    congr 2
    omega

end Go.Proofs.YtaebljoacffghaaGreatDoor

/-
  Plain facts (no program): what is taken from the a-th bit on; n bits with 0s behind the last one; the number of eight bytes.
-/
namespace Go.Proofs.YtaebljoacffghaaGreatDoor

/-- are there n bits from the a-th on? -/
def takeB (bs : List Nat) (a n : Int) : Bool := decide (0 ≤ n ∧ n ≤ 64 ∧ 0 ≤ a ∧ a + n ≤ 8 * (bs.length : Int))
/-- their number, or 0 -/
def takeN (bs : List Nat) (a n : Int) : Nat := if takeB bs a n then num (cut (flat bs) a.toNat n.toNat) else 0
theorem takeB_no {bs : List Nat} {a n : Int} (h : ¬ (0 ≤ n ∧ n ≤ 64 ∧ 0 ≤ a ∧ a + n ≤ 8 * (bs.length : Int))) : takeB bs a n = false ∧ takeN bs a n = 0 := by
  have h1 : takeB bs a n = false := by unfold takeB; exact decide_eq_false h
  exact ⟨h1, by unfold takeN; rw [h1]; rfl⟩
theorem takeB_yes {bs : List Nat} {a n : Nat} (h1 : n ≤ 64) (h2 : a + n ≤ 8 * bs.length) : takeB bs a n = true ∧ takeN bs a n = num (cut (flat bs) a n) := by
  have h : takeB bs a n = true := by unfold takeB; exact decide_eq_true (by omega)
  exact ⟨h, by unfold takeN; rw [h]; rfl⟩

/-- n bits from the a-th on, those behind the last one being 0 -/
def ext (p : List Bool) (a n : Nat) : List Bool := (List.range n).map fun j => p.getD (a + j) false
theorem ext_length (p : List Bool) (a n : Nat) : (ext p a n).length = n := by simp [ext]
theorem ext_getD (p : List Bool) (a n i : Nat) (h : i < n) : (ext p a n).getD i false = p.getD (a + i) false := by simp [ext, List.getD_eq_getElem?_getD, h]
theorem ext_cut (p : List Bool) (a n : Nat) (h : a + n ≤ p.length) : ext p a n = cut p a n := by
  apply getD_ext
  · rw [ext_length, cut_length _ _ _ h]
  · intro i hi
    rw [ext_length] at hi
    rw [ext_getD _ _ _ _ hi, cut_getD _ _ _ _ hi]
theorem ext_zeros (p : List Bool) (a n z : Nat) (hn : n ≤ z) : ((p.drop a) ++ List.replicate z false).take n = ext p a n := by
  apply getD_ext
  · rw [ext_length, List.length_take, List.length_append, List.length_replicate]; omega
  · intro i hi
    rw [List.length_take, List.length_append, List.length_replicate] at hi
    rw [ext_getD _ _ _ _ (by omega), List.getD_eq_getElem?_getD, List.getElem?_take_of_lt (by omega), List.getD_eq_getElem?_getD]
    by_cases h : a + i < p.length
    · rw [List.getElem?_append_left (by rw [List.length_drop]; omega), List.getElem?_drop]
    · rw [List.getElem?_append_right (by rw [List.length_drop]; omega), List.getElem?_eq_none (l := p) (by omega), List.getElem?_replicate]
      split <;> rfl
/-- the number of the first eight bytes, those behind the last one being 0 -/
def word (bs : List Nat) : Nat := num (ext (flat bs) 0 64)
theorem word_testBit (bs : List Nat) (j : Nat) : (word bs).testBit j = (decide (j < 64) && bit bs (63 - j)) := by
  unfold word
  rw [num_testBit, ext_length]
  by_cases h : j < 64
  · rw [ext_getD _ _ _ _ (by omega), flat_getD]
    have : 0 + (64 - 1 - j) = 63 - j := by omega
    rw [this]
  · simp [h]
theorem word_lt (bs : List Nat) : word bs ≤ 18446744073709551615 := by
  have := num_lt (ext (flat bs) 0 64)
  rw [ext_length] at this
  unfold word
  omega
theorem word_nil : word [] = 0 := by decide +kernel
theorem getD_head (l : List Nat) (k i : Nat) : (l.take k).getD i 0 = if i < k then l.getD i 0 else 0 := by
  split
  · rw [List.getD_eq_getElem?_getD, List.getElem?_take_of_lt (by omega), List.getD_eq_getElem?_getD]
  · rw [List.getD_eq_getElem?_getD, List.getElem?_eq_none (by rw [List.length_take]; omega)]
    rfl
theorem bit_high {x j : Nat} (h : x < 256) (hj : 8 ≤ j) : x.testBit j = false := by
  apply Nat.testBit_lt_two_pow
  have := Nat.pow_le_pow_right (n := 2) (by omega) hj
  omega
theorem word_step (bs : List Nat) (k : Nat) (hk : k < 8) (hb : ∀ x ∈ bs, x < 256) : word (bs.take (k + 1)) = word (bs.take k) ||| bs.getD k 0 * 2 ^ (56 - 8 * k) := by
  have hx := getD_lt hb k
  apply Nat.eq_of_testBit_eq
  intro j
  rw [Nat.testBit_or, word_testBit, word_testBit, Nat.testBit_mul_two_pow]
  unfold bit
  rw [getD_head, getD_head]
  by_cases h : j < 64
  · rcases Nat.lt_trichotomy ((63 - j) / 8) k with h1 | h1 | h1
    · rw [if_pos (by omega), if_pos h1, bit_high hx (by omega)]
      simp [h]
    · rw [if_pos (by omega), if_neg (by omega), h1]
      have e : 7 - (63 - j) % 8 = j - (56 - 8 * k) := by omega
      have e2 : 56 - 8 * k ≤ j := by omega
      simp [h, e, e2]
    · rw [if_neg (by omega), if_neg (by omega)]
      have e2 : ¬ 56 - 8 * k ≤ j := by omega
      simp [e2]
  · rw [bit_high hx (by omega)]
    simp [h]
theorem word_take (bs : List Nat) : word (bs.take 8) = word bs := by
  apply Nat.eq_of_testBit_eq
  intro j
  rw [word_testBit, word_testBit]
  unfold bit
  rw [getD_head]
  by_cases h : j < 64
  · rw [if_pos (by omega)]
  · simp [h]
/-- eight bytes, one by one -/
theorem word_eight (bs : List Nat) (hb : ∀ x ∈ bs, x < 256) :
    bs.getD 0 0 * 2 ^ 56 ||| bs.getD 1 0 * 2 ^ 48 ||| bs.getD 2 0 * 2 ^ 40 ||| bs.getD 3 0 * 2 ^ 32 ||| bs.getD 4 0 * 2 ^ 24 ||| bs.getD 5 0 * 2 ^ 16 ||| bs.getD 6 0 * 2 ^ 8 ||| bs.getD 7 0 = word bs := by
  have h := word_take bs
  rw [word_step bs 7 (by omega) hb, word_step bs 6 (by omega) hb, word_step bs 5 (by omega) hb, word_step bs 4 (by omega) hb, word_step bs 3 (by omega) hb, word_step bs 2 (by omega) hb, word_step bs 1 (by omega) hb, word_step bs 0 (by omega) hb] at h
  rw [← h, List.take_zero, word_nil]
  simp
theorem bit_drop (bs : List Nat) (k i : Nat) : bit (bs.drop k) i = bit bs (8 * k + i) := by
  unfold bit
  rw [List.getD_eq_getElem?_getD, List.getElem?_drop, ← List.getD_eq_getElem?_getD]
  have e1 : (8 * k + i) / 8 = k + i / 8 := by omega
  have e2 : (8 * k + i) % 8 = i % 8 := by omega
  rw [e1, e2]
/-- the next n bits out of the eight bytes from that of the next bit on -/
theorem word_peek (bs : List Nat) (a n : Nat) (h : n ≤ 56) : word (bs.drop (a / 8)) * 2 ^ (a % 8) % 18446744073709551616 / 2 ^ (64 - n) = num (ext (flat bs) a n) := by
  apply Nat.eq_of_testBit_eq
  intro j
  rw [show (18446744073709551616 : Nat) = 2 ^ 64 from rfl, Nat.testBit_div_two_pow, Nat.testBit_mod_two_pow, Nat.testBit_mul_two_pow, word_testBit, num_testBit, ext_length]
  by_cases h1 : j < n
  · rw [ext_getD _ _ _ _ (by omega), flat_getD, bit_drop]
    have e1 : a % 8 ≤ j + (64 - n) := by omega
    have e2 : j + (64 - n) < 64 := by omega
    have e3 : j + (64 - n) - a % 8 < 64 := by omega
    have e4 : 8 * (a / 8) + (63 - (j + (64 - n) - a % 8)) = a + (n - 1 - j) := by omega
    simp [h1, e1, e2, e3, e4]
  · have e2 : ¬ j + (64 - n) < 64 := by omega
    simp [h1, e2]
/-- a number of more bits as two -/
theorem num_app (p q : List Bool) : num (p ++ q) = num p * 2 ^ q.length + num q := by
  refine snoc_ind (P := fun q => num (p ++ q) = num p * 2 ^ q.length + num q) ?_ ?_ q
  · simp [num_nil]
  · intro q b ih
    rw [← List.append_assoc, num_snoc, num_snoc, ih, List.length_append, List.length_singleton, Nat.pow_succ, Nat.mul_add, ← Nat.mul_assoc, Nat.mul_comm 2 (num p), Nat.mul_assoc (num p), Nat.mul_comm 2 (2 ^ q.length), Nat.add_assoc]
theorem ext_app (p : List Bool) (a n m : Nat) : ext p a n ++ ext p (a + n) m = ext p a (n + m) := by
  apply getD_ext
  · simp [ext_length]
  · intro i hi
    rw [List.length_append, ext_length, ext_length] at hi
    rw [ext_getD p a (n + m) i hi]
    by_cases h : i < n
    · rw [List.getD_eq_getElem?_getD, List.getElem?_append_left (by rw [ext_length]; exact h), ← List.getD_eq_getElem?_getD, ext_getD _ _ _ _ h]
    · rw [List.getD_eq_getElem?_getD, List.getElem?_append_right (by rw [ext_length]; omega), ← List.getD_eq_getElem?_getD, ext_length, ext_getD _ _ _ _ (by omega)]
      congr 1
      omega

end Go.Proofs.YtaebljoacffghaaGreatDoor

/-
  Plain facts (no program): codes of numbers that are mostly near 0, and what bits begin with; that it is one answer.
-/
namespace Go.Proofs.YtaebljoacffghaaGreatDoor

/-- of how many bits the number is behind k 1s -/
def roomN (k : Nat) : Nat := if k = 0 then 0 else if k = 1 then 7 else if k = 2 then 9 else if k = 3 then 12 else 64
/-- of how many bits the head is -/
def headN (k : Nat) : Nat := if k < 4 then k + 1 else 4
/-- with how many 1s a number's code begins -/
def onesN (v : Int) : Nat := if v = 0 then 0 else if -64 ≤ v ∧ v ≤ 63 then 1 else if -256 ≤ v ∧ v ≤ 255 then 2 else if -2048 ≤ v ∧ v ≤ 2047 then 3 else 4
/-- a number of 64 bits, as one from 0 on -/
def un64 (v : Int) : Nat := (v % 18446744073709551616).toNat
/-- the head -/
def headL (k : Nat) : List Bool := List.replicate k true ++ (if k < 4 then [false] else [])
/-- a number's code -/
def codeD (v : Int) : List Bool := headL (onesN v) ++ low (un64 v) (roomN (onesN v))
/-- the number of two's complement of the n lowest bits -/
def sgnN (x n : Nat) : Int := if n = 0 then 0 else if x % 2 ^ n < 2 ^ (n - 1) then ((x % 2 ^ n : Nat) : Int) else ((x % 2 ^ n : Nat) : Int) - ((2 ^ n : Nat) : Int)

theorem onesN_le (v : Int) : onesN v ≤ 4 := by unfold onesN; split; omega; split; omega; split; omega; split <;> omega
theorem headL_length {k : Nat} (h : k ≤ 4) : (headL k).length = headN k := by
  unfold headL headN
  split <;> simp; omega
theorem room_cases {k : Nat} (h : k ≤ 4) : (k = 0 ∧ roomN k = 0 ∧ headN k = 1) ∨ (k = 1 ∧ roomN k = 7 ∧ headN k = 2) ∨ (k = 2 ∧ roomN k = 9 ∧ headN k = 3) ∨ (k = 3 ∧ roomN k = 12 ∧ headN k = 4) ∨ (k = 4 ∧ roomN k = 64 ∧ headN k = 4) := by
  rcases (by omega : k = 0 ∨ k = 1 ∨ k = 2 ∨ k = 3 ∨ k = 4) with rfl | rfl | rfl | rfl | rfl <;> simp [roomN, headN]
theorem room_le (k : Nat) : roomN k ≤ 64 := by
  unfold roomN; split; omega; split; omega; split; omega; split <;> omega
theorem head_le (k : Nat) : headN k ≤ 4 := by unfold headN; split <;> omega
theorem codeD_length (v : Int) : (codeD v).length = headN (onesN v) + roomN (onesN v) := by
  unfold codeD
  rw [List.length_append, headL_length (onesN_le v), low_length]
theorem codeD_pos (v : Int) : 1 ≤ (codeD v).length ∧ (codeD v).length ≤ 68 := by
  rw [codeD_length]
  rcases room_cases (onesN_le v) with ⟨_, h, h'⟩ | ⟨_, h, h'⟩ | ⟨_, h, h'⟩ | ⟨_, h, h'⟩ | ⟨_, h, h'⟩ <;> omega
/-- codes of unlike heads are of unlike length -/
theorem codeD_unlike {v : Int} {k : Nat} (hk : k ≤ 4) (h : onesN v ≠ k) : (codeD v).length ≠ headN k + roomN k := by
  rw [codeD_length]
  rcases room_cases (onesN_le v) with ⟨a, h1, h2⟩ | ⟨a, h1, h2⟩ | ⟨a, h1, h2⟩ | ⟨a, h1, h2⟩ | ⟨a, h1, h2⟩ <;>
    rcases room_cases hk with ⟨b, g1, g2⟩ | ⟨b, g1, g2⟩ | ⟨b, g1, g2⟩ | ⟨b, g1, g2⟩ | ⟨b, g1, g2⟩ <;> omega

theorem un64_lt (v : Int) : un64 v ≤ 18446744073709551615 := by unfold un64; omega
theorem un64_cast (v : Int) : ((un64 v : Nat) : Int) = v % 18446744073709551616 := by unfold un64; omega
theorem ones_fit (v : Int) : (onesN v ≤ 0 ↔ v = 0) ∧ (onesN v ≤ 1 ↔ -64 ≤ v ∧ v ≤ 63) ∧ (onesN v ≤ 2 ↔ -256 ≤ v ∧ v ≤ 255) ∧ (onesN v ≤ 3 ↔ -2048 ≤ v ∧ v ≤ 2047) := by
  unfold onesN
  split
  · omega
  · split
    · omega
    · split
      · omega
      · split <;> omega
theorem sgn_zero (x : Nat) : sgnN x 0 = 0 := rfl
theorem sgn_7 (x : Nat) : sgnN x 7 = if x % 128 < 64 then ((x % 128 : Nat) : Int) else ((x % 128 : Nat) : Int) - 128 := rfl
theorem sgn_9 (x : Nat) : sgnN x 9 = if x % 512 < 256 then ((x % 512 : Nat) : Int) else ((x % 512 : Nat) : Int) - 512 := rfl
theorem sgn_12 (x : Nat) : sgnN x 12 = if x % 4096 < 2048 then ((x % 4096 : Nat) : Int) else ((x % 4096 : Nat) : Int) - 4096 := rfl
theorem sgn_64 (x : Nat) : sgnN x 64 = if x % 18446744073709551616 < 9223372036854775808 then ((x % 18446744073709551616 : Nat) : Int) else ((x % 18446744073709551616 : Nat) : Int) - 18446744073709551616 := rfl
/-- what the bits of two's complement tell is the number just where there is room for it -/
theorem sgn_room {v : Int} (hv : -9223372036854775808 ≤ v ∧ v ≤ 9223372036854775807) {k : Nat} (hk : k ≤ 4) : sgnN (un64 v) (roomN k) = v ↔ onesN v ≤ k := by
  have hu := un64_cast v
  obtain ⟨f0, f1, f2, f3⟩ := ones_fit v
  generalize un64 v = x at *
  rcases room_cases hk with ⟨rfl, h1, _⟩ | ⟨rfl, h1, _⟩ | ⟨rfl, h1, _⟩ | ⟨rfl, h1, _⟩ | ⟨rfl, h1, _⟩ <;> rw [h1]
  · rw [sgn_zero, f0]; omega
  · rw [sgn_7, f1]; split <;> omega
  · rw [sgn_9, f2]; split <;> omega
  · rw [sgn_12, f3]; split <;> omega
  · have := onesN_le v
    rw [sgn_64]; split <;> omega
/-- what bits of two's complement tell has those bits -/
theorem un64_sgn (x : Nat) {k : Nat} (hk : k ≤ 4) : un64 (sgnN x (roomN k)) % 2 ^ roomN k = x % 2 ^ roomN k := by
  have hu := un64_cast (sgnN x (roomN k))
  generalize un64 (sgnN x (roomN k)) = y at *
  rcases room_cases hk with ⟨rfl, h1, _⟩ | ⟨rfl, h1, _⟩ | ⟨rfl, h1, _⟩ | ⟨rfl, h1, _⟩ | ⟨rfl, h1, _⟩ <;> rw [h1] at hu ⊢
  · omega
  · rw [sgn_7] at hu; split at hu <;> omega
  · rw [sgn_9] at hu; split at hu <;> omega
  · rw [sgn_12] at hu; split at hu <;> omega
  · rw [sgn_64] at hu; split at hu <;> omega
theorem sgn_mod (x : Nat) (n : Nat) : sgnN (x % 2 ^ n) n = sgnN x n := by unfold sgnN; rw [Nat.mod_mod]
theorem sgn_in (x : Nat) {k : Nat} (hk : k ≤ 4) : -9223372036854775808 ≤ sgnN x (roomN k) ∧ sgnN x (roomN k) ≤ 9223372036854775807 := by
  rcases room_cases hk with ⟨rfl, h1, _⟩ | ⟨rfl, h1, _⟩ | ⟨rfl, h1, _⟩ | ⟨rfl, h1, _⟩ | ⟨rfl, h1, _⟩ <;> rw [h1]
  · rw [sgn_zero]; omega
  · rw [sgn_7]; split <;> omega
  · rw [sgn_9]; split <;> omega
  · rw [sgn_12]; split <;> omega
  · rw [sgn_64]; split <;> omega

/-- bits begin with k 1s, up to four -/
structure Ones (p : List Bool) (k : Nat) : Prop where
  le4 : k ≤ 4
  len : k ≤ p.length
  all : ∀ j, j < k → p.getD j false = true
  stop : k < 4 → p.getD k false = false
theorem Ones.same {p : List Bool} {k j : Nat} (h : Ones p k) (h' : Ones p j) : k = j := by
  rcases Nat.lt_trichotomy k j with hlt | e | hlt
  · have h1 := h'.all k hlt
    have h2 := h.stop (by have := h'.le4; omega)
    rw [h1] at h2; cases h2
  · exact e
  · have h1 := h.all j hlt
    have h2 := h'.stop (by have := h.le4; omega)
    rw [h1] at h2; cases h2
theorem getD_len {p : List Bool} {j : Nat} (h : p.getD j false = true) : j < p.length := by
  rcases Nat.lt_or_ge j p.length with g | g
  · exact g
  · rw [List.getD_eq_getElem?_getD, List.getElem?_eq_none g] at h; cases h
theorem ones_is (p : List Bool) : ∃ k, Ones p k := by
  have step : ∀ k, k ≤ 4 → (∀ j, j < k → p.getD j false = true) → k ≤ p.length → (k = 4 ∨ p.getD k false = false) → Ones p k := fun k h4 ha hl hs => ⟨h4, hl, ha, fun h => by
    rcases hs with e | e
    · omega
    · exact e⟩
  by_cases h0 : p.getD 0 false = true
  · have g0 := getD_len h0
    by_cases h1 : p.getD 1 false = true
    · have g1 := getD_len h1
      by_cases h2 : p.getD 2 false = true
      · have g2 := getD_len h2
        by_cases h3 : p.getD 3 false = true
        · have g3 := getD_len h3
          refine ⟨4, step 4 (by omega) (fun j hj => ?_) (by omega) (.inl rfl)⟩
          rcases (by omega : j = 0 ∨ j = 1 ∨ j = 2 ∨ j = 3) with rfl | rfl | rfl | rfl <;> assumption
        · refine ⟨3, step 3 (by omega) (fun j hj => ?_) (by omega) (.inr (by simpa using h3))⟩
          rcases (by omega : j = 0 ∨ j = 1 ∨ j = 2) with rfl | rfl | rfl <;> assumption
      · refine ⟨2, step 2 (by omega) (fun j hj => ?_) (by omega) (.inr (by simpa using h2))⟩
        rcases (by omega : j = 0 ∨ j = 1) with rfl | rfl <;> assumption
    · refine ⟨1, step 1 (by omega) (fun j hj => ?_) (by omega) (.inr (by simpa using h1))⟩
      obtain rfl : j = 0 := by omega
      assumption
  · exact ⟨0, step 0 (by omega) (fun j hj => by omega) (by omega) (.inr (by simpa using h0))⟩
/-- the number behind k 1s -/
def bodyD (p : List Bool) (k : Nat) : Int := sgnN (num (cut p (headN k) (roomN k))) (roomN k)
/-- what bits that begin with k 1s begin with: a number, how many bits its code has, an error's number -/
def DAns (p : List Bool) (k : Nat) (v : Int) (n e : Nat) : Prop :=
  (p.length < headN k + roomN k ∧ v = 0 ∧ n = 0 ∧ e = 2) ∨ (headN k + roomN k ≤ p.length ∧ onesN (bodyD p k) ≠ k ∧ v = 0 ∧ n = 0 ∧ e = 3) ∨
  (headN k + roomN k ≤ p.length ∧ onesN (bodyD p k) = k ∧ v = bodyD p k ∧ n = headN k + roomN k ∧ e = 0)
/-- what bits begin with -/
def DGets (p : List Bool) (v : Int) (n e : Nat) : Prop := ∃ k, Ones p k ∧ DAns p k v n e
theorem DGets.same {p : List Bool} {v v' : Int} {n n' e e' : Nat} (h : DGets p v n e) (h' : DGets p v' n' e') : v = v' ∧ n = n' ∧ e = e' := by
  obtain ⟨k, hk, h⟩ := h
  obtain ⟨j, hj, h'⟩ := h'
  obtain rfl := hk.same hj
  unfold DAns at h h'
  generalize bodyD p k = b at *
  generalize headN k + roomN k = m at *
  rcases h with ⟨h1, h2, h3, h4⟩ | ⟨h1, h2, h3, h4, h5⟩ | ⟨h1, h2, h3, h4, h5⟩ <;> rcases h' with ⟨g1, g2, g3, g4⟩ | ⟨g1, g2, g3, g4, g5⟩ | ⟨g1, g2, g3, g4, g5⟩ <;> omega
theorem bodyD_in (p : List Bool) {k : Nat} (hk : k ≤ 4) : -9223372036854775808 ≤ bodyD p k ∧ bodyD p k ≤ 9223372036854775807 := sgn_in _ hk
theorem gets_in {p : List Bool} {v : Int} {n e : Nat} (h : DGets p v n e) : (-9223372036854775808 ≤ v ∧ v ≤ 9223372036854775807) ∧ n ≤ 68 ∧ e ≤ 3 ∧ (e = 0 → n ≤ p.length) := by
  obtain ⟨k, hk, h⟩ := h
  have h1 := bodyD_in p hk.le4
  have h2 := room_le k
  have h3 := head_le k
  rcases h with ⟨h1, h2, h3, h4⟩ | ⟨h1, h2, h3, h4, h5⟩ | ⟨h1, h2, h3, h4, h5⟩ <;> subst v <;> omega

theorem app_getD (p r : List Bool) (i : Nat) : (p ++ r).getD i false = if i < p.length then p.getD i false else r.getD (i - p.length) false := by
  rw [List.getD_eq_getElem?_getD]
  split
  · rw [List.getElem?_append_left (by assumption), List.getD_eq_getElem?_getD]
  · rw [List.getElem?_append_right (by omega), List.getD_eq_getElem?_getD]
theorem headL_getD (k i : Nat) : (headL k).getD i false = decide (i < k) := by
  unfold headL
  rw [app_getD, List.length_replicate]
  split
  · rename_i h
    simp [List.getD_eq_getElem?_getD, h]
  · rename_i h
    rw [decide_eq_false h]
    split
    · cases (i - k) <;> simp
    · simp
/-- a head, and whatever behind it, begins with its 1s -/
theorem ones_head {k : Nat} (hk : k ≤ 4) (r : List Bool) : Ones (headL k ++ r) k := by
  have hl := headL_length hk
  refine ⟨hk, ?_, fun j hj => ?_, fun h => ?_⟩
  · rw [List.length_append, hl]; unfold headN; split <;> omega
  · rw [app_getD, hl, if_pos (by unfold headN; split <;> omega), headL_getD]; exact decide_eq_true hj
  · rw [app_getD, hl, if_pos (by unfold headN; split <;> omega), headL_getD]; exact decide_eq_false (by omega)
theorem cut_head {k : Nat} (hk : k ≤ 4) (q r : List Bool) : cut (headL k ++ (q ++ r)) (headN k) q.length = q := by
  unfold cut
  rw [← headL_length hk, List.drop_left, List.take_left]
/-- what was put is got -/
theorem dgets_put {v : Int} (hv : -9223372036854775808 ≤ v ∧ v ≤ 9223372036854775807) (r : List Bool) : DGets (codeD v ++ r) v (codeD v).length 0 := by
  have h4 := onesN_le v
  have hb : bodyD (codeD v ++ r) (onesN v) = v := by
    unfold bodyD codeD
    rw [List.append_assoc]
    have := cut_head h4 (low (un64 v) (roomN (onesN v))) r
    rw [low_length] at this
    rw [this, num_low, sgn_mod]
    exact (sgn_room hv h4).2 (Nat.le_refl _)
  refine ⟨onesN v, ?_, .inr (.inr ⟨?_, by rw [hb], hb.symm, codeD_length v, rfl⟩)⟩
  · unfold codeD
    rw [List.append_assoc]
    exact ones_head h4 _
  · rw [List.length_append, codeD_length]; omega
theorem take_getD' (r : List Bool) (n i : Nat) : (r.take n).getD i false = if i < n then r.getD i false else false := by
  split
  · rw [List.getD_eq_getElem?_getD, List.getElem?_take_of_lt (by assumption), List.getD_eq_getElem?_getD]
  · rw [List.getD_eq_getElem?_getD, List.getElem?_eq_none (by rw [List.length_take]; omega)]
    rfl
/-- cut off they end too early -/
theorem dgets_cut {v : Int} {m : Nat} (hm : m < (codeD v).length) : DGets ((codeD v).take m) 0 0 2 := by
  have h4 := onesN_le v
  have hl : ((codeD v).take m).length = m := by rw [List.length_take]; omega
  have ho := ones_head h4 (low (un64 v) (roomN (onesN v)))
  have hcl := codeD_length v
  by_cases h : m < onesN v
  · refine ⟨m, ⟨by omega, by omega, fun j hj => ?_, fun _ => ?_⟩, .inl ⟨?_, rfl, rfl, rfl⟩⟩
    · rw [take_getD', if_pos hj]
      exact ho.all j (by omega)
    · rw [take_getD', if_neg (by omega)]
    · rw [hl]; unfold headN; split <;> omega
  · refine ⟨onesN v, ⟨h4, by omega, fun j hj => ?_, fun hk => ?_⟩, .inl ⟨by omega, rfl, rfl, rfl⟩⟩
    · rw [take_getD', if_pos (by omega)]
      exact ho.all j hj
    · rw [take_getD']
      split
      · exact ho.stop hk
      · rfl
theorem num_inj {p q : List Bool} (hl : p.length = q.length) (h : num p = num q) : p = q := by
  apply getD_ext hl
  intro i hi
  have h1 := congrArg (fun x => x.testBit (p.length - 1 - i)) h
  simp only [num_testBit] at h1
  have e : p.length - 1 - (p.length - 1 - i) = i := by omega
  have e2 : p.length - 1 - i < p.length := by omega
  rw [← hl, e] at h1
  simpa [e2] using h1
/-- bits that begin with k 1s begin with that head -/
theorem take_head {p : List Bool} {k : Nat} (hk : Ones p k) (h : headN k ≤ p.length) : p.take (headN k) = headL k := by
  apply getD_ext
  · rw [List.length_take, headL_length hk.le4]; omega
  · intro i hi
    rw [List.length_take] at hi
    rw [take_getD', if_pos (by omega), headL_getD]
    by_cases hik : i < k
    · rw [hk.all i hik]; exact (decide_eq_true hik).symm
    · have h5 : headN k ≤ k + 1 := by unfold headN; split <;> omega
      have h6 : k < 4 := by
        have := hk.le4
        rcases Nat.lt_or_ge k 4 with g | g
        · exact g
        · have : headN k = 4 := by unfold headN; rw [if_neg (by omega)]
          omega
      obtain rfl : i = k := by omega
      rw [hk.stop h6]; exact (decide_eq_false hik).symm
/-- what is got has those bits as its code -/
theorem dgets_code {p : List Bool} {k : Nat} (hk : Ones p k) (h : headN k + roomN k ≤ p.length) (hb : onesN (bodyD p k) = k) : codeD (bodyD p k) = p.take (headN k + roomN k) := by
  have e : low (un64 (bodyD p k)) (roomN k) = cut p (headN k) (roomN k) := by
    apply num_inj
    · rw [low_length, cut_length _ _ _ h]
    · rw [num_low]
      unfold bodyD
      rw [un64_sgn _ hk.le4]
      apply Nat.mod_eq_of_lt
      have := num_lt (cut p (headN k) (roomN k))
      rwa [cut_length _ _ _ h] at this
  unfold codeD
  rw [hb, e, List.take_add, take_head hk (by omega)]
  rfl
theorem dgets_back {p : List Bool} {v : Int} {n : Nat} (h : DGets p v n 0) : codeD v = p.take n ∧ n ≤ p.length := by
  obtain ⟨k, hk, h⟩ := h
  rcases h with ⟨h1, h2, h3, h4⟩ | ⟨h1, h2, h3, h4, h5⟩ | ⟨h1, h2, h3, h4, h5⟩
  · omega
  · omega
  · subst h3 h4
    exact ⟨dgets_code hk h1 h2, h1⟩

/-- all bits from a place on; none, if there is no such place -/
def restL (bs : List Nat) (a : Int) : List Bool := if 0 ≤ a ∧ a ≤ 8 * (bs.length : Int) then (flat bs).drop a.toNat else []
theorem restL_no {bs : List Nat} {a : Int} (h : a < 0 ∨ 8 * (bs.length : Int) < a) : restL bs a = [] := by unfold restL; rw [if_neg (by omega)]
theorem restL_yes {bs : List Nat} {a : Nat} (h : a ≤ 8 * bs.length) : restL bs a = (flat bs).drop a := by unfold restL; rw [if_pos (by omega)]; rfl
theorem restL_length {bs : List Nat} {a : Nat} (h : a ≤ 8 * bs.length) : (restL bs a).length = 8 * bs.length - a := by rw [restL_yes h, List.length_drop, flat_length]
theorem cut_drop (p : List Bool) (a b n : Nat) : cut (p.drop a) b n = cut p (a + b) n := by unfold cut; rw [List.drop_drop]
/-- bits from the j-th behind a place on are there just as there are so many -/
theorem take_rest {bs : List Nat} {a j n : Nat} (h : a ≤ 8 * bs.length) (hn : n ≤ 64) : takeB bs (a + j : Nat) n = decide (j + n ≤ (restL bs a).length) ∧ (j + n ≤ (restL bs a).length → takeN bs (a + j : Nat) n = num (cut (restL bs a) j n)) := by
  have hl := restL_length h
  by_cases hy : a + j + n ≤ 8 * bs.length
  · have h1 := takeB_yes (bs := bs) (a := a + j) (n := n) hn hy
    refine ⟨h1.1.trans (decide_eq_true (by omega)).symm, fun _ => ?_⟩
    rw [h1.2, restL_yes h, cut_drop]
  · refine ⟨(takeB_no (bs := bs) (a := ((a + j : Nat) : Int)) (n := (n : Int)) (by omega)).1.trans (decide_eq_false (by omega)).symm, fun _ => by omega⟩
theorem num_cut_one (p : List Bool) (j : Nat) (h : j < p.length) : num (cut p j 1) = (p.getD j false).toNat := by
  rw [cut_succ _ _ _ (by omega), cut_zero, List.nil_append, Nat.add_zero]
  have := num_snoc [] (p.getD j false)
  rw [List.nil_append] at this
  rw [this, num_nil]; omega

end Go.Proofs.YtaebljoacffghaaGreatDoor

/-
  Plain facts (no program): codes of values by the bits in which they are other than the one ahead, and what bits begin with in a state.
-/
namespace Go.Proofs.YtaebljoacffghaaGreatDoor

/-- how many bits a number has -/
def lenB (x : Nat) : Nat := if x = 0 then 0 else x.log2 + 1
/-- how many of 64 bits ahead of the first 1 are 0 -/
def lzN (x : Nat) : Nat := 64 - lenB x
def tzF : Nat → Nat → Nat
  | 0, _ => 0
  | n + 1, x => if x % 2 = 1 then 0 else tzF n (x / 2) + 1
/-- how many of 64 bits behind the last 1 are 0 -/
def tzN (x : Nat) : Nat := tzF 64 x
/-- how many there are from the first 1 to the last one -/
def szN (x : Nat) : Nat := 64 - lzN x - tzN x

theorem lenB_lt (x : Nat) : x < 2 ^ lenB x := by
  unfold lenB
  split
  · omega
  · exact Nat.lt_log2_self
theorem lenB_ge {x : Nat} (h : x ≠ 0) : 0 < lenB x ∧ 2 ^ (lenB x - 1) ≤ x := by
  unfold lenB
  rw [if_neg h]
  exact ⟨by omega, Nat.log2_self_le h⟩
/-- a number of n bits has n bits -/
theorem lenB_is {x n : Nat} (h1 : x < 2 ^ n) (h2 : n = 0 ∨ 2 ^ (n - 1) ≤ x) : lenB x = n := by
  rcases Nat.eq_zero_or_pos x with rfl | hx
  · rcases h2 with rfl | h2
    · rfl
    · have := Nat.pow_pos (n := n - 1) (show 0 < 2 by omega)
      omega
  · have h3 := lenB_lt x
    have h4 := lenB_ge (show x ≠ 0 by omega)
    rcases Nat.lt_trichotomy (lenB x) n with h | h | h
    · have h5 : 2 ^ lenB x ≤ 2 ^ (n - 1) := Nat.pow_le_pow_right (by omega) (by omega)
      rcases h2 with h2 | h2 <;> omega
    · exact h
    · have h5 : 2 ^ n ≤ 2 ^ (lenB x - 1) := Nat.pow_le_pow_right (by omega) (by omega)
      omega
theorem lenB_le {x : Nat} (hx : x ≤ 18446744073709551615) : lenB x ≤ 64 := by
  rcases Nat.lt_or_ge 64 (lenB x) with h | h
  · have h1 : x ≠ 0 := by rintro rfl; simp [lenB] at h
    have h2 := (lenB_ge h1).2
    have h3 : 2 ^ 64 ≤ 2 ^ (lenB x - 1) := Nat.pow_le_pow_right (by omega) (by omega)
    omega
  · exact h
/-- of more bits, by a shift -/
theorem lenB_shift {x k : Nat} (h : 2 ^ k ≤ x) : lenB x = lenB (x / 2 ^ k) + k := by
  have hp := Nat.pow_pos (n := k) (show 0 < 2 by omega)
  have h0 : x / 2 ^ k ≠ 0 := by
    have := Nat.div_pos h hp
    omega
  have h1 := lenB_lt (x / 2 ^ k)
  have h2 := lenB_ge h0
  apply lenB_is
  · rw [Nat.pow_add]
    have := (Nat.div_lt_iff_lt_mul hp).1 h1
    exact this
  · right
    have e : lenB (x / 2 ^ k) + k - 1 = lenB (x / 2 ^ k) - 1 + k := by omega
    rw [e, Nat.pow_add]
    exact (Nat.le_div_iff_mul_le hp).1 h2.2

theorem lz_le (x : Nat) : lzN x ≤ 64 := by unfold lzN; omega
theorem lz_zero : lzN 0 = 64 := by decide
theorem lz_lt {x : Nat} (h : x ≠ 0) : lzN x ≤ 63 := by
  have := (lenB_ge h).1
  unfold lzN; omega
theorem lz_up {x : Nat} (hx : x ≤ 18446744073709551615) : x < 2 ^ (64 - lzN x) := by
  have h1 := lenB_le hx
  have h2 := lenB_lt x
  have e : 64 - lzN x = lenB x := by unfold lzN; omega
  rwa [e]
theorem lz_down {x : Nat} (hx : x ≤ 18446744073709551615) (h : x ≠ 0) : 2 ^ (63 - lzN x) ≤ x := by
  have h1 := lenB_le hx
  have h2 := lenB_ge h
  have e : 63 - lzN x = lenB x - 1 := by unfold lzN; omega
  rw [e]
  exact h2.2
theorem lz_ge {x a : Nat} (hx : x ≤ 18446744073709551615) (ha : a ≤ 64) (h : x < 2 ^ (64 - a)) : a ≤ lzN x := by
  rcases Nat.lt_or_ge (lzN x) a with g | g
  · rcases Nat.eq_zero_or_pos x with rfl | h0
    · rw [lz_zero]; exact ha
    · have h1 := lz_down hx (by omega)
      have h2 : 2 ^ (64 - a) ≤ 2 ^ (63 - lzN x) := Nat.pow_le_pow_right (by omega) (by omega)
      omega
  · exact g
theorem lz_under {x a : Nat} (hx : x ≤ 18446744073709551615) (h : a ≤ lzN x) : x < 2 ^ (64 - a) := by
  have h1 := lz_up hx
  have h2 : 2 ^ (64 - lzN x) ≤ 2 ^ (64 - a) := Nat.pow_le_pow_right (by omega) (by omega)
  omega

theorem tzF_zero : ∀ n, tzF n 0 = n
  | 0 => rfl
  | n + 1 => by
    unfold tzF
    rw [if_neg (by omega), Nat.zero_div, tzF_zero n]
theorem tzF_is : ∀ (n x : Nat), 0 < x → x < 2 ^ n → tzF n x < n ∧ ∃ m, x = 2 ^ tzF n x * (2 * m + 1)
  | 0, x, h0, h1 => by simp at h1; omega
  | n + 1, x, h0, h1 => by
    unfold tzF
    split
    · exact ⟨by omega, x / 2, by simp; omega⟩
    · rw [Nat.pow_succ] at h1
      obtain ⟨h2, m, h3⟩ := tzF_is n (x / 2) (by omega) (by omega)
      refine ⟨by omega, m, ?_⟩
      rw [Nat.pow_succ, Nat.mul_right_comm, ← h3]
      omega
theorem tz_zero : tzN 0 = 64 := tzF_zero 64
theorem tz_is {x : Nat} (hx : x ≤ 18446744073709551615) (h : x ≠ 0) : tzN x ≤ 63 ∧ ∃ m, x = 2 ^ tzN x * (2 * m + 1) := by
  obtain ⟨h1, h2⟩ := tzF_is 64 x (by omega) (by omega)
  exact ⟨by unfold tzN; omega, h2⟩
theorem tz_dvd {x k : Nat} (hx : x ≤ 18446744073709551615) (h : x ≠ 0) (hk : k ≤ tzN x) : 2 ^ k ∣ x := by
  obtain ⟨_, m, h2⟩ := tz_is hx h
  rw [h2]
  exact Nat.dvd_trans (Nat.pow_dvd_pow 2 hk) (Nat.dvd_mul_right _ _)
theorem tz_ge {x k : Nat} (hx : x ≤ 18446744073709551615) (h : x ≠ 0) (hk : 2 ^ k ∣ x) : k ≤ tzN x := by
  rcases Nat.lt_or_ge (tzN x) k with g | g
  · obtain ⟨_, m, h2⟩ := tz_is hx h
    exfalso
    have h3 : 2 ^ (tzN x + 1) ∣ x := Nat.dvd_trans (Nat.pow_dvd_pow 2 g) hk
    obtain ⟨c, h4⟩ := h3
    have hp := Nat.pow_pos (n := tzN x) (show 0 < 2 by omega)
    have h5 : 2 ^ tzN x * (2 * m + 1) = 2 ^ tzN x * (2 * c) := by rw [← h2, ← Nat.mul_assoc, ← Nat.pow_succ]; exact h4
    have := Nat.eq_of_mul_eq_mul_left hp h5
    omega
  · exact g
theorem lz_tz {x : Nat} (hx : x ≤ 18446744073709551615) (h : x ≠ 0) : lzN x + tzN x ≤ 63 := by
  obtain ⟨h0, m, h2⟩ := tz_is hx h
  have h3 := lz_up hx
  have h4 := lz_lt h
  rcases Nat.lt_or_ge 63 (lzN x + tzN x) with g | g
  · exfalso
    have h5 : 2 ^ (64 - lzN x) ≤ 2 ^ tzN x := Nat.pow_le_pow_right (by omega) (by omega)
    have h6 : 2 ^ tzN x * 1 ≤ 2 ^ tzN x * (2 * m + 1) := Nat.mul_le_mul_left _ (by omega)
    omega
  · exact g
theorem sz_pos {x : Nat} (hx : x ≤ 18446744073709551615) (h : x ≠ 0) : 1 ≤ szN x ∧ lzN x + szN x ≤ 64 ∧ 64 - lzN x - szN x = tzN x := by
  have := lz_tz hx h
  unfold szN; omega

/-- a number and what it is less than 2^64, and: the last 1 alone -/
theorem low_one {x : Nat} (hx : x ≤ 18446744073709551615) (h : x ≠ 0) : x &&& (18446744073709551616 - x) = 2 ^ tzN x := by
  obtain ⟨h0, m, h2⟩ := tz_is hx h
  generalize tzN x = t at *
  have hp := Nat.pow_pos (n := t) (show 0 < 2 by omega)
  have h1 : 2 ^ t * (2 * m + 1) - 1 = 2 ^ t * (2 * m) + (2 ^ t - 1) := by
    rw [Nat.mul_add, Nat.mul_one]; omega
  have e : 18446744073709551616 - x = 2 ^ 64 - (x - 1 + 1) := by omega
  apply Nat.eq_of_testBit_eq
  intro j
  rw [Nat.testBit_and, e, Nat.testBit_two_pow_sub_succ (by omega), Nat.testBit_two_pow]
  have h3 : (x - 1).testBit j = if j < t then (2 ^ t - 1).testBit j else (2 * m).testBit (j - t) := by
    rw [h2, h1, Nat.testBit_two_pow_mul_add _ (by omega)]
  have h4 : x.testBit j = if j < t then false else (2 * m + 1).testBit (j - t) := by
    have := Nat.testBit_two_pow_mul_add (2 * m + 1) (b := 0) (i := t) (by omega) j
    rw [Nat.add_zero, Nat.zero_testBit] at this
    rw [← this, ← h2]
  rw [h3, h4]
  by_cases g : j < t
  · have e5 : decide (t = j) = false := decide_eq_false (by omega)
    rw [e5]
    simp [g]
  · rw [if_neg g, if_neg g]
    by_cases g2 : t = j
    · subst g2
      have e6 : t < 64 := by omega
      simp [e6]
    · obtain ⟨i, rfl⟩ : ∃ i, j = t + (i + 1) := ⟨j - t - 1, by omega⟩
      rw [Nat.add_sub_cancel_left, Nat.testBit_succ, Nat.testBit_succ, Nat.mul_div_cancel_left _ (by omega)]
      have : (2 * m + 1) / 2 = m := by omega
      rw [this]
      have e5 : decide (t = t + (i + 1)) = false := decide_eq_false (by omega)
      rw [e5]
      cases m.testBit i <;> simp

theorem low_num (q : List Bool) {n : Nat} (h : q.length = n) : low (num q) n = q := by
  subst h
  apply num_inj
  · rw [low_length]
  · rw [num_low]
    exact Nat.mod_eq_of_lt (num_lt q)
theorem low_bit (x i : Nat) (h : i < 64) : (low x 64).getD i false = x.testBit (63 - i) := low_getD x 64 i h
/-- a window's bits, by a shift -/
theorem cut_low (x a n : Nat) (h : a + n ≤ 64) : cut (low x 64) a n = low (x / 2 ^ (64 - a - n)) n := by
  apply getD_ext
  · rw [cut_length _ _ _ (by rw [low_length]; omega), low_length]
  · intro i hi
    rw [cut_length _ _ _ (by rw [low_length]; omega)] at hi
    rw [cut_getD _ _ _ _ hi, low_bit _ _ (by omega), low_getD _ _ _ hi, Nat.testBit_div_two_pow]
    congr 1
    omega
theorem cut_low_length (x a n : Nat) (h : a + n ≤ 64) : (cut (low x 64) a n).length = n := by rw [cut_length _ _ _ (by rw [low_length]; omega)]
/-- what a window's bits tell is the number, if all its 1s are there -/
theorem win_word {x a n : Nat} (han : a + n ≤ 64) (h1 : x < 2 ^ (64 - a)) (h2 : 2 ^ (64 - a - n) ∣ x) : num (cut (low x 64) a n) * 2 ^ (64 - a - n) = x := by
  have hp := Nat.pow_pos (n := 64 - a - n) (show 0 < 2 by omega)
  rw [cut_low _ _ _ han, num_low, Nat.mod_eq_of_lt, Nat.div_mul_cancel h2]
  rw [Nat.div_lt_iff_lt_mul hp, ← Nat.pow_add]
  have e : n + (64 - a - n) = 64 - a := by omega
  rwa [e]
/-- a number of n bits in a window -/
theorem word_in {y a n : Nat} (han : a + n ≤ 64) (hy : y < 2 ^ n) : y * 2 ^ (64 - a - n) < 2 ^ (64 - a) ∧ y * 2 ^ (64 - a - n) ≤ 18446744073709551615 ∧ 2 ^ (64 - a - n) ∣ y * 2 ^ (64 - a - n) ∧ y * 2 ^ (64 - a - n) / 2 ^ (64 - a - n) = y := by
  have hp := Nat.pow_pos (n := 64 - a - n) (show 0 < 2 by omega)
  have h1 : y * 2 ^ (64 - a - n) < 2 ^ (64 - a) := by
    have e : 64 - a = n + (64 - a - n) := by omega
    have : y * 2 ^ (64 - a - n) < 2 ^ n * 2 ^ (64 - a - n) := Nat.mul_lt_mul_of_pos_right hy hp
    rw [← Nat.pow_add, ← e] at this
    exact this
  have h2 : 2 ^ (64 - a) ≤ 2 ^ 64 := Nat.pow_le_pow_right (by omega) (by omega)
  exact ⟨h1, by omega, Nat.dvd_mul_left _ _, Nat.mul_div_cancel _ hp⟩

/-- a state: the value ahead, and a window -/
structure XS where
  prev : Nat
  lead : Nat
  len : Nat
/-- it may be -/
structure XS.May (s : XS) : Prop where
  p : s.prev ≤ 18446744073709551615
  a : s.lead ≤ 63
  b : s.lead + s.len ≤ 64
  c : s.len = 0 → s.lead = 0
def zeroX : XS := ⟨0, 0, 0⟩
theorem zeroX_may : zeroX.May := ⟨by simp [zeroX], by simp [zeroX], by simp [zeroX], fun _ => rfl⟩

/-- is there a window, and are all 1s in it? -/
def fitsX (s : XS) (x : Nat) : Prop := 0 < s.len ∧ s.lead ≤ lzN x ∧ 64 - s.lead - s.len ≤ tzN x
instance (s : XS) (x : Nat) : Decidable (fitsX s x) := by unfold fitsX; infer_instance
/-- a code by a new window, from the first 1 to the last one -/
def newX (x : Nat) : List Bool := [true, true] ++ low (lzN x) 6 ++ low (szN x - 1) 6 ++ cut (low x 64) (lzN x) (szN x)
/-- a code by the window that is there -/
def oldX (s : XS) (x : Nat) : List Bool := [true, false] ++ cut (low x 64) s.lead s.len
/-- a value's code, x being the bits in which it is another one -/
def codeOf (s : XS) (x : Nat) : List Bool := if x = 0 then [false] else if fitsX s x then oldX s x else newX x
def codeX (s : XS) (v : Nat) : List Bool := codeOf s (s.prev ^^^ v)
/-- the state behind it -/
def nextOf (s : XS) (x v : Nat) : XS := if x = 0 ∨ fitsX s x then ⟨v, s.lead, s.len⟩ else ⟨v, lzN x, szN x⟩
def nextX (s : XS) (v : Nat) : XS := nextOf s (s.prev ^^^ v) v

theorem xor_lt {a b : Nat} (ha : a ≤ 18446744073709551615) (hb : b ≤ 18446744073709551615) : a ^^^ b ≤ 18446744073709551615 := by
  have := Nat.xor_lt_two_pow (x := a) (y := b) (n := 64) (by omega) (by omega)
  omega
theorem xor_back (a b : Nat) : a ^^^ (a ^^^ b) = b := by rw [← Nat.xor_assoc, Nat.xor_self, Nat.zero_xor]
theorem xor_zero_eq {a b : Nat} (h : a ^^^ b = 0) : a = b := by
  have := xor_back a b
  rw [h, Nat.xor_zero] at this
  exact this
theorem nextX_prev (s : XS) (v : Nat) : (nextX s v).prev = v := by unfold nextX nextOf; split <;> rfl
theorem nextX_may {s : XS} {v : Nat} (h : s.May) (hv : v ≤ 18446744073709551615) : (nextX s v).May := by
  have hx := xor_lt h.p hv
  unfold nextX nextOf
  split
  · exact ⟨hv, h.a, h.b, h.c⟩
  · rename_i h1
    have h0 : s.prev ^^^ v ≠ 0 := fun e => h1 (.inl e)
    have h2 := sz_pos hx h0
    have h3 := lz_lt h0
    exact ⟨hv, h3, h2.2.1, fun e => by simp only at e; omega⟩
theorem newX_length {x : Nat} (hx : x ≤ 18446744073709551615) (h : x ≠ 0) : (newX x).length = 14 + szN x := by
  have := sz_pos hx h
  unfold newX
  simp only [List.length_append, low_length, cut_low_length _ _ _ this.2.1, List.length_cons, List.length_nil]
theorem oldX_length {s : XS} (h : s.May) (x : Nat) : (oldX s x).length = 2 + s.len := by
  unfold oldX
  simp only [List.length_append, cut_low_length _ _ _ h.b, List.length_cons, List.length_nil]
theorem codeOf_pos {s : XS} {x : Nat} (h : s.May) (hx : x ≤ 18446744073709551615) : 1 ≤ (codeOf s x).length ∧ (codeOf s x).length ≤ 78 := by
  unfold codeOf
  split
  · simp
  · rename_i h0
    split
    · rw [oldX_length h]; have := h.b; omega
    · rw [newX_length hx h0]; have := sz_pos hx h0; omega
theorem codeX_pos {s : XS} {v : Nat} (h : s.May) (hv : v ≤ 18446744073709551615) : 1 ≤ (codeX s v).length ∧ (codeX s v).length ≤ 78 := codeOf_pos h (xor_lt h.p hv)

/-- what bits begin with: a value, the state behind it, how many bits its code has, an error's number -/
structure XA where
  v : Nat
  s : XS
  n : Nat
  e : Nat
def badX (e : Nat) : XA := ⟨0, zeroX, 0, e⟩
/-- what a window's bits tell -/
def wordX (p : List Bool) (h a n : Nat) : Nat := num (cut p h n) * 2 ^ (64 - a - n)
/-- are they a value's code? -/
def testX (s : XS) (p : List Bool) (h n x : Nat) : XA := if codeOf s x = p.take (h + n) then ⟨s.prev ^^^ x, nextOf s x (s.prev ^^^ x), h + n, 0⟩ else badX 3
def tailX (s : XS) (p : List Bool) (h a n : Nat) : XA := if n = 0 ∨ 64 < a + n then badX 3 else if p.length < h + n then badX 2 else testX s p h n (wordX p h a n)
def getX (s : XS) (p : List Bool) : XA :=
  if p.length = 0 then badX 2 else if p.getD 0 false = false then ⟨s.prev, s, 1, 0⟩ else if p.length = 1 then badX 2
  else if p.getD 1 false = false then tailX s p 2 s.lead s.len else if p.length < 14 then badX 2
  else tailX s p 14 (num (cut p 2 6)) (num (cut p 8 6) + 1)

theorem take_two {p : List Bool} (h : 2 ≤ p.length) (n : Nat) : p.take (2 + n) = [p.getD 0 false, p.getD 1 false] ++ cut p 2 n := by
  match p, h with
  | a :: b :: p, _ => simp [cut, Nat.add_comm 2 n]
theorem cut_more (p : List Bool) (a m n : Nat) : cut p a (m + n) = cut p a m ++ cut p (a + m) n := by
  unfold cut
  rw [List.take_add, List.drop_drop]
theorem take_new {p : List Bool} (h : 2 ≤ p.length) (n : Nat) : p.take (14 + n) = [p.getD 0 false, p.getD 1 false] ++ cut p 2 6 ++ cut p 8 6 ++ cut p 14 n := by
  rw [show 14 + n = 2 + (6 + (6 + n)) by omega, take_two h, cut_more, cut_more, List.append_assoc, List.append_assoc]
theorem num_cut_lt (p : List Bool) (a n : Nat) : num (cut p a n) < 2 ^ n := by
  have h1 := num_lt (cut p a n)
  have h2 : 2 ^ (cut p a n).length ≤ 2 ^ n := Nat.pow_le_pow_right (by omega) (by unfold cut; rw [List.length_take]; omega)
  omega
theorem wordX_le (p : List Bool) {h a n : Nat} (han : a + n ≤ 64) : wordX p h a n ≤ 18446744073709551615 := (word_in han (num_cut_lt p h n)).2.1
/-- a window's bits, as they are told -/
theorem cut_word {p : List Bool} {h a n : Nat} (han : a + n ≤ 64) (hl : h + n ≤ p.length) : cut (low (wordX p h a n) 64) a n = cut p h n := by
  rw [cut_low _ _ _ han]
  unfold wordX
  rw [(word_in han (num_cut_lt p h n)).2.2.2, low_num]
  exact cut_length _ _ _ hl

/-- by the window that is there: they are a code just if one is 1 -/
theorem old_test {s : XS} {p : List Bool} (hs : s.May) (h0 : p.getD 0 false = true) (h1 : p.getD 1 false = false) (hn : s.len ≠ 0) (hl : 2 + s.len ≤ p.length) :
    testX s p 2 s.len (wordX p 2 s.lead s.len) = if wordX p 2 s.lead s.len = 0 then badX 3 else ⟨s.prev ^^^ wordX p 2 s.lead s.len, ⟨s.prev ^^^ wordX p 2 s.lead s.len, s.lead, s.len⟩, 2 + s.len, 0⟩ := by
  have hb := hs.b
  have hw := word_in hs.b (num_cut_lt p 2 s.len)
  have hc := cut_word (p := p) (h := 2) hb hl
  have ht := take_two (p := p) (by omega) s.len
  change wordX p 2 s.lead s.len < _ ∧ wordX p 2 s.lead s.len ≤ _ ∧ _ ∣ wordX p 2 s.lead s.len ∧ _ at hw
  generalize wordX p 2 s.lead s.len = x at *
  unfold testX
  by_cases h : x = 0
  · subst h
    rw [if_neg, if_pos rfl]
    intro e
    have := congrArg List.length e
    rw [List.length_take] at this
    simp [codeOf] at this
    omega
  · rw [if_neg h]
    have hf : fitsX s x := ⟨by omega, lz_ge hw.2.1 (by omega) hw.1, tz_ge hw.2.1 h hw.2.2.1⟩
    rw [if_pos]
    · unfold nextOf
      rw [if_pos (.inr hf)]
    · unfold codeOf oldX
      rw [if_neg h, if_pos hf, hc, ht, h0, h1]

/-- by a new window: they are a code just if the first and the last one are 1, and the window ahead had no room -/
theorem new_test {s : XS} {p : List Bool} {a n : Nat} (h0 : p.getD 0 false = true) (h1 : p.getD 1 false = true) (ha : a = num (cut p 2 6)) (hn : n = num (cut p 8 6) + 1) (han : a + n ≤ 64) (hl : 14 + n ≤ p.length) :
    testX s p 14 n (wordX p 14 a n) = if lzN (wordX p 14 a n) = a ∧ szN (wordX p 14 a n) = n ∧ ¬ fitsX s (wordX p 14 a n) then ⟨s.prev ^^^ wordX p 14 a n, ⟨s.prev ^^^ wordX p 14 a n, a, n⟩, 14 + n, 0⟩ else badX 3 := by
  have hw := word_in han (num_cut_lt p 14 n)
  have hc := cut_word (p := p) (h := 14) han hl
  have ht := take_new (p := p) (by omega) n
  change wordX p 14 a n < _ ∧ wordX p 14 a n ≤ _ ∧ _ ∣ wordX p 14 a n ∧ _ at hw
  generalize wordX p 14 a n = x at *
  have h6 := num_cut_lt p 2 6
  have h7 := num_cut_lt p 8 6
  have hla : (cut p 2 6).length = 6 := cut_length _ _ _ (by omega)
  have hln : (cut p 8 6).length = 6 := cut_length _ _ _ (by omega)
  unfold testX
  by_cases hx : x = 0
  · subst hx
    rw [if_neg, if_neg]
    · rw [lz_zero]
      intro h
      omega
    · intro e
      have := congrArg List.length e
      rw [List.length_take] at this
      simp [codeOf] at this
      omega
  · by_cases hf : fitsX s x
    · rw [if_neg, if_neg (fun h => h.2.2 hf)]
      intro e
      have := congrArg (fun l => l.getD 1 false) e
      rw [ht, h1] at this
      simp [codeOf, oldX, hx, hf] at this
    · have hz := sz_pos hw.2.1 hx
      have hz3 := lz_lt hx
      by_cases hq : lzN x = a ∧ szN x = n
      · rw [if_pos, if_pos ⟨hq.1, hq.2, hf⟩]
        · unfold nextOf
          rw [if_neg (fun h => h.elim hx hf), hq.1, hq.2]
        · unfold codeOf newX
          rw [if_neg hx, if_neg hf, hq.1, hq.2, hc, ht, h0, h1]
          have e1 : low a 6 = cut p 2 6 := by rw [ha]; exact low_num _ hla
          have e2 : low (n - 1) 6 = cut p 8 6 := by rw [hn, Nat.add_sub_cancel]; exact low_num _ hln
          rw [e1, e2]
      · rw [if_neg, if_neg (fun h => hq ⟨h.1, h.2.1⟩)]
        intro e
        apply hq
        unfold codeOf newX at e
        rw [if_neg hx, if_neg hf, ht, h0, h1] at e
        simp only [List.append_assoc, List.cons_append, List.nil_append, List.cons.injEq, true_and] at e
        obtain ⟨e1, e2⟩ := List.append_inj e (by rw [low_length, hla])
        obtain ⟨e3, _⟩ := List.append_inj e2 (by rw [low_length, hln])
        have g1 := congrArg num e1
        have g2 := congrArg num e3
        rw [num_low] at g1 g2
        omega

/-- what was put is got -/
theorem getX_put {s : XS} {v : Nat} (hs : s.May) (hv : v ≤ 18446744073709551615) (q : List Bool) : getX s (codeX s v ++ q) = ⟨v, nextX s v, (codeX s v).length, 0⟩ := by
  have hx := xor_lt hs.p hv
  have hb := xor_back s.prev v
  have hn1 : nextX s v = nextOf s (s.prev ^^^ v) v := rfl
  unfold codeX
  rw [hn1]
  generalize hxe : s.prev ^^^ v = x at *
  by_cases h0 : x = 0
  · have hp := xor_zero_eq (hxe.trans h0)
    have hn : nextOf s x v = s := by unfold nextOf; rw [if_pos (.inl h0), ← hp]
    rw [hn, ← hp]
    unfold codeOf
    rw [if_pos h0]
    rfl
  · by_cases hf : fitsX s x
    · have hl := oldX_length hs x
      have hc : codeOf s x = oldX s x := by unfold codeOf; rw [if_neg h0, if_pos hf]
      have hp : (codeOf s x ++ q).take (2 + s.len) = codeOf s x := by rw [hc, ← hl, List.take_left]
      have hlen : (codeOf s x ++ q).length = 2 + s.len + q.length := by rw [List.length_append, hc, hl]
      have g0 : (codeOf s x ++ q).getD 0 false = true := by rw [hc]; rfl
      have g1 : (codeOf s x ++ q).getD 1 false = false := by rw [hc]; rfl
      have hcut : cut (codeOf s x ++ q) 2 s.len = cut (low x 64) s.lead s.len := by
        rw [hc]
        unfold oldX cut
        simp only [List.cons_append, List.nil_append, List.drop_succ_cons, List.drop_zero]
        apply List.take_left'
        exact cut_low_length _ _ _ hs.b
      have hw : wordX (codeOf s x ++ q) 2 s.lead s.len = x := by
        unfold wordX
        rw [hcut]
        exact win_word hs.b (lz_under hx hf.2.1) (tz_dvd hx h0 hf.2.2)
      have h64 := hs.b
      have hlp := hf.1
      unfold getX tailX
      rw [if_neg (by omega), g0, if_neg (by simp), if_neg (by omega), g1, if_pos rfl, if_neg (by omega), if_neg (by omega), hw]
      unfold testX
      rw [hp, if_pos rfl, hb, hc, hl]
    · have hz := sz_pos hx h0
      have hz3 := lz_lt h0
      have hl := newX_length hx h0
      have hc : codeOf s x = newX x := by unfold codeOf; rw [if_neg h0, if_neg hf]
      have hp : (codeOf s x ++ q).take (14 + szN x) = codeOf s x := by rw [hc, ← hl, List.take_left]
      have hlen : (codeOf s x ++ q).length = 14 + szN x + q.length := by rw [List.length_append, hc, hl]
      have g0 : (codeOf s x ++ q).getD 0 false = true := by rw [hc]; rfl
      have g1 : (codeOf s x ++ q).getD 1 false = true := by rw [hc]; rfl
      have hcut : cut (codeOf s x ++ q) 2 6 = low (lzN x) 6 ∧ cut (codeOf s x ++ q) 8 6 = low (szN x - 1) 6 ∧ cut (codeOf s x ++ q) 14 (szN x) = cut (low x 64) (lzN x) (szN x) := by
        have hcl := cut_low_length x (lzN x) (szN x) hz.2.1
        have hll := low_length (lzN x) 6
        have hsl := low_length (szN x - 1) 6
        rw [hc]
        unfold newX
        generalize cut (low x 64) (lzN x) (szN x) = c3 at *
        generalize low (lzN x) 6 = c1 at *
        generalize low (szN x - 1) 6 = c2 at *
        generalize szN x = z at *
        refine ⟨?_, ?_, ?_⟩
        · unfold cut
          simp only [List.append_assoc, List.cons_append, List.nil_append, List.drop_succ_cons, List.drop_zero]
          exact List.take_left' hll
        · unfold cut
          simp only [List.append_assoc, List.cons_append, List.nil_append]
          rw [show (8 : Nat) = 6 + 1 + 1 by omega, List.drop_succ_cons, List.drop_succ_cons, List.drop_left' hll]
          exact List.take_left' hsl
        · unfold cut
          simp only [List.append_assoc, List.cons_append, List.nil_append]
          rw [show (14 : Nat) = 6 + 6 + 1 + 1 by omega, List.drop_succ_cons, List.drop_succ_cons, ← List.drop_drop, List.drop_left' hll, List.drop_left' hsl]
          exact List.take_left' hcl
      have ha : num (cut (codeOf s x ++ q) 2 6) = lzN x := by rw [hcut.1, num_low]; omega
      have hn : num (cut (codeOf s x ++ q) 8 6) + 1 = szN x := by rw [hcut.2.1, num_low]; omega
      have hw : wordX (codeOf s x ++ q) 14 (lzN x) (szN x) = x := by
        unfold wordX
        rw [hcut.2.2]
        exact win_word hz.2.1 (lz_under hx (Nat.le_refl _)) (tz_dvd hx h0 (by omega))
      unfold getX tailX
      rw [if_neg (by omega), g0, if_neg (by simp), if_neg (by omega), g1, if_neg (by simp), if_neg (by omega), ha, hn, if_neg (by omega), if_neg (by omega), hw]
      unfold testX
      rw [hp, if_pos rfl, hb, hc, hl]

theorem testX_back {s : XS} {p : List Bool} {h n x : Nat} (hx : (testX s p h n x).e = 0) (hl : h + n ≤ p.length) (h1 : 1 ≤ h) :
    codeX s (testX s p h n x).v = p.take (testX s p h n x).n ∧ nextX s (testX s p h n x).v = (testX s p h n x).s ∧ 1 ≤ (testX s p h n x).n ∧ (testX s p h n x).n ≤ p.length := by
  unfold testX at hx ⊢
  split
  · rename_i hc
    simp only [codeX, nextX, xor_back]
    exact ⟨hc, trivial, by omega, hl⟩
  · rename_i hc
    rw [if_neg hc] at hx
    simp [badX] at hx
theorem tailX_back {s : XS} {p : List Bool} {h a n : Nat} (hx : (tailX s p h a n).e = 0) (h1 : 1 ≤ h) :
    codeX s (tailX s p h a n).v = p.take (tailX s p h a n).n ∧ nextX s (tailX s p h a n).v = (tailX s p h a n).s ∧ 1 ≤ (tailX s p h a n).n ∧ (tailX s p h a n).n ≤ p.length := by
  unfold tailX at hx ⊢
  split
  · rename_i hc
    rw [if_pos hc] at hx
    simp [badX] at hx
  · rename_i hc
    rw [if_neg hc] at hx
    split
    · rename_i hd
      rw [if_pos hd] at hx
      simp [badX] at hx
    · rename_i hd
      rw [if_neg hd] at hx
      exact testX_back hx (by omega) h1
/-- what is got has those bits as its code -/
theorem getX_back {s : XS} {p : List Bool} (hx : (getX s p).e = 0) :
    codeX s (getX s p).v = p.take (getX s p).n ∧ nextX s (getX s p).v = (getX s p).s ∧ 1 ≤ (getX s p).n ∧ (getX s p).n ≤ p.length := by
  unfold getX at hx ⊢
  by_cases h1 : p.length = 0
  · rw [if_pos h1] at hx
    simp [badX] at hx
  rw [if_neg h1] at hx ⊢
  by_cases h2 : p.getD 0 false = false
  · rw [if_pos h2]
    refine ⟨?_, ?_, by simp, by simp; omega⟩
    · simp only [codeX, codeOf, Nat.xor_self, if_true]
      match p, h1, h2 with
      | a :: p, _, h2 => simpa using h2.symm
    · simp only [nextX, nextOf, Nat.xor_self, true_or, if_true]
  rw [if_neg h2] at hx ⊢
  by_cases h3 : p.length = 1
  · rw [if_pos h3] at hx
    simp [badX] at hx
  rw [if_neg h3] at hx ⊢
  by_cases h4 : p.getD 1 false = false
  · rw [if_pos h4] at hx ⊢
    exact tailX_back hx (by omega)
  rw [if_neg h4] at hx ⊢
  by_cases h5 : p.length < 14
  · rw [if_pos h5] at hx
    simp [badX] at hx
  rw [if_neg h5] at hx ⊢
  exact tailX_back hx (by omega)

theorem testX_in {s : XS} {p : List Bool} {h n x : Nat} (hs : s.May) (hx : x ≤ 18446744073709551615) (hn : h + n ≤ 78) : (testX s p h n x).v ≤ 18446744073709551615 ∧ (testX s p h n x).s.May ∧ (testX s p h n x).n ≤ 78 ∧ (testX s p h n x).e ≤ 3 := by
  unfold testX
  split
  · have hv := xor_lt hs.p hx
    have := nextX_may hs hv
    unfold nextX at this
    rw [xor_back] at this
    exact ⟨hv, this, hn, by simp⟩
  · exact ⟨by simp [badX], zeroX_may, by simp [badX], by simp [badX]⟩
theorem tailX_in {s : XS} {p : List Bool} {h a n : Nat} (hs : s.May) (hn : h ≤ 14) : (tailX s p h a n).v ≤ 18446744073709551615 ∧ (tailX s p h a n).s.May ∧ (tailX s p h a n).n ≤ 78 ∧ (tailX s p h a n).e ≤ 3 := by
  unfold tailX
  split
  · exact ⟨by simp [badX], zeroX_may, by simp [badX], by simp [badX]⟩
  · split
    · exact ⟨by simp [badX], zeroX_may, by simp [badX], by simp [badX]⟩
    · exact testX_in hs (wordX_le p (by omega)) (by omega)
theorem getX_in {s : XS} (p : List Bool) (hs : s.May) : (getX s p).v ≤ 18446744073709551615 ∧ (getX s p).s.May ∧ (getX s p).n ≤ 78 ∧ (getX s p).e ≤ 3 := by
  have hbad : (badX 2).v ≤ 18446744073709551615 ∧ (badX 2).s.May ∧ (badX 2).n ≤ 78 ∧ (badX 2).e ≤ 3 := ⟨by simp [badX], zeroX_may, by simp [badX], by simp [badX]⟩
  unfold getX
  split
  · exact hbad
  · split
    · exact ⟨hs.p, hs, by simp, by simp⟩
    · split
      · exact hbad
      · split
        · exact tailX_in hs (by omega)
        · split
          · exact hbad
          · exact tailX_in hs (by omega)

/-- the last 1 among the first i of 64 bits -/
def lastN (x : Nat) : Nat → Int
  | 0 => -1
  | i + 1 => if x.testBit (63 - i) then (i : Int) else lastN x i
/-- the first 1 among them -/
def firstN (x i : Nat) : Int := if i ≤ lzN x then -1 else (lzN x : Int)
theorem bit_ahead {x i : Nat} (hx : x ≤ 18446744073709551615) (h : i < lzN x) : x.testBit (63 - i) = false := by
  apply Nat.testBit_lt_two_pow
  have := lz_le x
  have h1 := lz_under (a := i + 1) hx (by omega)
  have e : 64 - (i + 1) = 63 - i := by omega
  rwa [e] at h1
theorem bit_first {x : Nat} (hx : x ≤ 18446744073709551615) (h : x ≠ 0) : x.testBit (63 - lzN x) = true := by
  have h1 := lz_up hx
  have h2 := lz_down hx h
  have h3 := lz_lt h
  have e : 64 - lzN x = 63 - lzN x + 1 := by omega
  rw [e, Nat.pow_succ] at h1
  generalize 63 - lzN x = k at *
  rw [Nat.testBit_eq_decide_div_mod_eq]
  have hp := Nat.pow_pos (n := k) (show 0 < 2 by omega)
  have : x / 2 ^ k = 1 := by
    apply Nat.div_eq_of_lt_le <;> omega
  rw [this]
  rfl
theorem bit_behind {x j : Nat} (hx : x ≤ 18446744073709551615) (h : x ≠ 0) (hj : j < tzN x) : x.testBit j = false := by
  obtain ⟨_, m, h2⟩ := tz_is hx h
  rw [h2, Nat.testBit_two_pow_mul]
  have : ¬ j ≥ tzN x := by omega
  simp [this]
theorem bit_last {x : Nat} (hx : x ≤ 18446744073709551615) (h : x ≠ 0) : x.testBit (tzN x) = true := by
  obtain ⟨_, m, h2⟩ := tz_is hx h
  generalize tzN x = t at *
  rw [h2, Nat.testBit_two_pow_mul]
  simp
theorem last_is {x : Nat} (hx : x ≤ 18446744073709551615) (h : x ≠ 0) : ∀ i, 63 - tzN x < i → i ≤ 64 → lastN x i = ((63 - tzN x : Nat) : Int)
  | 0, h1, _ => by omega
  | i + 1, h1, h2 => by
    unfold lastN
    have h3 := (tz_is hx h).1
    by_cases e : i = 63 - tzN x
    · have e2 : 63 - i = tzN x := by omega
      rw [e2, bit_last hx h, if_pos rfl, e]
    · rw [bit_behind hx h (by omega), if_neg (by simp)]
      exact last_is hx h i (by omega) (by omega)
theorem first_step {x i : Nat} (hx : x ≤ 18446744073709551615) (hb : x.testBit (63 - i) = true) : firstN x (i + 1) = if firstN x i < 0 then (i : Int) else firstN x i := by
  have h1 : ¬ i < lzN x := fun h => by rw [bit_ahead hx h] at hb; cases hb
  unfold firstN
  by_cases e : i = lzN x
  · rw [if_neg (by omega), if_pos (by omega)]; omega
  · rw [if_neg (by omega), if_neg (by omega), if_neg (by omega)]
theorem first_skip {x i : Nat} (hx : x ≤ 18446744073709551615) (hi : i < 64) (hb : x.testBit (63 - i) = false) : firstN x (i + 1) = firstN x i := by
  unfold firstN
  by_cases e : i = lzN x
  · exfalso
    by_cases h : x = 0
    · subst h
      rw [lz_zero] at e
      omega
    · subst e
      rw [bit_first hx h] at hb
      cases hb
  · split <;> split <;> omega

end Go.Proofs.YtaebljoacffghaaGreatDoor

/-
  Plain facts (no program): samples' bits, one behind the other, the states behind them, and what bits begin with in a state.
-/
namespace Go.Proofs.YtaebljoacffghaaGreatDoor

/-- a number of 64 bits of two's complement -/
def w64 (x : Int) : Int := (x + 9223372036854775808) % 18446744073709551616 - 9223372036854775808
theorem w64_in (x : Int) : -9223372036854775808 ≤ w64 x ∧ w64 x ≤ 9223372036854775807 := by unfold w64; omega

/-- a state: how many samples, the last one's time and value, by how much they went on, and layer 7's state -/
structure KS where
  n : Nat
  t : Int
  d : Int
  v : Nat
  e : Nat
  x : XS
/-- it may be -/
structure KS.May (s : KS) : Prop where
  t : -9223372036854775808 ≤ s.t ∧ s.t ≤ 9223372036854775807
  d : -9223372036854775808 ≤ s.d ∧ s.d ≤ 9223372036854775807
  v : s.v ≤ 18446744073709551615
  e : s.e ≤ 18446744073709551615
  x : s.x.May
def zeroK : KS := ⟨0, 0, 0, 0, 0, zeroX⟩
theorem zeroK_may : zeroK.May := ⟨by simp [zeroK], by simp [zeroK], by simp [zeroK], by simp [zeroK], zeroX_may⟩

/-- by how much the step of a time is another one -/
def stepT (s : KS) (t : Int) : Int := w64 (t - s.t - s.d)
/-- by how much the step of a value is another one -/
def stepE (s : KS) (v : Nat) : Int := w64 ((v : Int) - (s.v : Int) - (s.e : Int))
def timeK (s : KS) (t : Int) : List Bool := if s.n = 0 then low (un64 t) 64 else codeD (stepT s t)
def valK (k : Nat) (s : KS) (v : Nat) : List Bool := if s.n = 0 then low v 64 else if k = 1 then codeX s.x v else codeD (stepE s v)
/-- a sample's bits -/
def putK (k : Nat) (s : KS) (t : Int) (v : Nat) : List Bool := timeK s t ++ valK k s v
/-- the state behind a sample, y being layer 7's -/
def afterK (k : Nat) (s : KS) (t : Int) (v : Nat) (y : XS) : KS :=
  if s.n = 0 then ⟨1, t, 0, v, 0, if k = 1 then ⟨v, 0, 0⟩ else zeroX⟩
  else ⟨s.n + 1, t, w64 (t - s.t), v, if k = 1 then 0 else un64 ((v : Int) - (s.v : Int)), if k = 1 then y else zeroX⟩
def nextK (k : Nat) (s : KS) (t : Int) (v : Nat) : KS := afterK k s t v (nextX s.x v)
/-- may a sample stand behind a state? -/
def risesK (s : KS) (t : Int) : Bool := decide (s.n = 0) || decide (s.t < t)

theorem afterK_may {k : Nat} {s : KS} {t : Int} {v : Nat} {y : XS} (ht : -9223372036854775808 ≤ t ∧ t ≤ 9223372036854775807) (hv : v ≤ 18446744073709551615) (hy : y.May) : (afterK k s t v y).May := by
  unfold afterK
  split
  · exact ⟨ht, by simp, hv, by simp, by simp only; split; exact ⟨hv, by simp, by simp, fun _ => rfl⟩; exact zeroX_may⟩
  · exact ⟨ht, w64_in _, hv, by simp only; split; omega; exact un64_lt _, by simp only; split; exact hy; exact zeroX_may⟩
theorem afterK_n (k : Nat) (s : KS) (t : Int) (v : Nat) (y : XS) : (afterK k s t v y).n = s.n + 1 := by
  unfold afterK
  split
  · rename_i h; rw [h]
  · rfl
theorem nextK_may {k : Nat} {s : KS} {t : Int} {v : Nat} (h : s.May) (ht : -9223372036854775808 ≤ t ∧ t ≤ 9223372036854775807) (hv : v ≤ 18446744073709551615) : (nextK k s t v).May :=
  afterK_may ht hv (nextX_may h.x hv)
theorem stepT_in (s : KS) (t : Int) : -9223372036854775808 ≤ stepT s t ∧ stepT s t ≤ 9223372036854775807 := w64_in _
theorem stepE_in (s : KS) (v : Nat) : -9223372036854775808 ≤ stepE s v ∧ stepE s v ≤ 9223372036854775807 := w64_in _
theorem timeK_len (s : KS) (t : Int) : 1 ≤ (timeK s t).length ∧ (timeK s t).length ≤ 68 := by
  unfold timeK
  split
  · rw [low_length]; omega
  · exact codeD_pos _
theorem valK_len {k : Nat} {s : KS} {v : Nat} (h : s.May) (hv : v ≤ 18446744073709551615) : 1 ≤ (valK k s v).length ∧ (valK k s v).length ≤ 78 := by
  unfold valK
  split
  · rw [low_length]; omega
  · split
    · exact codeX_pos h.x hv
    · have := codeD_pos (stepE s v); omega
theorem putK_len {k : Nat} {s : KS} {t : Int} {v : Nat} (h : s.May) (hv : v ≤ 18446744073709551615) : 2 ≤ (putK k s t v).length ∧ (putK k s t v).length ≤ 146 := by
  have h1 := timeK_len s t
  have h2 := valK_len (k := k) h hv
  unfold putK
  rw [List.length_append]
  omega

/-- what bits begin with: a sample, the state behind it, how many bits it has, an error's number -/
structure KA where
  t : Int
  v : Nat
  s : KS
  n : Nat
  e : Nat
def badK (e : Nat) : KA := ⟨0, 0, zeroK, 0, e⟩
/-- what a value's bits tell, behind the first sample -/
def VGets (k : Nat) (s : KS) (q : List Bool) (v : Nat) (y : XS) (m e : Nat) : Prop :=
  if k = 1 then v = (getX s.x q).v ∧ y = (getX s.x q).s ∧ m = (getX s.x q).n ∧ e = (getX s.x q).e
  else ∃ step, DGets q step m e ∧ v = un64 ((s.v : Int) + (s.e : Int) + step) ∧ y = zeroX
/-- the first sample -/
def firstK (k : Nat) (s : KS) (p : List Bool) : KA :=
  if p.length < 128 then badK 2 else ⟨sgnN (num (cut p 0 64)) 64, num (cut p 64 64), afterK k s (sgnN (num (cut p 0 64)) 64) (num (cut p 64 64)) zeroX, 128, 0⟩
/-- each other one, of the two parts' answers -/
def laterK (k : Nat) (s : KS) (step : Int) (n e : Nat) (v : Nat) (y : XS) (m e2 : Nat) : KA :=
  if e ≠ 0 then badK e else if e2 ≠ 0 then badK e2 else if w64 (s.t + s.d + step) ≤ s.t then badK 4
  else ⟨w64 (s.t + s.d + step), v, afterK k s (w64 (s.t + s.d + step)) v y, n + m, 0⟩
def KGets (k : Nat) (s : KS) (p : List Bool) (r : KA) : Prop :=
  (s.n = 0 ∧ r = firstK k s p) ∨ (s.n ≠ 0 ∧ ∃ step n e v y m e2, DGets p step n e ∧ VGets k s (p.drop n) v y m e2 ∧ r = laterK k s step n e v y m e2)

theorem VGets.same {k : Nat} {s : KS} {q : List Bool} {v v' : Nat} {y y' : XS} {m m' e e' : Nat} (h : VGets k s q v y m e) (h' : VGets k s q v' y' m' e') : v = v' ∧ y = y' ∧ m = m' ∧ e = e' := by
  unfold VGets at h h'
  split at h
  · rename_i hk
    rw [if_pos hk] at h'
    obtain ⟨rfl, rfl, rfl, rfl⟩ := h
    obtain ⟨rfl, rfl, rfl, rfl⟩ := h'
    exact ⟨rfl, rfl, rfl, rfl⟩
  · rename_i hk
    rw [if_neg hk] at h'
    obtain ⟨st, h1, rfl, rfl⟩ := h
    obtain ⟨st', h1', rfl, rfl⟩ := h'
    obtain ⟨rfl, rfl, rfl⟩ := h1.same h1'
    exact ⟨rfl, rfl, rfl, rfl⟩
theorem KGets.same {k : Nat} {s : KS} {p : List Bool} {r r' : KA} (h : KGets k s p r) (h' : KGets k s p r') : r = r' := by
  rcases h with ⟨h0, rfl⟩ | ⟨h0, st, n, e, v, y, m, e2, h1, h2, rfl⟩
  · rcases h' with ⟨_, rfl⟩ | ⟨h0', _⟩
    · rfl
    · exact absurd h0 h0'
  · rcases h' with ⟨h0', _⟩ | ⟨_, st', n', e', v', y', m', e2', h1', h2', rfl⟩
    · exact absurd h0' h0
    · obtain ⟨rfl, rfl, rfl⟩ := h1.same h1'
      obtain ⟨rfl, rfl, rfl, rfl⟩ := h2.same h2'
      rfl
theorem vgets_in {k : Nat} {s : KS} {q : List Bool} {v : Nat} {y : XS} {m e : Nat} (hs : s.May) (h : VGets k s q v y m e) : v ≤ 18446744073709551615 ∧ y.May ∧ m ≤ 78 ∧ e ≤ 3 := by
  unfold VGets at h
  split at h
  · obtain ⟨rfl, rfl, rfl, rfl⟩ := h
    exact getX_in q hs.x
  · obtain ⟨st, h1, rfl, rfl⟩ := h
    have := gets_in h1
    exact ⟨un64_lt _, zeroX_may, by omega, by omega⟩
/-- what is got fits -/
theorem vgets_len {k : Nat} {s : KS} {q : List Bool} {v : Nat} {y : XS} {m e : Nat} (h : VGets k s q v y m e) (he : e = 0) : m ≤ q.length := by
  unfold VGets at h
  split at h
  · obtain ⟨rfl, rfl, rfl, rfl⟩ := h
    have := getX_back he
    exact this.2.2.2
  · obtain ⟨st, h1, rfl, rfl⟩ := h
    exact (gets_in h1).2.2.2 he
theorem zeroK_in : (badK 0).s.May := zeroK_may
theorem sgn64_in (x : Nat) : -9223372036854775808 ≤ sgnN x 64 ∧ sgnN x 64 ≤ 9223372036854775807 := sgn_in x (k := 4) (by omega)
theorem kgets_in {k : Nat} {s : KS} {p : List Bool} {r : KA} (hs : s.May) (h : KGets k s p r) :
    (-9223372036854775808 ≤ r.t ∧ r.t ≤ 9223372036854775807) ∧ r.v ≤ 18446744073709551615 ∧ r.s.May ∧ r.n ≤ 146 ∧ r.e ≤ 4 ∧ (r.e = 0 → r.n ≤ p.length ∧ r.s.n = s.n + 1 ∧ 2 ≤ r.n) := by
  rcases h with ⟨h0, rfl⟩ | ⟨h0, st, n, e, v, y, m, e2, h1, h2, rfl⟩
  · unfold firstK
    split
    · exact ⟨by simp [badK], by simp [badK], zeroK_may, by simp [badK], by simp [badK], fun h => by simp [badK] at h⟩
    · rename_i hl
      have hn := num_cut_lt p 64 64
      have hn' : num (cut p 64 64) ≤ 18446744073709551615 := by omega
      exact ⟨sgn64_in _, hn', afterK_may (sgn64_in _) hn' zeroX_may, by simp, by simp, fun _ => ⟨by simp only; omega, afterK_n _ _ _ _ _, by simp⟩⟩
  · have g1 := gets_in h1
    have g2 := vgets_in hs h2
    have g3 := vgets_len h2
    unfold laterK
    split
    · exact ⟨by simp [badK], by simp [badK], zeroK_may, by simp [badK], by simp [badK]; omega, fun h => by simp [badK] at h; omega⟩
    · rename_i he
      split
      · exact ⟨by simp [badK], by simp [badK], zeroK_may, by simp [badK], by simp [badK]; omega, fun h => by simp [badK] at h; omega⟩
      · rename_i he2
        split
        · exact ⟨by simp [badK], by simp [badK], zeroK_may, by simp [badK], by simp [badK], fun h => by simp [badK] at h⟩
        · have he' : e = 0 := by omega
          have he2' : e2 = 0 := by omega
          have g4 := g1.2.2.2 he'
          have g5 := g3 he2'
          rw [List.length_drop] at g5
          refine ⟨w64_in _, g2.1, afterK_may (w64_in _) g2.1 g2.2.1, by simp only; omega, by simp, fun _ => ⟨by simp only; omega, afterK_n _ _ _ _ _, ?_⟩⟩
          subst he' he2'
          have p1 := dgets_back h1
          have c1 := (codeD_pos st).1
          have p2 : 1 ≤ m := by
            unfold VGets at h2
            split at h2
            · obtain ⟨rfl, rfl, rfl, h3⟩ := h2
              have := getX_back h3.symm
              have c2 := (codeX_pos hs.x g2.1).1
              have h4 := congrArg List.length this.1
              rw [List.length_take] at h4
              omega
            · obtain ⟨st2, h3, rfl, rfl⟩ := h2
              have q1 := dgets_back h3
              have c2 := (codeD_pos st2).1
              rw [q1.1, List.length_take] at c2
              omega
          have p3 : 1 ≤ n := by
            rw [p1.1, List.length_take] at c1
            omega
          simp only
          omega

theorem un64_back {t : Int} (ht : -9223372036854775808 ≤ t ∧ t ≤ 9223372036854775807) : sgnN (un64 t) 64 = t :=
  (sgn_room ht (k := 4) (by omega)).2 (onesN_le t)
theorem cut_first (p q : List Bool) : cut (p ++ q) 0 p.length = p := by
  unfold cut
  rw [List.drop_zero, List.take_left]
theorem cut_second (p q r : List Bool) : cut (p ++ (q ++ r)) p.length q.length = q := by
  unfold cut
  rw [List.drop_left, List.take_left]
/-- what was put is got -/
theorem kgets_put {k : Nat} {s : KS} {t : Int} {v : Nat} (hs : s.May) (ht : -9223372036854775808 ≤ t ∧ t ≤ 9223372036854775807) (hv : v ≤ 18446744073709551615) (hr : risesK s t = true) (q : List Bool) :
    KGets k s (putK k s t v ++ q) ⟨t, v, nextK k s t v, (putK k s t v).length, 0⟩ := by
  by_cases h0 : s.n = 0
  · left
    refine ⟨h0, ?_⟩
    have e1 : timeK s t = low (un64 t) 64 := by unfold timeK; rw [if_pos h0]
    have e2 : valK k s v = low v 64 := by unfold valK; rw [if_pos h0]
    have l1 := low_length (un64 t) 64
    have l2 := low_length v 64
    have c1 : cut (putK k s t v ++ q) 0 64 = low (un64 t) 64 := by
      unfold putK
      rw [e1, e2, List.append_assoc]
      have := cut_first (low (un64 t) 64) (low v 64 ++ q)
      rwa [l1] at this
    have c2 : cut (putK k s t v ++ q) 64 64 = low v 64 := by
      unfold putK
      rw [e1, e2, List.append_assoc]
      have := cut_second (low (un64 t) 64) (low v 64) q
      rwa [l1, l2] at this
    have n1 : num (low (un64 t) 64) = un64 t := by rw [num_low]; exact Nat.mod_eq_of_lt (by have := un64_lt t; omega)
    have n2 : num (low v 64) = v := by rw [num_low]; exact Nat.mod_eq_of_lt (by omega)
    have hl : (putK k s t v).length = 128 := by unfold putK; rw [e1, e2, List.length_append, l1, l2]
    unfold firstK
    rw [if_neg (by rw [List.length_append, hl]; omega), c1, c2, n1, n2, un64_back ht, hl]
    unfold nextK afterK
    rw [if_pos h0, if_pos h0]
  · right
    refine ⟨h0, stepT s t, (timeK s t).length, 0, v, (if k = 1 then nextX s.x v else zeroX), (valK k s v).length, 0, ?_, ?_, ?_⟩
    · unfold putK
      have e1 : timeK s t = codeD (stepT s t) := by unfold timeK; rw [if_neg h0]
      rw [e1, List.append_assoc]
      exact dgets_put (stepT_in s t) _
    · have e1 : (putK k s t v ++ q).drop (timeK s t).length = valK k s v ++ q := by
        unfold putK
        rw [List.append_assoc, List.drop_left]
      rw [e1]
      unfold VGets valK
      rw [if_neg h0]
      split
      · have := getX_put hs.x hv q
        rw [this]
        exact ⟨rfl, rfl, rfl, rfl⟩
      · refine ⟨stepE s v, dgets_put (stepE_in s v) _, ?_, rfl⟩
        have h1 := hs.v
        have h2 := hs.e
        unfold stepE w64 un64
        omega
    · have h1 : s.t < t := by
        unfold risesK at hr
        simpa [h0] using hr
      have h2 : w64 (s.t + s.d + stepT s t) = t := by
        have g1 := hs.t
        have g2 := hs.d
        unfold stepT w64
        omega
      unfold laterK
      rw [if_neg (by simp), if_neg (by simp), h2, if_neg (by omega)]
      unfold putK nextK afterK
      rw [if_neg h0, if_neg h0, List.length_append]
      split <;> rfl

end Go.Proofs.YtaebljoacffghaaGreatDoor

/-
  Plain facts (no program): values' codes, one behind the other, and the states behind them; each is got again.
-/
namespace Go.Proofs.YtaebljoacffghaaGreatDoor

/-- the state behind the first k values -/
def stX (vs : List Nat) : Nat → XS
  | 0 => zeroX
  | k + 1 => nextX (stX vs k) (vs.getD k 0)
/-- their codes -/
def cdX (vs : List Nat) : Nat → List Bool
  | 0 => []
  | k + 1 => cdX vs k ++ codeX (stX vs k) (vs.getD k 0)

theorem valX_le {vs : List Nat} (h : ∀ x ∈ vs, x ≤ 18446744073709551615) (k : Nat) : vs.getD k 0 ≤ 18446744073709551615 := by
  rw [List.getD_eq_getElem?_getD]
  cases e : vs[k]? with
  | none => simp
  | some x => exact h x (List.mem_of_getElem? e)
theorem stX_may {vs : List Nat} (h : ∀ x ∈ vs, x ≤ 18446744073709551615) : ∀ k, (stX vs k).May
  | 0 => zeroX_may
  | k + 1 => nextX_may (stX_may h k) (valX_le h k)
theorem cdX_le {vs : List Nat} (h : ∀ x ∈ vs, x ≤ 18446744073709551615) : ∀ k, (cdX vs k).length ≤ 78 * k
  | 0 => by simp [cdX]
  | k + 1 => by
    have h1 := cdX_le h k
    have h2 := (codeX_pos (stX_may h k) (valX_le h k)).2
    unfold cdX
    rw [List.length_append]
    omega
theorem cdX_more (vs : List Nat) {k : Nat} : ∀ {n}, k ≤ n → ∃ q, cdX vs n = cdX vs k ++ q
  | 0, h => by
    obtain rfl : k = 0 := by omega
    exact ⟨[], by simp⟩
  | n + 1, h => by
    by_cases e : k = n + 1
    · subst e
      exact ⟨[], by simp⟩
    · obtain ⟨q, hq⟩ := cdX_more vs (k := k) (n := n) (by omega)
      exact ⟨q ++ codeX (stX vs n) (vs.getD n 0), by rw [← List.append_assoc, ← hq]; rfl⟩
/-- a part of bits that were packed, from a place on -/
theorem rest_amid (p c q r : List Bool) (a : Nat) (hr : r = p ++ c ++ q) (ha : p.length = a) : ∃ s, restL (pack r) (a : Int) = c ++ s := by
  subst ha
  have h2 : flat (pack r) = r ++ (flat (pack r)).drop r.length := by
    have := List.take_append_drop r.length (flat (pack r))
    rw [take_flat_pack] at this
    exact this.symm
  have h3 : p.length ≤ 8 * (pack r).length := by
    rw [pack_length, hr, List.length_append, List.length_append]; omega
  rw [restL_yes h3]
  refine ⟨q ++ (flat (pack r)).drop r.length, ?_⟩
  conv => lhs; rw [h2]
  generalize (flat (pack r)).drop r.length = s
  subst hr
  rw [List.append_assoc, List.append_assoc, List.drop_left]
/-- the k-th value's code is got, amid all bits -/
theorem back_x {vs : List Nat} (h : ∀ x ∈ vs, x ≤ 18446744073709551615) {k n : Nat} (hk : k < n) (l t r : List Bool) (a : Nat) (hr : r = l ++ cdX vs n ++ t) (ha : (l ++ cdX vs k).length = a) :
    getX (stX vs k) (restL (pack r) (a : Int)) = ⟨vs.getD k 0, stX vs (k + 1), (codeX (stX vs k) (vs.getD k 0)).length, 0⟩ := by
  obtain ⟨q, hq⟩ := cdX_more vs (k := k + 1) (n := n) (by omega)
  obtain ⟨s, hs⟩ := rest_amid (l ++ cdX vs k) (codeX (stX vs k) (vs.getD k 0)) (q ++ t) r a (by
    rw [hr, hq]
    show l ++ ((cdX vs k ++ codeX (stX vs k) (vs.getD k 0)) ++ q) ++ t = _
    simp [List.append_assoc]) ha
  rw [hs]
  exact getX_put (stX_may h k) (valX_le h k) s

end Go.Proofs.YtaebljoacffghaaGreatDoor

/-
  Plain facts (no program): samples' bits, one behind the other, and the states behind them; each is got again.
-/
namespace Go.Proofs.YtaebljoacffghaaGreatDoor

/-- the state behind the first j samples -/
def stK (k : Nat) (xs : List (Int × Nat)) : Nat → KS
  | 0 => zeroK
  | j + 1 => nextK k (stK k xs j) (xs.getD j (0, 0)).1 (xs.getD j (0, 0)).2
/-- their bits -/
def cdK (k : Nat) (xs : List (Int × Nat)) : Nat → List Bool
  | 0 => []
  | j + 1 => cdK k xs j ++ putK k (stK k xs j) (xs.getD j (0, 0)).1 (xs.getD j (0, 0)).2

/-- samples of two numbers that fit -/
def AllQ (xs : List (Int × Nat)) : Prop := ∀ j, (-9223372036854775808 ≤ (xs.getD j (0, 0)).1 ∧ (xs.getD j (0, 0)).1 ≤ 9223372036854775807) ∧ (xs.getD j (0, 0)).2 ≤ 18446744073709551615
section
variable {k : Nat} {xs : List (Int × Nat)}
theorem stK_may (h : AllQ xs) : ∀ j, (stK k xs j).May
  | 0 => zeroK_may
  | j + 1 => nextK_may (stK_may h j) (h j).1 (h j).2
theorem stK_n : ∀ j, (stK k xs j).n = j
  | 0 => rfl
  | j + 1 => by
    unfold stK nextK
    rw [afterK_n, stK_n j]
theorem afterK_t (s : KS) (t : Int) (v : Nat) (y : XS) : (afterK k s t v y).t = t := by
  unfold afterK
  split <;> rfl
theorem stK_t (j : Nat) : (stK k xs (j + 1)).t = (xs.getD j (0, 0)).1 := by
  unfold stK nextK
  rw [afterK_t]
theorem stK_rises (h : ∀ i, i + 1 < xs.length → (xs.getD i (0, 0)).1 < (xs.getD (i + 1) (0, 0)).1) {j : Nat} (hj : j < xs.length) : risesK (stK k xs j) (xs.getD j (0, 0)).1 = true := by
  unfold risesK
  cases j with
  | zero => simp [stK, zeroK]
  | succ i =>
    rw [stK_t]
    have := h i hj
    rw [Bool.or_eq_true]
    exact .inr (decide_eq_true this)
theorem cdK_le (h : AllQ xs) : ∀ j, (cdK k xs j).length ≤ 146 * j
  | 0 => by simp [cdK]
  | j + 1 => by
    have h1 := cdK_le h j
    have h2 := (putK_len (k := k) (t := (xs.getD j (0, 0)).1) (stK_may (k := k) h j) (h j).2).2
    unfold cdK
    rw [List.length_append]
    omega
theorem cdK_more {j : Nat} : ∀ {n}, j ≤ n → ∃ q, cdK k xs n = cdK k xs j ++ q
  | 0, h => by
    obtain rfl : j = 0 := by omega
    exact ⟨[], by simp⟩
  | n + 1, h => by
    by_cases e : j = n + 1
    · subst e
      exact ⟨[], by simp⟩
    · obtain ⟨q, hq⟩ := cdK_more (j := j) (n := n) (by omega)
      exact ⟨q ++ putK k (stK k xs n) (xs.getD n (0, 0)).1 (xs.getD n (0, 0)).2, by rw [← List.append_assoc, ← hq]; rfl⟩
/-- the j-th sample's bits are got, amid all bits -/
theorem back_k (h : AllQ xs) (hr : ∀ i, i + 1 < xs.length → (xs.getD i (0, 0)).1 < (xs.getD (i + 1) (0, 0)).1) {j n : Nat} (hj : j < xs.length) (hn : j < n) (l t r : List Bool) (a : Nat) (hq : r = l ++ cdK k xs n ++ t) (ha : (l ++ cdK k xs j).length = a) :
    KGets k (stK k xs j) (restL (pack r) (a : Int)) ⟨(xs.getD j (0, 0)).1, (xs.getD j (0, 0)).2, stK k xs (j + 1), (putK k (stK k xs j) (xs.getD j (0, 0)).1 (xs.getD j (0, 0)).2).length, 0⟩ := by
  obtain ⟨q, hq'⟩ := cdK_more (k := k) (xs := xs) (j := j + 1) (n := n) (by omega)
  obtain ⟨s, hs⟩ := rest_amid (l ++ cdK k xs j) (putK k (stK k xs j) (xs.getD j (0, 0)).1 (xs.getD j (0, 0)).2) (q ++ t) r a (by
    rw [hq, hq']
    show l ++ ((cdK k xs j ++ putK k (stK k xs j) (xs.getD j (0, 0)).1 (xs.getD j (0, 0)).2) ++ q) ++ t = _
    simp [List.append_assoc]) ha
  rw [hs]
  exact kgets_put (stK_may h j) (h j).1 (h j).2 (stK_rises hr hj) s
end

end Go.Proofs.YtaebljoacffghaaGreatDoor

/-
  Plain facts (no program): the bits of many samples, one behind the other: unlike samples have unlike bytes; a beginning has no more.
-/
namespace Go.Proofs.YtaebljoacffghaaGreatDoor

theorem getD_takeQ (xs : List (Int × Nat)) {i m : Nat} (h : i < m) : (xs.take m).getD i (0, 0) = xs.getD i (0, 0) := by
  simp only [List.getD_eq_getElem?_getD, List.getElem?_take_of_lt h]
section
variable {k : Nat} {xs ys : List (Int × Nat)}
theorem stK_take {m : Nat} : ∀ {j}, j ≤ m → stK k (xs.take m) j = stK k xs j
  | 0, _ => rfl
  | j + 1, h => by
    unfold stK
    rw [stK_take (by omega), getD_takeQ xs (by omega)]
theorem cdK_take {m : Nat} : ∀ {j}, j ≤ m → cdK k (xs.take m) j = cdK k xs j
  | 0, _ => rfl
  | j + 1, h => by
    unfold cdK
    rw [cdK_take (by omega), stK_take (by omega), getD_takeQ xs (by omega)]
theorem AllQ.take (h : AllQ xs) (m : Nat) : AllQ (xs.take m) := by
  intro j
  by_cases hj : j < m
  · rw [getD_takeQ xs hj]; exact h j
  · rw [List.getD_eq_getElem?_getD, List.getElem?_eq_none (by rw [List.length_take]; omega)]
    exact ⟨by simp, by simp⟩
theorem putK_first (t : Int) (v : Nat) : (putK k zeroK t v).length = 128 := by
  unfold putK timeK valK
  rw [List.length_append, if_pos (show zeroK.n = 0 from rfl), if_pos (show zeroK.n = 0 from rfl), low_length, low_length]
/-- the first sample alone has 128 bits -/
theorem cdK_first {n : Nat} (h : 1 ≤ n) : 128 ≤ (cdK k xs n).length := by
  obtain ⟨q, hq⟩ := cdK_more (k := k) (xs := xs) (j := 1) (n := n) h
  rw [hq, List.length_append]
  have : (cdK k xs 1).length = 128 := by
    show ([] ++ putK k zeroK _ _).length = 128
    rw [List.nil_append, putK_first]
  omega
theorem cdK_mono {j n : Nat} (h : j ≤ n) : (cdK k xs j).length ≤ (cdK k xs n).length := by
  obtain ⟨q, hq⟩ := cdK_more (k := k) (xs := xs) h
  rw [hq, List.length_append]
  omega
/-- the times rise -/
def Rises (xs : List (Int × Nat)) : Prop := ∀ i, i + 1 < xs.length → (xs.getD i (0, 0)).1 < (xs.getD (i + 1) (0, 0)).1
theorem Rises.take (h : Rises xs) (m : Nat) : Rises (xs.take m) := by
  intro i hi
  rw [List.length_take] at hi
  rw [getD_takeQ xs (by omega), getD_takeQ xs (by omega)]
  exact h i (by omega)
/-- as many samples whose bytes are the same are the same -/
theorem chunk_same (hx : AllQ xs) (hy : AllQ ys) (rx : Rises xs) (ry : Rises ys) {n : Nat} (lx : xs.length = n) (ly : ys.length = n) (hp : pack (cdK k xs n) = pack (cdK k ys n)) : xs = ys := by
  have key : ∀ j, j ≤ n → stK k xs j = stK k ys j ∧ cdK k xs j = cdK k ys j ∧ ∀ i, i < j → xs.getD i (0, 0) = ys.getD i (0, 0) := by
    intro j
    induction j with
    | zero => exact fun _ => ⟨rfl, rfl, fun i h => absurd h (by omega)⟩
    | succ j ih =>
      intro hj
      obtain ⟨h1, h2, h3⟩ := ih (by omega)
      have b1 := back_k (k := k) hx rx (j := j) (n := n) (by omega) (by omega) [] [] (cdK k xs n) (cdK k xs j).length (by simp) (by simp)
      have b2 := back_k (k := k) hy ry (j := j) (n := n) (by omega) (by omega) [] [] (cdK k ys n) (cdK k ys j).length (by simp) (by simp)
      rw [← hp, ← h2, ← h1] at b2
      have e := b1.same b2
      injection e with e1 e2 e3 e4
      have e5 : xs.getD j (0, 0) = ys.getD j (0, 0) := Prod.ext e1 e2
      refine ⟨e3, ?_, fun i hi => ?_⟩
      · show cdK k xs j ++ putK k (stK k xs j) _ _ = cdK k ys j ++ putK k (stK k ys j) _ _
        rw [h2, h1, e5]
      · by_cases hij : i = j
        · subst hij; exact e5
        · exact h3 i (by omega)
  obtain ⟨_, _, h⟩ := key n (Nat.le_refl _)
  apply List.ext_getElem (by omega)
  intro i h1 h2
  have := h i (by omega)
  simpa [List.getD_eq_getElem?_getD, h1, h2] using this
end

end Go.Proofs.YtaebljoacffghaaGreatDoor

/-
  Plain facts (no program): the whole bytes of bits, and what is left of them.
-/
namespace Go.Proofs.YtaebljoacffghaaGreatDoor

theorem bit_of {us bs : List Nat} {i k : Nat} (h : us.getD (i / 8) 0 = bs.getD (k / 8) 0) (hm : i % 8 = k % 8) : bit us i = bit bs k := by
  unfold bit
  rw [h, hm]
theorem getN_app (p q : List Nat) (i : Nat) : (p ++ q).getD i 0 = if i < p.length then p.getD i 0 else q.getD (i - p.length) 0 := by
  simp only [List.getD_eq_getElem?_getD]
  split
  · rename_i h
    rw [List.getElem?_append_left h]
  · rename_i h
    rw [List.getElem?_append_right (by omega)]
theorem getB_app (p q : List Bool) (i : Nat) : (p ++ q).getD i false = if i < p.length then p.getD i false else q.getD (i - p.length) false := by
  simp only [List.getD_eq_getElem?_getD]
  split
  · rename_i h
    rw [List.getElem?_append_left h]
  · rename_i h
    rw [List.getElem?_append_right (by omega)]
theorem bit_app (p q : List Nat) (i : Nat) : bit (p ++ q) i = if i < 8 * p.length then bit p i else bit q (i - 8 * p.length) := by
  split
  · exact bit_of (by rw [getN_app, if_pos (by omega)]) rfl
  · exact bit_of (by rw [getN_app, if_neg (by omega)]; congr 1; omega) (by omega)
theorem flat_app (p q : List Nat) : flat (p ++ q) = flat p ++ flat q := by
  apply getD_ext
  · simp only [flat_length, List.length_append]; omega
  · intro i hi
    rw [flat_getD, bit_app, getB_app, flat_length, flat_getD, flat_getD]
theorem bit_takeC (p : List Nat) (k i : Nat) (h : i < 8 * k) : bit (p.take k) i = bit p i :=
  bit_of (by simp only [List.getD_eq_getElem?_getD]; rw [List.getElem?_take_of_lt (by omega)]) rfl
theorem bit_dropC (p : List Nat) (k i : Nat) : bit (p.drop k) i = bit p (8 * k + i) :=
  bit_of (by simp only [List.getD_eq_getElem?_getD]; rw [List.getElem?_drop]; congr 2; omega) (by omega)
/-- the whole bytes of bits -/
theorem flat_whole (r : List Bool) (k : Nat) (h : 8 * k ≤ r.length) : flat ((pack r).take k) = r.take (8 * k) := by
  have hl : ((pack r).take k).length = k := by rw [List.length_take, pack_length]; omega
  apply getD_ext
  · rw [flat_length, hl, List.length_take]; omega
  · intro i hi
    rw [flat_length, hl] at hi
    rw [flat_getD, bit_takeC _ _ _ hi, bit_pack]
    simp only [List.getD_eq_getElem?_getD]
    rw [List.getElem?_take_of_lt (by omega)]
/-- what is left of them -/
theorem pack_left (r : List Bool) (k : Nat) (h : 8 * k ≤ r.length) : (pack r).drop k = pack (r.drop (8 * k)) := by
  apply eq_pack
  · intro x hx
    exact pack_lt r x (List.mem_of_mem_drop hx)
  · rw [List.length_drop, pack_length, List.length_drop]; omega
  · intro i _
    rw [bit_dropC, bit_pack]
    simp only [List.getD_eq_getElem?_getD]
    rw [List.getElem?_drop]
/-- whole bytes with bits behind them -/
theorem pack_behind (bs : List Nat) (hb : ∀ x ∈ bs, x < 256) (q : List Bool) : bs ++ pack q = pack (flat bs ++ q) := by
  apply eq_pack
  · intro x hx
    rcases List.mem_append.1 hx with h | h
    · exact hb x h
    · exact pack_lt q x h
  · rw [List.length_append, pack_length, List.length_append, flat_length]; omega
  · intro i _
    rw [bit_app, getB_app, flat_length, flat_getD, bit_pack]
/-- a round: the bits behind whole bytes, more bits, their whole bytes -/
theorem carry_bits {bs : List Nat} {r c : List Bool} (h : flat bs ++ r = c) (k : Nat) (hk : k = r.length / 8) : flat (bs ++ (pack r).take k) ++ r.drop (8 * k) = c ∧ (r.drop (8 * k)).length = r.length % 8 := by
  subst hk
  rw [flat_app, flat_whole r _ (by omega), List.append_assoc, List.take_append_drop]
  exact ⟨h, by rw [List.length_drop]; omega⟩

end Go.Proofs.YtaebljoacffghaaGreatDoor
