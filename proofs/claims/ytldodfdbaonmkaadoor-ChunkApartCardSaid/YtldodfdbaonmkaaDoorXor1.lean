/-
  Plain facts (no program): codes of values by the bits in which they are other than the one ahead, and what bits begin with in a state.
-/
import Derived.Test.YtldodfdbaonmkaaDoorDod1
namespace Go.Proofs.YtldodfdbaonmkaaDoor

/-- how many bits a number has -/
def lenB (x : Nat) : Nat := if x = 0 then 0 else x.log2 + 1
/-- how many of 64 bits ahead of the first 1 are 0 -/
def lzN (x : Nat) : Nat := 64 - lenB x
def tzF : Nat → Nat → Nat
  | 0, _ => 0
  | n + 1, x => if x % 2 = 1 then 0 else tzF n (x / 2) + 1
/-- how many of 64 bits behind the last 1 are 0 -/
def tzN (x : Nat) : Nat := tzF 64 x
/-- how many there are from the first 1 to the last one -/
def szN (x : Nat) : Nat := 64 - lzN x - tzN x

theorem lenB_lt (x : Nat) : x < 2 ^ lenB x := by
  unfold lenB
  split
  · omega
  · exact Nat.lt_log2_self
theorem lenB_ge {x : Nat} (h : x ≠ 0) : 0 < lenB x ∧ 2 ^ (lenB x - 1) ≤ x := by
  unfold lenB
  rw [if_neg h]
  exact ⟨by omega, Nat.log2_self_le h⟩
/-- a number of n bits has n bits -/
theorem lenB_is {x n : Nat} (h1 : x < 2 ^ n) (h2 : n = 0 ∨ 2 ^ (n - 1) ≤ x) : lenB x = n := by
  rcases Nat.eq_zero_or_pos x with rfl | hx
  · rcases h2 with rfl | h2
    · rfl
    · have := Nat.pow_pos (n := n - 1) (show 0 < 2 by omega)
      omega
  · have h3 := lenB_lt x
    have h4 := lenB_ge (show x ≠ 0 by omega)
    rcases Nat.lt_trichotomy (lenB x) n with h | h | h
    · have h5 : 2 ^ lenB x ≤ 2 ^ (n - 1) := Nat.pow_le_pow_right (by omega) (by omega)
      rcases h2 with h2 | h2 <;> omega
    · exact h
    · have h5 : 2 ^ n ≤ 2 ^ (lenB x - 1) := Nat.pow_le_pow_right (by omega) (by omega)
      omega
theorem lenB_le {x : Nat} (hx : x ≤ 18446744073709551615) : lenB x ≤ 64 := by
  rcases Nat.lt_or_ge 64 (lenB x) with h | h
  · have h1 : x ≠ 0 := by rintro rfl; simp [lenB] at h
    have h2 := (lenB_ge h1).2
    have h3 : 2 ^ 64 ≤ 2 ^ (lenB x - 1) := Nat.pow_le_pow_right (by omega) (by omega)
    omega
  · exact h
/-- of more bits, by a shift -/
theorem lenB_shift {x k : Nat} (h : 2 ^ k ≤ x) : lenB x = lenB (x / 2 ^ k) + k := by
  have hp := Nat.pow_pos (n := k) (show 0 < 2 by omega)
  have h0 : x / 2 ^ k ≠ 0 := by
    have := Nat.div_pos h hp
    omega
  have h1 := lenB_lt (x / 2 ^ k)
  have h2 := lenB_ge h0
  apply lenB_is
  · rw [Nat.pow_add]
    have := (Nat.div_lt_iff_lt_mul hp).1 h1
    exact this
  · right
    have e : lenB (x / 2 ^ k) + k - 1 = lenB (x / 2 ^ k) - 1 + k := by omega
    rw [e, Nat.pow_add]
    exact (Nat.le_div_iff_mul_le hp).1 h2.2

theorem lz_le (x : Nat) : lzN x ≤ 64 := by unfold lzN; omega
theorem lz_zero : lzN 0 = 64 := by decide
theorem lz_lt {x : Nat} (h : x ≠ 0) : lzN x ≤ 63 := by
  have := (lenB_ge h).1
  unfold lzN; omega
theorem lz_up {x : Nat} (hx : x ≤ 18446744073709551615) : x < 2 ^ (64 - lzN x) := by
  have h1 := lenB_le hx
  have h2 := lenB_lt x
  have e : 64 - lzN x = lenB x := by unfold lzN; omega
  rwa [e]
theorem lz_down {x : Nat} (hx : x ≤ 18446744073709551615) (h : x ≠ 0) : 2 ^ (63 - lzN x) ≤ x := by
  have h1 := lenB_le hx
  have h2 := lenB_ge h
  have e : 63 - lzN x = lenB x - 1 := by unfold lzN; omega
  rw [e]
  exact h2.2
theorem lz_ge {x a : Nat} (hx : x ≤ 18446744073709551615) (ha : a ≤ 64) (h : x < 2 ^ (64 - a)) : a ≤ lzN x := by
  rcases Nat.lt_or_ge (lzN x) a with g | g
  · rcases Nat.eq_zero_or_pos x with rfl | h0
    · rw [lz_zero]; exact ha
    · have h1 := lz_down hx (by omega)
      have h2 : 2 ^ (64 - a) ≤ 2 ^ (63 - lzN x) := Nat.pow_le_pow_right (by omega) (by omega)
      omega
  · exact g
theorem lz_under {x a : Nat} (hx : x ≤ 18446744073709551615) (h : a ≤ lzN x) : x < 2 ^ (64 - a) := by
  have h1 := lz_up hx
  have h2 : 2 ^ (64 - lzN x) ≤ 2 ^ (64 - a) := Nat.pow_le_pow_right (by omega) (by omega)
  omega

theorem tzF_zero : ∀ n, tzF n 0 = n
  | 0 => rfl
  | n + 1 => by
    unfold tzF
    rw [if_neg (by omega), Nat.zero_div, tzF_zero n]
theorem tzF_is : ∀ (n x : Nat), 0 < x → x < 2 ^ n → tzF n x < n ∧ ∃ m, x = 2 ^ tzF n x * (2 * m + 1)
  | 0, x, h0, h1 => by simp at h1; omega
  | n + 1, x, h0, h1 => by
    unfold tzF
    split
    · exact ⟨by omega, x / 2, by simp; omega⟩
    · rw [Nat.pow_succ] at h1
      obtain ⟨h2, m, h3⟩ := tzF_is n (x / 2) (by omega) (by omega)
      refine ⟨by omega, m, ?_⟩
      rw [Nat.pow_succ, Nat.mul_right_comm, ← h3]
      omega
theorem tz_zero : tzN 0 = 64 := tzF_zero 64
theorem tz_is {x : Nat} (hx : x ≤ 18446744073709551615) (h : x ≠ 0) : tzN x ≤ 63 ∧ ∃ m, x = 2 ^ tzN x * (2 * m + 1) := by
  obtain ⟨h1, h2⟩ := tzF_is 64 x (by omega) (by omega)
  exact ⟨by unfold tzN; omega, h2⟩
theorem tz_dvd {x k : Nat} (hx : x ≤ 18446744073709551615) (h : x ≠ 0) (hk : k ≤ tzN x) : 2 ^ k ∣ x := by
  obtain ⟨_, m, h2⟩ := tz_is hx h
  rw [h2]
  exact Nat.dvd_trans (Nat.pow_dvd_pow 2 hk) (Nat.dvd_mul_right _ _)
theorem tz_ge {x k : Nat} (hx : x ≤ 18446744073709551615) (h : x ≠ 0) (hk : 2 ^ k ∣ x) : k ≤ tzN x := by
  rcases Nat.lt_or_ge (tzN x) k with g | g
  · obtain ⟨_, m, h2⟩ := tz_is hx h
    exfalso
    have h3 : 2 ^ (tzN x + 1) ∣ x := Nat.dvd_trans (Nat.pow_dvd_pow 2 g) hk
    obtain ⟨c, h4⟩ := h3
    have hp := Nat.pow_pos (n := tzN x) (show 0 < 2 by omega)
    have h5 : 2 ^ tzN x * (2 * m + 1) = 2 ^ tzN x * (2 * c) := by rw [← h2, ← Nat.mul_assoc, ← Nat.pow_succ]; exact h4
    have := Nat.eq_of_mul_eq_mul_left hp h5
    omega
  · exact g
theorem lz_tz {x : Nat} (hx : x ≤ 18446744073709551615) (h : x ≠ 0) : lzN x + tzN x ≤ 63 := by
  obtain ⟨h0, m, h2⟩ := tz_is hx h
  have h3 := lz_up hx
  have h4 := lz_lt h
  rcases Nat.lt_or_ge 63 (lzN x + tzN x) with g | g
  · exfalso
    have h5 : 2 ^ (64 - lzN x) ≤ 2 ^ tzN x := Nat.pow_le_pow_right (by omega) (by omega)
    have h6 : 2 ^ tzN x * 1 ≤ 2 ^ tzN x * (2 * m + 1) := Nat.mul_le_mul_left _ (by omega)
    omega
  · exact g
theorem sz_pos {x : Nat} (hx : x ≤ 18446744073709551615) (h : x ≠ 0) : 1 ≤ szN x ∧ lzN x + szN x ≤ 64 ∧ 64 - lzN x - szN x = tzN x := by
  have := lz_tz hx h
  unfold szN; omega

/-- a number and what it is less than 2^64, and: the last 1 alone -/
theorem low_one {x : Nat} (hx : x ≤ 18446744073709551615) (h : x ≠ 0) : x &&& (18446744073709551616 - x) = 2 ^ tzN x := by
  obtain ⟨h0, m, h2⟩ := tz_is hx h
  generalize tzN x = t at *
  have hp := Nat.pow_pos (n := t) (show 0 < 2 by omega)
  have h1 : 2 ^ t * (2 * m + 1) - 1 = 2 ^ t * (2 * m) + (2 ^ t - 1) := by
    rw [Nat.mul_add, Nat.mul_one]; omega
  have e : 18446744073709551616 - x = 2 ^ 64 - (x - 1 + 1) := by omega
  apply Nat.eq_of_testBit_eq
  intro j
  rw [Nat.testBit_and, e, Nat.testBit_two_pow_sub_succ (by omega), Nat.testBit_two_pow]
  have h3 : (x - 1).testBit j = if j < t then (2 ^ t - 1).testBit j else (2 * m).testBit (j - t) := by
    rw [h2, h1, Nat.testBit_two_pow_mul_add _ (by omega)]
  have h4 : x.testBit j = if j < t then false else (2 * m + 1).testBit (j - t) := by
    have := Nat.testBit_two_pow_mul_add (2 * m + 1) (b := 0) (i := t) (by omega) j
    rw [Nat.add_zero, Nat.zero_testBit] at this
    rw [← this, ← h2]
  rw [h3, h4]
  by_cases g : j < t
  · have e5 : decide (t = j) = false := decide_eq_false (by omega)
    rw [e5]
    simp [g]
  · rw [if_neg g, if_neg g]
    by_cases g2 : t = j
    · subst g2
      have e6 : t < 64 := by omega
      simp [e6]
    · obtain ⟨i, rfl⟩ : ∃ i, j = t + (i + 1) := ⟨j - t - 1, by omega⟩
      rw [Nat.add_sub_cancel_left, Nat.testBit_succ, Nat.testBit_succ, Nat.mul_div_cancel_left _ (by omega)]
      have : (2 * m + 1) / 2 = m := by omega
      rw [this]
      have e5 : decide (t = t + (i + 1)) = false := decide_eq_false (by omega)
      rw [e5]
      cases m.testBit i <;> simp

theorem low_num (q : List Bool) {n : Nat} (h : q.length = n) : low (num q) n = q := by
  subst h
  apply num_inj
  · rw [low_length]
  · rw [num_low]
    exact Nat.mod_eq_of_lt (num_lt q)
theorem low_bit (x i : Nat) (h : i < 64) : (low x 64).getD i false = x.testBit (63 - i) := low_getD x 64 i h
/-- a window's bits, by a shift -/
theorem cut_low (x a n : Nat) (h : a + n ≤ 64) : cut (low x 64) a n = low (x / 2 ^ (64 - a - n)) n := by
  apply getD_ext
  · rw [cut_length _ _ _ (by rw [low_length]; omega), low_length]
  · intro i hi
    rw [cut_length _ _ _ (by rw [low_length]; omega)] at hi
    rw [cut_getD _ _ _ _ hi, low_bit _ _ (by omega), low_getD _ _ _ hi, Nat.testBit_div_two_pow]
    congr 1
    omega
theorem cut_low_length (x a n : Nat) (h : a + n ≤ 64) : (cut (low x 64) a n).length = n := by rw [cut_length _ _ _ (by rw [low_length]; omega)]
/-- what a window's bits tell is the number, if all its 1s are there -/
theorem win_word {x a n : Nat} (han : a + n ≤ 64) (h1 : x < 2 ^ (64 - a)) (h2 : 2 ^ (64 - a - n) ∣ x) : num (cut (low x 64) a n) * 2 ^ (64 - a - n) = x := by
  have hp := Nat.pow_pos (n := 64 - a - n) (show 0 < 2 by omega)
  rw [cut_low _ _ _ han, num_low, Nat.mod_eq_of_lt, Nat.div_mul_cancel h2]
  rw [Nat.div_lt_iff_lt_mul hp, ← Nat.pow_add]
  have e : n + (64 - a - n) = 64 - a := by omega
  rwa [e]
/-- a number of n bits in a window -/
theorem word_in {y a n : Nat} (han : a + n ≤ 64) (hy : y < 2 ^ n) : y * 2 ^ (64 - a - n) < 2 ^ (64 - a) ∧ y * 2 ^ (64 - a - n) ≤ 18446744073709551615 ∧ 2 ^ (64 - a - n) ∣ y * 2 ^ (64 - a - n) ∧ y * 2 ^ (64 - a - n) / 2 ^ (64 - a - n) = y := by
  have hp := Nat.pow_pos (n := 64 - a - n) (show 0 < 2 by omega)
  have h1 : y * 2 ^ (64 - a - n) < 2 ^ (64 - a) := by
    have e : 64 - a = n + (64 - a - n) := by omega
    have : y * 2 ^ (64 - a - n) < 2 ^ n * 2 ^ (64 - a - n) := Nat.mul_lt_mul_of_pos_right hy hp
    rw [← Nat.pow_add, ← e] at this
    exact this
  have h2 : 2 ^ (64 - a) ≤ 2 ^ 64 := Nat.pow_le_pow_right (by omega) (by omega)
  exact ⟨h1, by omega, Nat.dvd_mul_left _ _, Nat.mul_div_cancel _ hp⟩

/-- a state: the value ahead, and a window -/
structure XS where
  prev : Nat
  lead : Nat
  len : Nat
/-- it may be -/
structure XS.May (s : XS) : Prop where
  p : s.prev ≤ 18446744073709551615
  a : s.lead ≤ 63
  b : s.lead + s.len ≤ 64
  c : s.len = 0 → s.lead = 0
def zeroX : XS := ⟨0, 0, 0⟩
theorem zeroX_may : zeroX.May := ⟨by simp [zeroX], by simp [zeroX], by simp [zeroX], fun _ => rfl⟩

/-- is there a window, and are all 1s in it? -/
def fitsX (s : XS) (x : Nat) : Prop := 0 < s.len ∧ s.lead ≤ lzN x ∧ 64 - s.lead - s.len ≤ tzN x
instance (s : XS) (x : Nat) : Decidable (fitsX s x) := by unfold fitsX; infer_instance
/-- a code by a new window, from the first 1 to the last one -/
def newX (x : Nat) : List Bool := [true, true] ++ low (lzN x) 6 ++ low (szN x - 1) 6 ++ cut (low x 64) (lzN x) (szN x)
/-- a code by the window that is there -/
def oldX (s : XS) (x : Nat) : List Bool := [true, false] ++ cut (low x 64) s.lead s.len
/-- a value's code, x being the bits in which it is another one -/
def codeOf (s : XS) (x : Nat) : List Bool := if x = 0 then [false] else if fitsX s x then oldX s x else newX x
def codeX (s : XS) (v : Nat) : List Bool := codeOf s (s.prev ^^^ v)
/-- the state behind it -/
def nextOf (s : XS) (x v : Nat) : XS := if x = 0 ∨ fitsX s x then ⟨v, s.lead, s.len⟩ else ⟨v, lzN x, szN x⟩
def nextX (s : XS) (v : Nat) : XS := nextOf s (s.prev ^^^ v) v

theorem xor_lt {a b : Nat} (ha : a ≤ 18446744073709551615) (hb : b ≤ 18446744073709551615) : a ^^^ b ≤ 18446744073709551615 := by
  have := Nat.xor_lt_two_pow (x := a) (y := b) (n := 64) (by omega) (by omega)
  omega
theorem xor_back (a b : Nat) : a ^^^ (a ^^^ b) = b := by rw [← Nat.xor_assoc, Nat.xor_self, Nat.zero_xor]
theorem xor_zero_eq {a b : Nat} (h : a ^^^ b = 0) : a = b := by
  have := xor_back a b
  rw [h, Nat.xor_zero] at this
  exact this
theorem nextX_prev (s : XS) (v : Nat) : (nextX s v).prev = v := by unfold nextX nextOf; split <;> rfl
theorem nextX_may {s : XS} {v : Nat} (h : s.May) (hv : v ≤ 18446744073709551615) : (nextX s v).May := by
  have hx := xor_lt h.p hv
  unfold nextX nextOf
  split
  · exact ⟨hv, h.a, h.b, h.c⟩
  · rename_i h1
    have h0 : s.prev ^^^ v ≠ 0 := fun e => h1 (.inl e)
    have h2 := sz_pos hx h0
    have h3 := lz_lt h0
    exact ⟨hv, h3, h2.2.1, fun e => by simp only at e; omega⟩
theorem newX_length {x : Nat} (hx : x ≤ 18446744073709551615) (h : x ≠ 0) : (newX x).length = 14 + szN x := by
  have := sz_pos hx h
  unfold newX
  simp only [List.length_append, low_length, cut_low_length _ _ _ this.2.1, List.length_cons, List.length_nil]
theorem oldX_length {s : XS} (h : s.May) (x : Nat) : (oldX s x).length = 2 + s.len := by
  unfold oldX
  simp only [List.length_append, cut_low_length _ _ _ h.b, List.length_cons, List.length_nil]
theorem codeOf_pos {s : XS} {x : Nat} (h : s.May) (hx : x ≤ 18446744073709551615) : 1 ≤ (codeOf s x).length ∧ (codeOf s x).length ≤ 78 := by
  unfold codeOf
  split
  · simp
  · rename_i h0
    split
    · rw [oldX_length h]; have := h.b; omega
    · rw [newX_length hx h0]; have := sz_pos hx h0; omega
theorem codeX_pos {s : XS} {v : Nat} (h : s.May) (hv : v ≤ 18446744073709551615) : 1 ≤ (codeX s v).length ∧ (codeX s v).length ≤ 78 := codeOf_pos h (xor_lt h.p hv)

/-- what bits begin with: a value, the state behind it, how many bits its code has, an error's number -/
structure XA where
  v : Nat
  s : XS
  n : Nat
  e : Nat
def badX (e : Nat) : XA := ⟨0, zeroX, 0, e⟩
/-- what a window's bits tell -/
def wordX (p : List Bool) (h a n : Nat) : Nat := num (cut p h n) * 2 ^ (64 - a - n)
/-- are they a value's code? -/
def testX (s : XS) (p : List Bool) (h n x : Nat) : XA := if codeOf s x = p.take (h + n) then ⟨s.prev ^^^ x, nextOf s x (s.prev ^^^ x), h + n, 0⟩ else badX 3
def tailX (s : XS) (p : List Bool) (h a n : Nat) : XA := if n = 0 ∨ 64 < a + n then badX 3 else if p.length < h + n then badX 2 else testX s p h n (wordX p h a n)
def getX (s : XS) (p : List Bool) : XA :=
  if p.length = 0 then badX 2 else if p.getD 0 false = false then ⟨s.prev, s, 1, 0⟩ else if p.length = 1 then badX 2
  else if p.getD 1 false = false then tailX s p 2 s.lead s.len else if p.length < 14 then badX 2
  else tailX s p 14 (num (cut p 2 6)) (num (cut p 8 6) + 1)

theorem take_two {p : List Bool} (h : 2 ≤ p.length) (n : Nat) : p.take (2 + n) = [p.getD 0 false, p.getD 1 false] ++ cut p 2 n := by
  match p, h with
  | a :: b :: p, _ => simp [cut, Nat.add_comm 2 n]
theorem cut_more (p : List Bool) (a m n : Nat) : cut p a (m + n) = cut p a m ++ cut p (a + m) n := by
  unfold cut
  rw [List.take_add, List.drop_drop]
theorem take_new {p : List Bool} (h : 2 ≤ p.length) (n : Nat) : p.take (14 + n) = [p.getD 0 false, p.getD 1 false] ++ cut p 2 6 ++ cut p 8 6 ++ cut p 14 n := by
  rw [show 14 + n = 2 + (6 + (6 + n)) by omega, take_two h, cut_more, cut_more, List.append_assoc, List.append_assoc]
theorem num_cut_lt (p : List Bool) (a n : Nat) : num (cut p a n) < 2 ^ n := by
  have h1 := num_lt (cut p a n)
  have h2 : 2 ^ (cut p a n).length ≤ 2 ^ n := Nat.pow_le_pow_right (by omega) (by unfold cut; rw [List.length_take]; omega)
  omega
theorem wordX_le (p : List Bool) {h a n : Nat} (han : a + n ≤ 64) : wordX p h a n ≤ 18446744073709551615 := (word_in han (num_cut_lt p h n)).2.1
/-- a window's bits, as they are told -/
theorem cut_word {p : List Bool} {h a n : Nat} (han : a + n ≤ 64) (hl : h + n ≤ p.length) : cut (low (wordX p h a n) 64) a n = cut p h n := by
  rw [cut_low _ _ _ han]
  unfold wordX
  rw [(word_in han (num_cut_lt p h n)).2.2.2, low_num]
  exact cut_length _ _ _ hl

/-- by the window that is there: they are a code just if one is 1 -/
theorem old_test {s : XS} {p : List Bool} (hs : s.May) (h0 : p.getD 0 false = true) (h1 : p.getD 1 false = false) (hn : s.len ≠ 0) (hl : 2 + s.len ≤ p.length) :
    testX s p 2 s.len (wordX p 2 s.lead s.len) = if wordX p 2 s.lead s.len = 0 then badX 3 else ⟨s.prev ^^^ wordX p 2 s.lead s.len, ⟨s.prev ^^^ wordX p 2 s.lead s.len, s.lead, s.len⟩, 2 + s.len, 0⟩ := by
  have hb := hs.b
  have hw := word_in hs.b (num_cut_lt p 2 s.len)
  have hc := cut_word (p := p) (h := 2) hb hl
  have ht := take_two (p := p) (by omega) s.len
  change wordX p 2 s.lead s.len < _ ∧ wordX p 2 s.lead s.len ≤ _ ∧ _ ∣ wordX p 2 s.lead s.len ∧ _ at hw
  generalize wordX p 2 s.lead s.len = x at *
  unfold testX
  by_cases h : x = 0
  · subst h
    rw [if_neg, if_pos rfl]
    intro e
    have := congrArg List.length e
    rw [List.length_take] at this
    simp [codeOf] at this
    omega
  · rw [if_neg h]
    have hf : fitsX s x := ⟨by omega, lz_ge hw.2.1 (by omega) hw.1, tz_ge hw.2.1 h hw.2.2.1⟩
    rw [if_pos]
    · unfold nextOf
      rw [if_pos (.inr hf)]
    · unfold codeOf oldX
      rw [if_neg h, if_pos hf, hc, ht, h0, h1]

/-- by a new window: they are a code just if the first and the last one are 1, and the window ahead had no room -/
theorem new_test {s : XS} {p : List Bool} {a n : Nat} (h0 : p.getD 0 false = true) (h1 : p.getD 1 false = true) (ha : a = num (cut p 2 6)) (hn : n = num (cut p 8 6) + 1) (han : a + n ≤ 64) (hl : 14 + n ≤ p.length) :
    testX s p 14 n (wordX p 14 a n) = if lzN (wordX p 14 a n) = a ∧ szN (wordX p 14 a n) = n ∧ ¬ fitsX s (wordX p 14 a n) then ⟨s.prev ^^^ wordX p 14 a n, ⟨s.prev ^^^ wordX p 14 a n, a, n⟩, 14 + n, 0⟩ else badX 3 := by
  have hw := word_in han (num_cut_lt p 14 n)
  have hc := cut_word (p := p) (h := 14) han hl
  have ht := take_new (p := p) (by omega) n
  change wordX p 14 a n < _ ∧ wordX p 14 a n ≤ _ ∧ _ ∣ wordX p 14 a n ∧ _ at hw
  generalize wordX p 14 a n = x at *
  have h6 := num_cut_lt p 2 6
  have h7 := num_cut_lt p 8 6
  have hla : (cut p 2 6).length = 6 := cut_length _ _ _ (by omega)
  have hln : (cut p 8 6).length = 6 := cut_length _ _ _ (by omega)
  unfold testX
  by_cases hx : x = 0
  · subst hx
    rw [if_neg, if_neg]
    · rw [lz_zero]
      intro h
      omega
    · intro e
      have := congrArg List.length e
      rw [List.length_take] at this
      simp [codeOf] at this
      omega
  · by_cases hf : fitsX s x
    · rw [if_neg, if_neg (fun h => h.2.2 hf)]
      intro e
      have := congrArg (fun l => l.getD 1 false) e
      rw [ht, h1] at this
      simp [codeOf, oldX, hx, hf] at this
    · have hz := sz_pos hw.2.1 hx
      have hz3 := lz_lt hx
      by_cases hq : lzN x = a ∧ szN x = n
      · rw [if_pos, if_pos ⟨hq.1, hq.2, hf⟩]
        · unfold nextOf
          rw [if_neg (fun h => h.elim hx hf), hq.1, hq.2]
        · unfold codeOf newX
          rw [if_neg hx, if_neg hf, hq.1, hq.2, hc, ht, h0, h1]
          have e1 : low a 6 = cut p 2 6 := by rw [ha]; exact low_num _ hla
          have e2 : low (n - 1) 6 = cut p 8 6 := by rw [hn, Nat.add_sub_cancel]; exact low_num _ hln
          rw [e1, e2]
      · rw [if_neg, if_neg (fun h => hq ⟨h.1, h.2.1⟩)]
        intro e
        apply hq
        unfold codeOf newX at e
        rw [if_neg hx, if_neg hf, ht, h0, h1] at e
        simp only [List.append_assoc, List.cons_append, List.nil_append, List.cons.injEq, true_and] at e
        obtain ⟨e1, e2⟩ := List.append_inj e (by rw [low_length, hla])
        obtain ⟨e3, _⟩ := List.append_inj e2 (by rw [low_length, hln])
        have g1 := congrArg num e1
        have g2 := congrArg num e3
        rw [num_low] at g1 g2
        omega

/-- what was put is got -/
theorem getX_put {s : XS} {v : Nat} (hs : s.May) (hv : v ≤ 18446744073709551615) (q : List Bool) : getX s (codeX s v ++ q) = ⟨v, nextX s v, (codeX s v).length, 0⟩ := by
  have hx := xor_lt hs.p hv
  have hb := xor_back s.prev v
  have hn1 : nextX s v = nextOf s (s.prev ^^^ v) v := rfl
  unfold codeX
  rw [hn1]
  generalize hxe : s.prev ^^^ v = x at *
  by_cases h0 : x = 0
  · have hp := xor_zero_eq (hxe.trans h0)
    have hn : nextOf s x v = s := by unfold nextOf; rw [if_pos (.inl h0), ← hp]
    rw [hn, ← hp]
    unfold codeOf
    rw [if_pos h0]
    rfl
  · by_cases hf : fitsX s x
    · have hl := oldX_length hs x
      have hc : codeOf s x = oldX s x := by unfold codeOf; rw [if_neg h0, if_pos hf]
      have hp : (codeOf s x ++ q).take (2 + s.len) = codeOf s x := by rw [hc, ← hl, List.take_left]
      have hlen : (codeOf s x ++ q).length = 2 + s.len + q.length := by rw [List.length_append, hc, hl]
      have g0 : (codeOf s x ++ q).getD 0 false = true := by rw [hc]; rfl
      have g1 : (codeOf s x ++ q).getD 1 false = false := by rw [hc]; rfl
      have hcut : cut (codeOf s x ++ q) 2 s.len = cut (low x 64) s.lead s.len := by
        rw [hc]
        unfold oldX cut
        simp only [List.cons_append, List.nil_append, List.drop_succ_cons, List.drop_zero]
        apply List.take_left'
        exact cut_low_length _ _ _ hs.b
      have hw : wordX (codeOf s x ++ q) 2 s.lead s.len = x := by
        unfold wordX
        rw [hcut]
        exact win_word hs.b (lz_under hx hf.2.1) (tz_dvd hx h0 hf.2.2)
      have h64 := hs.b
      have hlp := hf.1
      unfold getX tailX
      rw [if_neg (by omega), g0, if_neg (by simp), if_neg (by omega), g1, if_pos rfl, if_neg (by omega), if_neg (by omega), hw]
      unfold testX
      rw [hp, if_pos rfl, hb, hc, hl]
    · have hz := sz_pos hx h0
      have hz3 := lz_lt h0
      have hl := newX_length hx h0
      have hc : codeOf s x = newX x := by unfold codeOf; rw [if_neg h0, if_neg hf]
      have hp : (codeOf s x ++ q).take (14 + szN x) = codeOf s x := by rw [hc, ← hl, List.take_left]
      have hlen : (codeOf s x ++ q).length = 14 + szN x + q.length := by rw [List.length_append, hc, hl]
      have g0 : (codeOf s x ++ q).getD 0 false = true := by rw [hc]; rfl
      have g1 : (codeOf s x ++ q).getD 1 false = true := by rw [hc]; rfl
      have hcut : cut (codeOf s x ++ q) 2 6 = low (lzN x) 6 ∧ cut (codeOf s x ++ q) 8 6 = low (szN x - 1) 6 ∧ cut (codeOf s x ++ q) 14 (szN x) = cut (low x 64) (lzN x) (szN x) := by
        have hcl := cut_low_length x (lzN x) (szN x) hz.2.1
        have hll := low_length (lzN x) 6
        have hsl := low_length (szN x - 1) 6
        rw [hc]
        unfold newX
        generalize cut (low x 64) (lzN x) (szN x) = c3 at *
        generalize low (lzN x) 6 = c1 at *
        generalize low (szN x - 1) 6 = c2 at *
        generalize szN x = z at *
        refine ⟨?_, ?_, ?_⟩
        · unfold cut
          simp only [List.append_assoc, List.cons_append, List.nil_append, List.drop_succ_cons, List.drop_zero]
          exact List.take_left' hll
        · unfold cut
          simp only [List.append_assoc, List.cons_append, List.nil_append]
          rw [show (8 : Nat) = 6 + 1 + 1 by omega, List.drop_succ_cons, List.drop_succ_cons, List.drop_left' hll]
          exact List.take_left' hsl
        · unfold cut
          simp only [List.append_assoc, List.cons_append, List.nil_append]
          rw [show (14 : Nat) = 6 + 6 + 1 + 1 by omega, List.drop_succ_cons, List.drop_succ_cons, ← List.drop_drop, List.drop_left' hll, List.drop_left' hsl]
          exact List.take_left' hcl
      have ha : num (cut (codeOf s x ++ q) 2 6) = lzN x := by rw [hcut.1, num_low]; omega
      have hn : num (cut (codeOf s x ++ q) 8 6) + 1 = szN x := by rw [hcut.2.1, num_low]; omega
      have hw : wordX (codeOf s x ++ q) 14 (lzN x) (szN x) = x := by
        unfold wordX
        rw [hcut.2.2]
        exact win_word hz.2.1 (lz_under hx (Nat.le_refl _)) (tz_dvd hx h0 (by omega))
      unfold getX tailX
      rw [if_neg (by omega), g0, if_neg (by simp), if_neg (by omega), g1, if_neg (by simp), if_neg (by omega), ha, hn, if_neg (by omega), if_neg (by omega), hw]
      unfold testX
      rw [hp, if_pos rfl, hb, hc, hl]

theorem testX_back {s : XS} {p : List Bool} {h n x : Nat} (hx : (testX s p h n x).e = 0) (hl : h + n ≤ p.length) (h1 : 1 ≤ h) :
    codeX s (testX s p h n x).v = p.take (testX s p h n x).n ∧ nextX s (testX s p h n x).v = (testX s p h n x).s ∧ 1 ≤ (testX s p h n x).n ∧ (testX s p h n x).n ≤ p.length := by
  unfold testX at hx ⊢
  split
  · rename_i hc
    simp only [codeX, nextX, xor_back]
    exact ⟨hc, trivial, by omega, hl⟩
  · rename_i hc
    rw [if_neg hc] at hx
    simp [badX] at hx
theorem tailX_back {s : XS} {p : List Bool} {h a n : Nat} (hx : (tailX s p h a n).e = 0) (h1 : 1 ≤ h) :
    codeX s (tailX s p h a n).v = p.take (tailX s p h a n).n ∧ nextX s (tailX s p h a n).v = (tailX s p h a n).s ∧ 1 ≤ (tailX s p h a n).n ∧ (tailX s p h a n).n ≤ p.length := by
  unfold tailX at hx ⊢
  split
  · rename_i hc
    rw [if_pos hc] at hx
    simp [badX] at hx
  · rename_i hc
    rw [if_neg hc] at hx
    split
    · rename_i hd
      rw [if_pos hd] at hx
      simp [badX] at hx
    · rename_i hd
      rw [if_neg hd] at hx
      exact testX_back hx (by omega) h1
/-- what is got has those bits as its code -/
theorem getX_back {s : XS} {p : List Bool} (hx : (getX s p).e = 0) :
    codeX s (getX s p).v = p.take (getX s p).n ∧ nextX s (getX s p).v = (getX s p).s ∧ 1 ≤ (getX s p).n ∧ (getX s p).n ≤ p.length := by
  unfold getX at hx ⊢
  by_cases h1 : p.length = 0
  · rw [if_pos h1] at hx
    simp [badX] at hx
  rw [if_neg h1] at hx ⊢
  by_cases h2 : p.getD 0 false = false
  · rw [if_pos h2]
    refine ⟨?_, ?_, by simp, by simp; omega⟩
    · simp only [codeX, codeOf, Nat.xor_self, if_true]
      match p, h1, h2 with
      | a :: p, _, h2 => simpa using h2.symm
    · simp only [nextX, nextOf, Nat.xor_self, true_or, if_true]
  rw [if_neg h2] at hx ⊢
  by_cases h3 : p.length = 1
  · rw [if_pos h3] at hx
    simp [badX] at hx
  rw [if_neg h3] at hx ⊢
  by_cases h4 : p.getD 1 false = false
  · rw [if_pos h4] at hx ⊢
    exact tailX_back hx (by omega)
  rw [if_neg h4] at hx ⊢
  by_cases h5 : p.length < 14
  · rw [if_pos h5] at hx
    simp [badX] at hx
  rw [if_neg h5] at hx ⊢
  exact tailX_back hx (by omega)

theorem testX_in {s : XS} {p : List Bool} {h n x : Nat} (hs : s.May) (hx : x ≤ 18446744073709551615) (hn : h + n ≤ 78) : (testX s p h n x).v ≤ 18446744073709551615 ∧ (testX s p h n x).s.May ∧ (testX s p h n x).n ≤ 78 ∧ (testX s p h n x).e ≤ 3 := by
  unfold testX
  split
  · have hv := xor_lt hs.p hx
    have := nextX_may hs hv
    unfold nextX at this
    rw [xor_back] at this
    exact ⟨hv, this, hn, by simp⟩
  · exact ⟨by simp [badX], zeroX_may, by simp [badX], by simp [badX]⟩
theorem tailX_in {s : XS} {p : List Bool} {h a n : Nat} (hs : s.May) (hn : h ≤ 14) : (tailX s p h a n).v ≤ 18446744073709551615 ∧ (tailX s p h a n).s.May ∧ (tailX s p h a n).n ≤ 78 ∧ (tailX s p h a n).e ≤ 3 := by
  unfold tailX
  split
  · exact ⟨by simp [badX], zeroX_may, by simp [badX], by simp [badX]⟩
  · split
    · exact ⟨by simp [badX], zeroX_may, by simp [badX], by simp [badX]⟩
    · exact testX_in hs (wordX_le p (by omega)) (by omega)
theorem getX_in {s : XS} (p : List Bool) (hs : s.May) : (getX s p).v ≤ 18446744073709551615 ∧ (getX s p).s.May ∧ (getX s p).n ≤ 78 ∧ (getX s p).e ≤ 3 := by
  have hbad : (badX 2).v ≤ 18446744073709551615 ∧ (badX 2).s.May ∧ (badX 2).n ≤ 78 ∧ (badX 2).e ≤ 3 := ⟨by simp [badX], zeroX_may, by simp [badX], by simp [badX]⟩
  unfold getX
  split
  · exact hbad
  · split
    · exact ⟨hs.p, hs, by simp, by simp⟩
    · split
      · exact hbad
      · split
        · exact tailX_in hs (by omega)
        · split
          · exact hbad
          · exact tailX_in hs (by omega)

/-- the last 1 among the first i of 64 bits -/
def lastN (x : Nat) : Nat → Int
  | 0 => -1
  | i + 1 => if x.testBit (63 - i) then (i : Int) else lastN x i
/-- the first 1 among them -/
def firstN (x i : Nat) : Int := if i ≤ lzN x then -1 else (lzN x : Int)
theorem bit_ahead {x i : Nat} (hx : x ≤ 18446744073709551615) (h : i < lzN x) : x.testBit (63 - i) = false := by
  apply Nat.testBit_lt_two_pow
  have := lz_le x
  have h1 := lz_under (a := i + 1) hx (by omega)
  have e : 64 - (i + 1) = 63 - i := by omega
  rwa [e] at h1
theorem bit_first {x : Nat} (hx : x ≤ 18446744073709551615) (h : x ≠ 0) : x.testBit (63 - lzN x) = true := by
  have h1 := lz_up hx
  have h2 := lz_down hx h
  have h3 := lz_lt h
  have e : 64 - lzN x = 63 - lzN x + 1 := by omega
  rw [e, Nat.pow_succ] at h1
  generalize 63 - lzN x = k at *
  rw [Nat.testBit_eq_decide_div_mod_eq]
  have hp := Nat.pow_pos (n := k) (show 0 < 2 by omega)
  have : x / 2 ^ k = 1 := by
    apply Nat.div_eq_of_lt_le <;> omega
  rw [this]
  rfl
theorem bit_behind {x j : Nat} (hx : x ≤ 18446744073709551615) (h : x ≠ 0) (hj : j < tzN x) : x.testBit j = false := by
  obtain ⟨_, m, h2⟩ := tz_is hx h
  rw [h2, Nat.testBit_two_pow_mul]
  have : ¬ j ≥ tzN x := by omega
  simp [this]
theorem bit_last {x : Nat} (hx : x ≤ 18446744073709551615) (h : x ≠ 0) : x.testBit (tzN x) = true := by
  obtain ⟨_, m, h2⟩ := tz_is hx h
  generalize tzN x = t at *
  rw [h2, Nat.testBit_two_pow_mul]
  simp
theorem last_is {x : Nat} (hx : x ≤ 18446744073709551615) (h : x ≠ 0) : ∀ i, 63 - tzN x < i → i ≤ 64 → lastN x i = ((63 - tzN x : Nat) : Int)
  | 0, h1, _ => by omega
  | i + 1, h1, h2 => by
    unfold lastN
    have h3 := (tz_is hx h).1
    by_cases e : i = 63 - tzN x
    · have e2 : 63 - i = tzN x := by omega
      rw [e2, bit_last hx h, if_pos rfl, e]
    · rw [bit_behind hx h (by omega), if_neg (by simp)]
      exact last_is hx h i (by omega) (by omega)
theorem first_step {x i : Nat} (hx : x ≤ 18446744073709551615) (hb : x.testBit (63 - i) = true) : firstN x (i + 1) = if firstN x i < 0 then (i : Int) else firstN x i := by
  have h1 : ¬ i < lzN x := fun h => by rw [bit_ahead hx h] at hb; cases hb
  unfold firstN
  by_cases e : i = lzN x
  · rw [if_neg (by omega), if_pos (by omega)]; omega
  · rw [if_neg (by omega), if_neg (by omega), if_neg (by omega)]
theorem first_skip {x i : Nat} (hx : x ≤ 18446744073709551615) (hi : i < 64) (hb : x.testBit (63 - i) = false) : firstN x (i + 1) = firstN x i := by
  unfold firstN
  by_cases e : i = lzN x
  · exfalso
    by_cases h : x = 0
    · subst h
      rw [lz_zero] at e
      omega
    · subst e
      rw [bit_first hx h] at hb
      cases hb
  · split <;> split <;> omega

end Go.Proofs.YtldodfdbaonmkaaDoor
