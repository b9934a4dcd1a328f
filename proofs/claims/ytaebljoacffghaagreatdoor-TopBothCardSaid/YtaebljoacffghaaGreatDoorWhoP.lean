/-
  Texts of this proof, one behind the other: Slow3, Pack1, Who1, Who2.
-/
import Derived.Test.YtaebljoacffghaaGreatDoorSlowP
import Derived.Test.YtaebljoacffghaaGreatDoorChunks
import Derived.Test.YtaebljoacffghaaGreatDoorIdxP
import Derived.Test.YtaebljoacffghaaGreatDoorPlain
import Derived.Test.YtaebljoacffghaaGreatDoorUvI

/-
  Plain facts (no program): encoded and decoded; a byte of 0 more; decoded and encoded.
-/
namespace Go.Proofs.YtaebljoacffghaaGreatDoor

theorem num_zeros : ∀ {p : List Bool}, (∀ i, p.getD i false = false) → num p = 0 := by
  intro p h
  apply Nat.eq_of_testBit_eq
  intro i
  rw [num_testBit, Nat.zero_testBit, h]
  simp
/-- the bits of bits' bytes: these, filled up with 0s -/
theorem flat_pack (p : List Bool) : ∃ t, flat (pack p) = p ++ t ∧ t.length < 8 ∧ num t = 0 := by
  refine ⟨(flat (pack p)).drop p.length, ?_, ?_, ?_⟩
  · conv => lhs; rw [← List.take_append_drop p.length (flat (pack p)), take_flat_pack]
  · rw [List.length_drop, flat_length, pack_length]; omega
  · apply num_zeros
    intro i
    have : ((flat (pack p)).drop p.length).getD i false = (flat (pack p)).getD (p.length + i) false := by simp [List.getD_eq_getElem?_getD]
    rw [this, flat_getD, bit_pack, List.getD_eq_getElem?_getD, List.getElem?_eq_none (by omega)]
    rfl
section
variable {k : Nat} {xs : List (Int × Nat)}
/-- encoded, without an error -/
theorem EncE.rises (hk : k = 1 ∨ k = 2) (h0 : xs.length ≠ 0) (hr : Rises xs) : EncE (k : Int) xs 0 := .inr ⟨h0, .inr ⟨k, rfl, hk, .inr ⟨hr, rfl⟩⟩⟩
theorem enc_dec (hk : k = 1 ∨ k = 2) (hx : AllQ xs) (hr : Rises xs) (h1 : 1 ≤ xs.length) (h2 : xs.length ≤ 65535) : DecA (k : Int) (pack (encP (k : Int) xs 0)) (xs.length : Nat) xs 0 := by
  refine .inr ⟨by omega, ?_⟩
  unfold encP
  rw [if_pos rfl, Int.toNat_natCast, Int.toNat_natCast]
  obtain ⟨t, h3, h4, h5⟩ := flat_pack (cdK k xs xs.length)
  have := dec_encoded hk hx hr t
  rw [← h3] at this
  unfold tailE at this
  rwa [if_pos ⟨h4, h5⟩] at this
/-- with a byte of 0 more -/
theorem enc_more (hk : k = 1 ∨ k = 2) (hx : AllQ xs) (hr : Rises xs) (h1 : 1 ≤ xs.length) (h2 : xs.length ≤ 65535) : DecA (k : Int) (pack (encP (k : Int) xs 0) ++ [0]) (xs.length : Nat) xs 3 := by
  refine .inr ⟨by omega, ?_⟩
  unfold encP
  rw [if_pos rfl, Int.toNat_natCast, Int.toNat_natCast]
  obtain ⟨t, h3, h4, h5⟩ := flat_pack (cdK k xs xs.length)
  have := dec_encoded hk hx hr (t ++ flat [0])
  rw [← List.append_assoc, ← h3, ← flat_app] at this
  rwa [tailE_long (by rw [List.length_append, flat_length]; simp)] at this
theorem cdK_ge (h : AllQ xs) : ∀ j, j ≤ (cdK k xs j).length
  | 0 => Nat.zero_le _
  | j + 1 => by
    have h1 := cdK_ge h j
    have h2 := (putK_len (k := k) (t := (xs.getD j (0, 0)).1) (stK_may (k := k) h j) (h j).2).1
    unfold cdK
    rw [List.length_append]
    omega
/-- decoded, without an error, and encoded -/
theorem dec_enc {bs : List Nat} {n : Int} (hk : k = 1 ∨ k = 2) (hb : ∀ x ∈ bs, x < 256) (hx : AllQ xs) (h : DecA (k : Int) bs n xs 0) : (xs.length : Int) = n ∧ xs.length ≤ 8 * bs.length ∧ EncE (k : Int) xs 0 ∧ pack (encP (k : Int) xs 0) = bs := by
  rcases h with ⟨_, _, h⟩ | ⟨h1, h⟩
  · cases h
  · obtain ⟨h2, h3, k', h4, _, t, h5, h6, h7⟩ := decoded_enc h (by omega)
    obtain rfl : k = k' := by omega
    have h8 := pack_filled hb h5 h6 h7
    have h9 := cdK_ge (k := k) hx n.toNat
    have h10 := congrArg List.length h5
    rw [flat_length, List.length_append] at h10
    refine ⟨by omega, by omega, EncE.rises hk (by omega) h3, ?_⟩
    unfold encP
    rw [if_pos rfl, Int.toNat_natCast, h2]
    exact h8
end

end Go.Proofs.YtaebljoacffghaaGreatDoor

/-
  Plain facts (no program): a block: an index, and of each chunk its samples' bytes and their sum; by sizes that are as many as there are samples, or more, it is the same; unlike samples have unlike blocks.
-/
namespace Go.Proofs.YtaebljoacffghaaGreatDoor

/-- the samples of chunk j, s of them a chunk -/
def partQ (s : Nat) (xs : List (Int × Nat)) (j : Nat) : List (Int × Nat) := (xs.drop (j * s)).take s
/-- how many chunks there are -/
def manyQ (s : Nat) (xs : List (Int × Nat)) : Nat := (xs.length + s - 1) / s
/-- a chunk's bytes; with their sum behind them -/
def bytQ (k : Nat) (p : List (Int × Nat)) : List Nat := pack (cdK k p p.length)
def sumQ (k : Nat) (p : List (Int × Nat)) : List Nat := bytQ k p ++ bigB 4 (crcS (bytQ k p))
/-- a chunk's entry -/
def entQ (k : Nat) (p : List (Int × Nat)) : Ent := ⟨(p.getD 0 (0, 0)).1, (p.getD (p.length - 1) (0, 0)).1, (p.length : Int), ((sumQ k p).length : Int)⟩
/-- the first j chunks' entries, and their bytes -/
def entsTo (k s : Nat) (xs : List (Int × Nat)) (j : Nat) : List Ent := (List.range j).map fun i => entQ k (partQ s xs i)
def bodyTo (k s : Nat) (xs : List (Int × Nat)) (j : Nat) : List Nat := ((List.range j).map fun i => sumQ k (partQ s xs i)).flatten
/-- a block -/
def blockB (k s : Nat) (xs : List (Int × Nat)) : List Nat := idxB k (entsTo k s xs (manyQ s xs)) ++ bodyTo k s xs (manyQ s xs)

section
variable {k s : Nat} {xs ys : List (Int × Nat)}
theorem lt_many (hs : 1 ≤ s) (j : Nat) : j < manyQ s xs ↔ j * s < xs.length := by
  unfold manyQ
  rw [Nat.lt_iff_add_one_le, Nat.le_div_iff_mul_le hs, Nat.add_mul]
  omega
theorem many_le (hs : 1 ≤ s) : manyQ s xs ≤ xs.length := by
  rcases Nat.lt_or_ge xs.length (manyQ s xs) with h | h
  · have h1 := (lt_many hs xs.length).1 h
    have : xs.length * 1 ≤ xs.length * s := Nat.mul_le_mul (Nat.le_refl _) hs
    omega
  · exact h
theorem many_over (hs : 1 ≤ s) : xs.length ≤ manyQ s xs * s := by
  rcases Nat.lt_or_ge (manyQ s xs * s) xs.length with h | h
  · exact absurd ((lt_many hs _).2 h) (by omega)
  · exact h
theorem part_len (j : Nat) : (partQ s xs j).length = min s (xs.length - j * s) := by
  unfold partQ
  rw [List.length_take, List.length_drop]
theorem part_pos (hs : 1 ≤ s) {j : Nat} (hj : j < manyQ s xs) : 1 ≤ (partQ s xs j).length := by
  have := (lt_many hs j).1 hj
  rw [part_len]
  omega
theorem part_getD {j i : Nat} (hi : i < (partQ s xs j).length) : (partQ s xs j).getD i (0, 0) = xs.getD (j * s + i) (0, 0) := by
  rw [part_len] at hi
  unfold partQ
  simp only [List.getD_eq_getElem?_getD]
  rw [List.getElem?_take_of_lt (by omega), List.getElem?_drop]
theorem part_rises (h : Rises xs) (j : Nat) : Rises (partQ s xs j) := by
  intro i hi
  rw [part_getD (by omega), part_getD (by omega)]
  have hl := part_len (s := s) (xs := xs) j
  have := h (j * s + i) (by omega)
  rwa [Nat.add_assoc] at this
theorem part_all (h : AllQ xs) (j : Nat) : AllQ (partQ s xs j) := by
  intro i
  rcases Nat.lt_or_ge i (partQ s xs j).length with hi | hi
  · rw [part_getD hi]; exact h _
  · rw [List.getD_eq_getElem?_getD, List.getElem?_eq_none hi]
    exact ⟨by simp, by simp⟩
theorem rises_le (h : Rises xs) {i j : Nat} (hij : i ≤ j) (hj : j < xs.length) : (xs.getD i (0, 0)).1 ≤ (xs.getD j (0, 0)).1 := by
  induction j with
  | zero => obtain rfl : i = 0 := by omega
            exact Int.le_refl _
  | succ j ih =>
    by_cases e : i = j + 1
    · rw [e]; exact Int.le_refl _
    · have h1 := ih (by omega) (by omega)
      have h2 := h j hj
      omega

theorem byt_len (hx : AllQ xs) : (bytQ k xs).length ≤ (146 * xs.length + 7) / 8 := by
  unfold bytQ
  rw [pack_length]
  have := cdK_le (k := k) hx xs.length
  omega
theorem byt_lt (k : Nat) (xs : List (Int × Nat)) : ∀ x ∈ bytQ k xs, x < 256 := pack_lt _
theorem sum_len (k : Nat) (xs : List (Int × Nat)) : (sumQ k xs).length = (bytQ k xs).length + 4 := by
  unfold sumQ
  rw [List.length_append, bigB_length]
theorem part_small (hl : xs.length ≤ 5000) (j : Nat) : (partQ s xs j).length ≤ 5000 := by
  rw [part_len]; omega
theorem part_sum_len (hx : AllQ xs) (hl : xs.length ≤ 5000) (j : Nat) : (sumQ k (partQ s xs j)).length ≤ 100000 := by
  have h1 := byt_len (k := k) (part_all (s := s) hx j)
  have h2 := part_small (s := s) hl j
  rw [sum_len]
  omega
theorem ents_len (j : Nat) : (entsTo k s xs j).length = j := by simp [entsTo]
theorem ents_succ (j : Nat) : entsTo k s xs (j + 1) = entsTo k s xs j ++ [entQ k (partQ s xs j)] := by
  unfold entsTo
  rw [List.range_succ, List.map_append]
  rfl
theorem body_succ (j : Nat) : bodyTo k s xs (j + 1) = bodyTo k s xs j ++ sumQ k (partQ s xs j) := by
  unfold bodyTo
  rw [List.range_succ, List.map_append, List.flatten_append]
  simp
theorem body_len (hx : AllQ xs) (hl : xs.length ≤ 5000) (j : Nat) : (bodyTo k s xs j).length ≤ 100000 * j := by
  induction j with
  | zero => simp [bodyTo]
  | succ j ih =>
    rw [body_succ, List.length_append]
    have := part_sum_len (k := k) (s := s) hx hl j
    omega
theorem ents_at {j i : Nat} (hi : i < j) : (entsTo k s xs j).getD i ent0 = entQ k (partQ s xs i) := by
  rw [List.getD_eq_getElem?_getD, List.getElem?_eq_getElem (by rw [ents_len]; exact hi)]
  simp [entsTo]
theorem ent_fit (hx : AllQ xs) (hl : xs.length ≤ 5000) (j : Nat) : FitE (entQ k (partQ s xs j)) := by
  have h1 := part_all (s := s) hx j
  have h2 := part_small (s := s) hl j
  have h3 := part_sum_len (k := k) (s := s) hx hl j
  exact ⟨(h1 0).1, (h1 _).1, by show (_ : Int) ≤ ((partQ s xs j).length : Int) ∧ _; simp only [entQ]; omega, by simp only [entQ]; omega⟩
theorem ents_fit (hx : AllQ xs) (hl : xs.length ≤ 5000) (j : Nat) : ∀ e ∈ entsTo k s xs j, FitE e := by
  intro e he
  obtain ⟨i, _, rfl⟩ := List.mem_map.1 he
  exact ent_fit hx hl i
/-- the index of a block may be -/
theorem block_may (hk : k = 1 ∨ k = 2) (hx : AllQ xs) (hr : Rises xs) (hl : xs.length ≤ 5000) (hs : 1 ≤ s) (hs2 : s ≤ 65535) : May (k : Int) (entsTo k s xs (manyQ s xs)) := by
  have hm := many_le (xs := xs) hs
  refine ⟨by omega, by rw [ents_len]; omega, fun j hj => ?_⟩
  rw [ents_len] at hj
  have hp := part_pos hs hj
  have hpl := part_len (s := s) (xs := xs) j
  have hjl := (lt_many hs j).1 hj
  have h3 := part_sum_len (k := k) (s := s) hx hl j
  have h4 := sum_len k (partQ s xs j)
  rw [ents_at hj]
  refine ⟨⟨by simp only [entQ]; omega, by simp only [entQ]; omega, ?_⟩, fun h0 => ?_⟩
  · simp only [entQ]
    rw [part_getD (by omega), part_getD (by omega)]
    exact rises_le hr (by omega) (by omega)
  · rw [ents_at (by omega)]
    simp only [entQ]
    have hp2 := part_pos hs (j := j - 1) (xs := xs) (by omega)
    have hpl2 := part_len (s := s) (xs := xs) (j - 1)
    obtain ⟨i, rfl⟩ : ∃ i, j = i + 1 := ⟨j - 1, by omega⟩
    simp only [Nat.add_sub_cancel] at *
    have e : (i + 1) * s = i * s + s := by rw [Nat.add_mul]; omega
    have hpl3 : (partQ s xs i).length = s := by omega
    rw [part_getD (by omega), part_getD (by omega), hpl3]
    have h5 := hr (i * s + (s - 1)) (by omega)
    have e2 : i * s + (s - 1) + 1 = (i + 1) * s + 0 := by omega
    rwa [e2] at h5

/-- a number's bytes tell it, whatever stands behind them -/
theorem uv_same {v v' : Nat} (hv : v ≤ 18446744073709551615) (hv' : v' ≤ 18446744073709551615) {p q : List Nat} (h : uvB v ++ p = uvB v' ++ q) : v = v' ∧ p = q := by
  have h1 := gets_put v p hv
  have h2 := gets_put v' q hv'
  rw [h] at h1
  obtain ⟨rfl, _, _⟩ := h1.same h2
  exact ⟨rfl, List.append_cancel_left h⟩
theorem big_same {n v v' : Nat} (hv : v < 256 ^ n) (hv' : v' < 256 ^ n) {p q : List Nat} (h : bigB n v ++ p = bigB n v' ++ q) : v = v' ∧ p = q := by
  obtain ⟨h1, h2⟩ := List.append_inj h (by rw [bigB_length, bigB_length])
  have := congrArg numB h1
  rw [numB_bigB n v hv, numB_bigB n v' hv'] at this
  exact ⟨this, h2⟩
theorem u64n_same {x y : Int} (hx : -9223372036854775808 ≤ x ∧ x ≤ 9223372036854775807) (hy : -9223372036854775808 ≤ y ∧ y ≤ 9223372036854775807) (h : u64n x = u64n y) : x = y := by
  rw [← s64n_u64n hx, ← s64n_u64n hy, h]
/-- so do an entry's bytes -/
theorem ent_same {e e' : Ent} (hf : FitE e) (hf' : FitE e') {p q : List Nat} (h : entB e ++ p = entB e' ++ q) : e = e' ∧ p = q := by
  obtain ⟨m, x, c, l⟩ := e
  obtain ⟨m', x', c', l'⟩ := e'
  obtain ⟨a1, a2, a3, a4⟩ := hf
  obtain ⟨b1, b2, b3, b4⟩ := hf'
  simp only at a1 a2 a3 a4 b1 b2 b3 b4
  simp only [entB, List.append_assoc] at h
  obtain ⟨h1, g1⟩ := big_same (by have := u64n_le m; omega) (by have := u64n_le m'; omega) h
  obtain ⟨h2, g2⟩ := uv_same (u64n_le _) (u64n_le _) g1
  obtain ⟨h3, g3⟩ := uv_same (u64n_le _) (u64n_le _) g2
  obtain ⟨h4, g4⟩ := uv_same (u64n_le _) (u64n_le _) g3
  clear h g1 g2 g3
  obtain rfl := u64n_same a1 b1 h1
  obtain rfl := u64n_same a3 b3 h3
  obtain rfl := u64n_same a4 b4 h4
  have : x = x' := by unfold u64n at h2; omega
  exact ⟨by rw [this], g4⟩
theorem entries_same : ∀ {es es' : List Ent} {p q : List Nat}, (∀ e ∈ es, FitE e) → (∀ e ∈ es', FitE e) → es.length = es'.length → entsB es ++ p = entsB es' ++ q → es = es' ∧ p = q
  | [], [], p, q, _, _, _, h => ⟨rfl, by simpa [entsB] using h⟩
  | [], _ :: _, _, _, _, _, h, _ => by simp at h
  | _ :: _, [], _, _, _, _, h, _ => by simp at h
  | e :: es, e' :: es', p, q, hf, hf', hl, h => by
    rw [entsB_cons, entsB_cons, List.append_assoc, List.append_assoc] at h
    obtain ⟨h1, h2⟩ := ent_same (hf e (by simp)) (hf' e' (by simp)) h
    obtain ⟨h3, h4⟩ := entries_same (fun x hx => hf x (by simp [hx])) (fun x hx => hf' x (by simp [hx])) (by simpa using hl) h2
    exact ⟨by rw [h1, h3], h4⟩
/-- so do an index's -/
theorem index_same {es es' : List Ent} (hf : ∀ e ∈ es, FitE e) (hf' : ∀ e ∈ es', FitE e) (hl : es.length ≤ 65535) (hl' : es'.length ≤ 65535) {p q : List Nat} (h : idxB k es ++ p = idxB k es' ++ q) : es = es' ∧ p = q := by
  simp only [idxB, headB, List.append_assoc] at h
  have h1 := List.append_cancel_left h
  obtain ⟨h2, h3⟩ := uv_same (by omega) (by omega) h1
  obtain ⟨rfl, _⟩ := entries_same hf hf' h2 h3
  simp only [← List.append_assoc] at h
  exact ⟨rfl, List.append_cancel_left h⟩

theorem pieces_same (f g : Nat → List Nat) : ∀ n, (∀ i, i < n → (f i).length = (g i).length) → ((List.range n).map f).flatten = ((List.range n).map g).flatten → ∀ i, i < n → f i = g i
  | 0, _, _, i, h => absurd h (by omega)
  | n + 1, hl, h, i, hi => by
    simp only [List.range_succ, List.map_append, List.flatten_append, List.map_cons, List.map_nil, List.flatten_cons, List.flatten_nil, List.append_nil] at h
    obtain ⟨h1, h2⟩ := List.append_inj' h (hl n (by omega))
    by_cases e : i = n
    · rw [e]; exact h2
    · exact pieces_same f g n (fun j hj => hl j (by omega)) h1 i (by omega)
theorem parts_all (hs : 1 ≤ s) : ((List.range (manyQ s xs)).map (partQ s xs)).flatten = xs := by
  have key : ∀ j, ((List.range j).map (partQ s xs)).flatten = xs.take (j * s) := by
    intro j
    induction j with
    | zero => simp
    | succ j ih =>
      rw [List.range_succ, List.map_append, List.flatten_append, ih, Nat.add_mul, Nat.one_mul, List.take_add]
      simp [partQ]
  rw [key, List.take_of_length_le (many_over hs)]
/-- unlike samples have unlike blocks -/
theorem block_same (hx : AllQ xs) (hy : AllQ ys) (rx : Rises xs) (ry : Rises ys) (lx : xs.length ≤ 5000) (ly : ys.length ≤ 5000) (hs : 1 ≤ s) (h : blockB k s xs = blockB k s ys) : xs = ys := by
  have mx := many_le (xs := xs) hs
  have my := many_le (xs := ys) hs
  obtain ⟨h1, h2⟩ := index_same (ents_fit hx lx _) (ents_fit hy ly _) (by rw [ents_len]; omega) (by rw [ents_len]; omega) h
  have hN : manyQ s xs = manyQ s ys := by
    have := congrArg List.length h1
    rwa [ents_len, ents_len] at this
  rw [← hN] at h1 h2
  have he : ∀ i, i < manyQ s xs → entQ k (partQ s xs i) = entQ k (partQ s ys i) := by
    intro i hi
    rw [← ents_at (k := k) (s := s) (xs := xs) hi, h1, ents_at hi]
  have hb := pieces_same _ _ _ (fun i hi => by
    have := congrArg Ent.ln (he i hi)
    simp only [entQ] at this
    omega) h2
  have hp : ∀ i, i < manyQ s xs → partQ s xs i = partQ s ys i := by
    intro i hi
    have hc := congrArg Ent.ct (he i hi)
    have hn := congrArg Ent.ln (he i hi)
    simp only [entQ] at hc hn
    have hi2 := hb i hi
    simp only [sumQ] at hi2
    obtain ⟨hi3, _⟩ := List.append_inj' hi2 (by rw [bigB_length, bigB_length])
    unfold bytQ at hi3
    have hc2 : (partQ s ys i).length = (partQ s xs i).length := by omega
    rw [hc2] at hi3
    exact chunk_same (part_all hx i) (part_all hy i) (part_rises rx i) (part_rises ry i) rfl hc2 hi3
  rw [← parts_all (xs := xs) hs, ← parts_all (xs := ys) hs, ← hN]
  congr 1
  apply List.map_congr_left
  intro i hi
  exact hp i (List.mem_range.1 hi)
/-- by sizes that are as many as there are samples, or more, a block is the same -/
theorem many_big (hs : 1 ≤ s) (h : xs.length ≤ s) : manyQ s xs = if xs.length = 0 then 0 else 1 := by
  have h0 := lt_many (xs := xs) hs 0
  have h1 := lt_many (xs := xs) hs 1
  split <;> omega
theorem part_big (h : xs.length ≤ s) : partQ s xs 0 = xs := by
  unfold partQ
  rw [Nat.zero_mul, List.drop_zero, List.take_of_length_le h]
theorem block_big {s' : Nat} (hs : 1 ≤ s) (h : xs.length ≤ s) (hs' : 1 ≤ s') (h' : xs.length ≤ s') : blockB k s xs = blockB k s' xs := by
  unfold blockB
  rw [many_big hs h, many_big hs' h']
  split
  · simp only [entsTo, bodyTo, List.range_zero, List.map_nil]
  · simp only [entsTo, bodyTo, List.range_one, List.map_cons, List.map_nil, part_big h, part_big h']
/-- by lesser ones it is another one -/
theorem block_less {s' : Nat} (hx : AllQ xs) (lx : xs.length ≤ 5000) (hs : 1 ≤ s) (h : s < xs.length) (hs' : 1 ≤ s') (h' : xs.length ≤ s') : blockB k s xs ≠ blockB k s' xs := by
  intro he
  have mx := many_le (xs := xs) hs
  have mx' := many_le (xs := xs) hs'
  obtain ⟨h1, _⟩ := index_same (ents_fit hx lx _) (ents_fit hx lx _) (by rw [ents_len]; omega) (by rw [ents_len]; omega) he
  have hN := congrArg List.length h1
  rw [ents_len, ents_len, many_big hs' h', if_neg (by omega)] at hN
  have := (lt_many (xs := xs) hs 1).2 (by omega)
  omega
theorem block_len (hx : AllQ xs) (hl : xs.length ≤ 5000) (hs : 1 ≤ s) : (blockB k s xs).length ≤ 700000000 := by
  have h1 := body_len (k := k) (s := s) hx hl (manyQ s xs)
  have h2 := headB_len k (entsTo k s xs (manyQ s xs)) (by rw [ents_len]; have := many_le (xs := xs) hs; omega)
  have h3 := many_le (xs := xs) hs
  rw [ents_len] at h2
  unfold blockB idxB
  rw [List.length_append, List.length_append, bigB_length]
  omega
theorem block_lt (hk : k < 256) : ∀ x ∈ blockB k s xs, x < 256 := by
  intro x hx
  rcases List.mem_append.1 hx with h | h
  · rcases List.mem_append.1 h with h | h
    · exact headB_lt hk _ x h
    · exact bigB_lt _ _ x h
  · simp only [bodyTo, List.mem_flatten, List.mem_map] at h
    obtain ⟨l, ⟨i, _, rfl⟩, h⟩ := h
    rcases List.mem_append.1 h with h | h
    · exact pack_lt _ x h
    · exact bigB_lt _ _ x h
end

/-- what is amiss with samples that are to be a block (e of 0: nothing) -/
def PackE (z s : Int) (xs : List (Int × Nat)) (e : Nat) : Prop :=
  (¬ (1 ≤ s ∧ s ≤ 65535) ∧ e = 1) ∨ ((1 ≤ s ∧ s ≤ 65535) ∧ (((z ≠ 1 ∧ z ≠ 2) ∧ e = 6) ∨ ∃ k : Nat, z = (k : Int) ∧ (k = 1 ∨ k = 2) ∧ ((¬ Rises xs ∧ e = 4) ∨ (Rises xs ∧ e = 0))))
section
variable {z s : Int} {xs : List (Int × Nat)} {e e' : Nat}
theorem PackE.same (h : PackE z s xs e) (h' : PackE z s xs e') : e = e' := by
  rcases h with ⟨h0, rfl⟩ | ⟨h0, h⟩
  · rcases h' with ⟨_, rfl⟩ | ⟨h0', _⟩
    · rfl
    · exact absurd h0' h0
  · rcases h' with ⟨h0', _⟩ | ⟨_, h'⟩
    · exact absurd h0 h0'
    · rcases h with ⟨hz, rfl⟩ | ⟨k, hz, hk, h⟩
      · rcases h' with ⟨_, rfl⟩ | ⟨k', hz', hk', _⟩
        · rfl
        · omega
      · rcases h' with ⟨hz', _⟩ | ⟨k', hz', hk', h'⟩
        · omega
        · rcases h with ⟨hr, rfl⟩ | ⟨hr, rfl⟩ <;> rcases h' with ⟨hr', rfl⟩ | ⟨hr', rfl⟩
          · rfl
          · exact absurd hr' hr
          · exact absurd hr hr'
          · rfl
theorem PackE.le (h : PackE z s xs e) : e ≤ 6 := by
  rcases h with ⟨_, rfl⟩ | ⟨_, ⟨_, rfl⟩ | ⟨k, _, _, ⟨_, rfl⟩ | ⟨_, rfl⟩⟩⟩ <;> omega
/-- nothing is amiss -/
theorem PackE.ok (h : PackE z s xs 0) : (1 ≤ s ∧ s ≤ 65535) ∧ ∃ k : Nat, z = (k : Int) ∧ (k = 1 ∨ k = 2) ∧ Rises xs := by
  rcases h with ⟨_, h⟩ | ⟨h0, ⟨_, h⟩ | ⟨k, hz, hk, ⟨_, h⟩ | ⟨hr, _⟩⟩⟩
  · cases h
  · cases h
  · cases h
  · exact ⟨h0, k, hz, hk, hr⟩
end
/-- what is told: a block, or nothing -/
def blockE (z s : Int) (xs : List (Int × Nat)) (e : Nat) : List Nat := if e = 0 then blockB z.toNat s.toNat xs else []

end Go.Proofs.YtaebljoacffghaaGreatDoor

/-
  Plain facts (no program): what a chunk tells, what a block tells; what was packed is told again; a byte turned in a chunk is told.
-/
namespace Go.Proofs.YtaebljoacffghaaGreatDoor

open Classical in
/-- what decoding of bytes comes to, as a function: samples, and an error's number -/
noncomputable def decF (z : Int) (bs : List Nat) (n : Int) : List (Int × Nat) × Nat :=
  if h : ∃ t : List (Int × Nat) × Nat, DecA z bs n t.1 t.2 then Classical.choose h else ([], 1)
theorem decF_of {z n : Int} {bs : List Nat} {xs : List (Int × Nat)} {e : Nat} (h : DecA z bs n xs e) : decF z bs n = (xs, e) := by
  have hx : ∃ t : List (Int × Nat) × Nat, DecA z bs n t.1 t.2 := ⟨(xs, e), h⟩
  unfold decF
  rw [dif_pos hx]
  obtain ⟨e1, e2⟩ := h.same (Classical.choose_spec hx)
  exact Prod.ext e1.symm e2.symm
theorem decF_le (z n : Int) (bs : List Nat) : (decF z bs n).2 ≤ 6 := by
  unfold decF
  split
  · rename_i hx
    exact (Classical.choose_spec hx).le
  · decide
theorem decF_ok {z n : Int} {bs : List Nat} (h : (decF z bs n).2 = 0) : DecA z bs n (decF z bs n).1 0 := by
  unfold decF at h ⊢
  split at h
  · rename_i hx
    rw [dif_pos hx]
    have := Classical.choose_spec hx
    rwa [h] at this
  · cases h

/-- the first and the last sample's time are those that the entry tells -/
def EndsQ (e : Ent) (xs : List (Int × Nat)) : Prop := (xs.getD 0 (0, 0)).1 = e.mn ∧ (xs.getD (xs.length - 1) (0, 0)).1 = e.mx
/-- a chunk's bytes ahead of its sum, and its sum's -/
def bodyC (bs : List Nat) : List Nat := bs.take (bs.length - 4)
def tailC (bs : List Nat) : List Nat := bs.drop (bs.length - 4)
open Classical in
/-- the samples of a chunk, or what is amiss -/
noncomputable def chF (z : Int) (e : Ent) (bs : List Nat) : Except Nat (List (Int × Nat)) :=
  if ¬ ((bs.length : Int) = e.ln ∧ 4 ≤ bs.length) then .error 1 else
  if numB (tailC bs) ≠ crcS (bodyC bs) then .error 7 else
  if (decF z (bodyC bs) e.ct).2 ≠ 0 then .error (decF z (bodyC bs) e.ct).2 else
  if EndsQ e (decF z (bodyC bs) e.ct).1 then .ok (decF z (bodyC bs) e.ct).1 else .error 8
section
variable {z : Int} {e : Ent} {bs : List Nat}
theorem chF_arg (h : ¬ ((bs.length : Int) = e.ln ∧ 4 ≤ bs.length)) : chF z e bs = .error 1 := by
  unfold chF
  rw [if_pos h]
theorem chF_sum (h : (bs.length : Int) = e.ln ∧ 4 ≤ bs.length) (hs : numB (tailC bs) ≠ crcS (bodyC bs)) : chF z e bs = .error 7 := by
  unfold chF
  rw [if_neg (fun h' => h' h), if_pos hs]
theorem chF_dec {xs : List (Int × Nat)} {k : Nat} (h : (bs.length : Int) = e.ln ∧ 4 ≤ bs.length) (hs : numB (tailC bs) = crcS (bodyC bs)) (hd : DecA z (bodyC bs) e.ct xs k) (hk : k ≠ 0) : chF z e bs = .error k := by
  unfold chF
  rw [if_neg (fun h' => h' h), if_neg (fun h' => h' hs), decF_of hd, if_pos hk]
theorem chF_end {xs : List (Int × Nat)} (h : (bs.length : Int) = e.ln ∧ 4 ≤ bs.length) (hs : numB (tailC bs) = crcS (bodyC bs)) (hd : DecA z (bodyC bs) e.ct xs 0) (he : ¬ EndsQ e xs) : chF z e bs = .error 8 := by
  unfold chF
  rw [if_neg (fun h' => h' h), if_neg (fun h' => h' hs), decF_of hd, if_neg (by simp), if_neg he]
theorem chF_ok {xs : List (Int × Nat)} (h : (bs.length : Int) = e.ln ∧ 4 ≤ bs.length) (hs : numB (tailC bs) = crcS (bodyC bs)) (hd : DecA z (bodyC bs) e.ct xs 0) (he : EndsQ e xs) : chF z e bs = .ok xs := by
  unfold chF
  rw [if_neg (fun h' => h' h), if_neg (fun h' => h' hs), decF_of hd, if_neg (by simp), if_pos he]
theorem chF_err {k : Nat} (h : chF z e bs = .error k) : k ≠ 0 ∧ k ≤ 9 := by
  unfold chF at h
  split at h
  · injection h with h; omega
  · split at h
    · injection h with h; omega
    · split at h
      · rename_i hk
        injection h with h
        have := decF_le z e.ct (bodyC bs)
        omega
      · split at h
        · cases h
        · injection h with h; omega
/-- a good chunk's samples: as many as its entry tells, with its first and last time -/
theorem chF_good {xs : List (Int × Nat)} (h : chF z e bs = .ok xs) : (xs.length : Int) = e.ct ∧ 1 ≤ xs.length ∧ xs.length ≤ 65535 ∧ Rises xs ∧ EndsQ e xs := by
  unfold chF at h
  split at h
  · cases h
  · split at h
    · cases h
    · split at h
      · cases h
      · rename_i hk
        split at h
        · rename_i he
          injection h with h
          subst h
          rcases decF_ok (by simpa using hk) with ⟨_, _, h3⟩ | ⟨h1, h2⟩
          · cases h3
          · obtain ⟨g1, g2, _⟩ := decoded_enc h2 (by omega)
            exact ⟨by omega, by omega, by omega, g2, he⟩
        · cases h
end

/-- a decoded list has a sample at least -/
theorem dec_some {z n : Int} {bs : List Nat} {xs : List (Int × Nat)} (h : DecA z bs n xs 0) : (xs.length : Int) = n ∧ 1 ≤ xs.length ∧ xs.length ≤ 65535 := by
  rcases h with ⟨_, _, h⟩ | ⟨h1, h⟩
  · cases h
  · have := (decoded_enc h (by omega)).1
    omega

/-- the samples of chunks, one behind the other, from a place on, behind those that are told: up to the first that isn't good -/
noncomputable def blkF (z : Int) (bs : List Nat) : List Ent → Nat → List (Int × Nat) → List (Int × Nat) × Nat
  | [], _, acc => (acc, 0)
  | e :: r, a, acc =>
    match chF z e ((bs.drop a).take e.ln.toNat) with
    | .error j => (acc, j)
    | .ok ys => blkF z bs r (a + e.ln.toNat) (acc ++ ys)
/-- behind each good chunk: how many samples there are -/
noncomputable def endF (z : Int) (bs : List Nat) : List Ent → Nat → Nat → List Nat
  | [], _, _ => []
  | e :: r, a, m =>
    match chF z e ((bs.drop a).take e.ln.toNat) with
    | .error _ => []
    | .ok ys => (m + ys.length) :: endF z bs r (a + e.ln.toNat) (m + ys.length)
/-- what bytes tell, as a block -/
noncomputable def wholeF (bs : List Nat) : List (Int × Nat) × Nat :=
  match getI bs with
  | .error j => ([], j)
  | .ok (k, es, n) => blkF k bs es n []
noncomputable def wholeN (bs : List Nat) : List Nat :=
  match getI bs with
  | .error _ => []
  | .ok (k, es, n) => endF k bs es n 0
section
variable {z : Int} {bs : List Nat} {es : List Ent} {j a : Nat}
theorem drop_at (h : j < es.length) : es.drop j = es.getD j ent0 :: es.drop (j + 1) := by
  rw [List.drop_eq_getElem_cons h, List.getD_eq_getElem?_getD, List.getElem?_eq_getElem h]
  rfl
theorem blkF_bad {acc : List (Int × Nat)} {k : Nat} (h : j < es.length) (hc : chF z (es.getD j ent0) ((bs.drop a).take (es.getD j ent0).ln.toNat) = .error k) : blkF z bs (es.drop j) a acc = (acc, k) := by
  rw [drop_at h, blkF, hc]
theorem blkF_ok {acc ys : List (Int × Nat)} (h : j < es.length) (hc : chF z (es.getD j ent0) ((bs.drop a).take (es.getD j ent0).ln.toNat) = .ok ys) : blkF z bs (es.drop j) a acc = blkF z bs (es.drop (j + 1)) (a + (es.getD j ent0).ln.toNat) (acc ++ ys) := by
  rw [drop_at h, blkF, hc]
theorem blkF_end {acc : List (Int × Nat)} (h : ¬ j < es.length) : blkF z bs (es.drop j) a acc = (acc, 0) := by
  rw [List.drop_of_length_le (by omega), blkF]
theorem endF_bad {m k : Nat} (h : j < es.length) (hc : chF z (es.getD j ent0) ((bs.drop a).take (es.getD j ent0).ln.toNat) = .error k) : endF z bs (es.drop j) a m = [] := by
  rw [drop_at h, endF, hc]
theorem endF_ok {m : Nat} {ys : List (Int × Nat)} (h : j < es.length) (hc : chF z (es.getD j ent0) ((bs.drop a).take (es.getD j ent0).ln.toNat) = .ok ys) : endF z bs (es.drop j) a m = (m + ys.length) :: endF z bs (es.drop (j + 1)) (a + (es.getD j ent0).ln.toNat) (m + ys.length) := by
  rw [drop_at h, endF, hc]
theorem endF_end {m : Nat} (h : ¬ j < es.length) : endF z bs (es.drop j) a m = [] := by
  rw [List.drop_of_length_le (by omega), endF]
theorem blkF_le : ∀ (es : List Ent) (a : Nat) (acc : List (Int × Nat)), (blkF z bs es a acc).2 ≤ 9
  | [], _, _ => by simp [blkF]
  | e :: r, a, acc => by
    rw [blkF]
    cases h : chF z e ((bs.drop a).take e.ln.toNat) with
    | error k => exact (chF_err h).2
    | ok ys => exact blkF_le r _ _
/-- an index that is got: what it may be, and that it tells of just the bytes behind it -/
theorem getI_ok {k n : Nat} (hb : ∀ x ∈ bs, x < 256) (h : getI bs = .ok (k, es, n)) : May k es ∧ (∀ e ∈ es, FitE e) ∧ n ≤ bs.length ∧ lensN es = bs.length - n := by
  obtain ⟨h1, h2, h3, _⟩ := getI_back hb h
  refine ⟨h1, h2, h3, ?_⟩
  unfold getI at h
  cases hk : getK bs with
  | error e => rw [hk] at h; cases h
  | ok p =>
    rw [hk] at h
    simp only at h
    cases hl : getL bs p.2 with
    | error e => rw [hl] at h; cases h
    | ok q =>
      rw [hl] at h
      simp only at h
      cases hs : getS bs q.2 with
      | error e => rw [hs] at h; cases h
      | ok a2 =>
        rw [hs] at h
        simp only at h
        split at h
        · rename_i hm
          simp only [Except.ok.injEq, Prod.mk.injEq] at h
          obtain ⟨rfl, rfl, rfl⟩ := h
          exact hm.2
        · cases h
theorem lensN_le (es : List Ent) (j : Nat) : lensN (es.take j) ≤ lensN es := by
  have : lensN es = lensN (es.take j) + lensN (es.drop j) := by rw [← lensN_app, List.take_append_drop]
  omega
theorem may_at {k : Int} (h : May k es) (hj : j < es.length) : MayE (es.getD j ent0) := (h.2.2 j hj).1
/-- each chunk has four bytes at least -/
theorem lens_four {k : Int} (h : May k es) : ∀ j, j ≤ es.length → 4 * j ≤ lensN (es.take j)
  | 0, _ => Nat.zero_le _
  | j + 1, hj => by
    have h1 := lens_four h j (by omega)
    rw [lensN_take (by omega)]
    have h2 := may_at h (show j < es.length by omega)
    unfold MayE at h2
    omega
end

/-- four bytes' number tells them -/
theorem numB_same {p q : List Nat} (hl : p.length = q.length) (hp : ∀ x ∈ p, x < 256) (hq : ∀ x ∈ q, x < 256) (h : numB p = numB q) : p = q := by
  rw [← bigB_numB p hp, ← bigB_numB q hq, h, hl]
/-- a byte turned is another sum -/
theorem crcS_byte {a b : List Nat} {x y : Nat} (ha : ∀ u ∈ a, u < 256) (hx : x < 256) (hy : y < 256) (h0 : y ≠ 0) : crcS (a ++ x :: b) ≠ crcS (a ++ (x ^^^ y) :: b) := by
  have hr : crcR 4294967295 a < 4294967296 := crcR_lt a (by omega) ha
  have hxy : x ^^^ y < 256 := Nat.xor_lt_two_pow (n := 8) hx hy
  have h1 := crcR_two [x] [x ^^^ y] (crcR 4294967295 a) (crcR 4294967295 a) rfl
  have l1 : leN [x] = x := by simp [leN]
  have l2 : leN [x ^^^ y] = x ^^^ y := by simp [leN]
  rw [l1, l2, Nat.xor_self, Nat.zero_xor, ← Nat.xor_assoc, Nat.xor_self, Nat.zero_xor] at h1
  have e1 : crcR 4294967295 (a ++ x :: b) = crcR (crcR (crcR 4294967295 a) [x]) b := by
    rw [show a ++ x :: b = a ++ ([x] ++ b) by simp, crcR_app, crcR_app]
  have e2 : crcR 4294967295 (a ++ (x ^^^ y) :: b) = crcR (crcR (crcR 4294967295 a) [x ^^^ y]) b := by
    rw [show a ++ (x ^^^ y) :: b = a ++ ([x ^^^ y] ++ b) by simp, crcR_app, crcR_app]
  intro h
  unfold crcS at h
  have h2 : crcR 4294967295 (a ++ x :: b) = crcR 4294967295 (a ++ (x ^^^ y) :: b) := by
    have := congrArg (fun v => 4294967295 ^^^ v) h
    simpa [← Nat.xor_assoc] using this
  rw [e1, e2] at h2
  have h3 := crcR_two b b (crcR (crcR 4294967295 a) [x]) (crcR (crcR 4294967295 a) [x ^^^ y]) rfl
  rw [h2, Nat.xor_self, Nat.xor_self, Nat.xor_zero, h1] at h3
  have g1 := outN_zero _ (outN_lt _ (by omega)) h3.symm
  exact h0 (outN_zero _ (by omega) g1)

section
variable {k : Nat} {p : List (Int × Nat)}
theorem sum_body (k : Nat) (p : List (Int × Nat)) : bodyC (sumQ k p) = bytQ k p ∧ tailC (sumQ k p) = bigB 4 (crcS (bytQ k p)) := by
  have hl : (sumQ k p).length - 4 = (bytQ k p).length := by rw [sum_len]; omega
  unfold bodyC tailC
  rw [hl]
  unfold sumQ
  exact ⟨List.take_left, List.drop_left⟩
/-- what was packed as a chunk is good -/
theorem ch_good (hk : k = 1 ∨ k = 2) (hx : AllQ p) (hr : Rises p) (h1 : 1 ≤ p.length) (h2 : p.length ≤ 65535) : chF (k : Int) (entQ k p) (sumQ k p) = .ok p := by
  have hd := enc_dec hk hx hr h1 h2
  have hp : pack (encP (k : Int) p 0) = bytQ k p := by
    unfold encP bytQ
    rw [if_pos rfl, Int.toNat_natCast]
  rw [hp] at hd
  obtain ⟨b1, b2⟩ := sum_body k p
  refine chF_ok ⟨rfl, by rw [sum_len]; omega⟩ ?_ (by rw [b1]; exact hd) ⟨rfl, rfl⟩
  rw [b1, b2, numB_bigB 4 _ (by have := crcS_lt (byt_lt k p); omega)]
/-- a byte turned in it is told -/
theorem ch_turned {i y : Nat} (hi : i < (sumQ k p).length) (hy : y < 256) (h0 : y ≠ 0) : chF (k : Int) (entQ k p) ((sumQ k p).set i ((sumQ k p).getD i 0 ^^^ y)) = .error 7 := by
  have hl4 : (bigB 4 (crcS (bytQ k p))).length = 4 := bigB_length 4 _
  have hsl := sum_len k p
  have hset : ((sumQ k p).set i ((sumQ k p).getD i 0 ^^^ y)).length = (sumQ k p).length := List.length_set ..
  refine chF_sum ⟨by rw [hset]; rfl, by rw [hset]; omega⟩ ?_
  have hcut : ∀ l : List Nat, l.length = (sumQ k p).length → bodyC l = l.take (bytQ k p).length ∧ tailC l = l.drop (bytQ k p).length := by
    intro l hl
    unfold bodyC tailC
    rw [hl, hsl, Nat.add_sub_cancel]
    exact ⟨rfl, rfl⟩
  obtain ⟨c1, c2⟩ := hcut _ hset
  rw [c1, c2]
  rcases Nat.lt_or_ge i (bytQ k p).length with h | h
  · -- in the samples' bytes
    have hs : (sumQ k p).set i ((sumQ k p).getD i 0 ^^^ y) = (bytQ k p).set i ((bytQ k p).getD i 0 ^^^ y) ++ bigB 4 (crcS (bytQ k p)) := by
      unfold sumQ
      rw [List.set_append_left _ _ h]
      simp only [List.getD_eq_getElem?_getD, List.getElem?_append_left h]
    have e : (bytQ k p).length = ((bytQ k p).set i ((bytQ k p).getD i 0 ^^^ y)).length := (List.length_set ..).symm
    rw [hs]
    conv => lhs; rw [e]
    conv => rhs; rw [e]
    rw [List.drop_left, List.take_left, numB_bigB 4 _ (by have := crcS_lt (byt_lt k p); omega)]
    have hb := byt_lt k p
    generalize bytQ k p = q at *
    have hq : q = q.take i ++ q.getD i 0 :: q.drop (i + 1) := by
      rw [List.getD_eq_getElem?_getD, List.getElem?_eq_getElem h]
      exact (List.take_append_drop i q).symm.trans (by rw [List.drop_eq_getElem_cons h]; rfl)
    have hq2 : q.set i (q.getD i 0 ^^^ y) = q.take i ++ (q.getD i 0 ^^^ y) :: q.drop (i + 1) := List.set_eq_take_append_cons_drop.trans (if_pos h)
    rw [hq2]
    conv => lhs; rw [hq]
    exact crcS_byte (fun u hu => hb u (List.mem_of_mem_take hu)) (by
      rw [List.getD_eq_getElem?_getD, List.getElem?_eq_getElem h]
      exact hb _ (List.getElem_mem h)) hy h0
  · -- in its sum's
    have hi2 : i - (bytQ k p).length < (bigB 4 (crcS (bytQ k p))).length := by omega
    have hs : (sumQ k p).set i ((sumQ k p).getD i 0 ^^^ y) = bytQ k p ++ (bigB 4 (crcS (bytQ k p))).set (i - (bytQ k p).length) ((bigB 4 (crcS (bytQ k p))).getD (i - (bytQ k p).length) 0 ^^^ y) := by
      unfold sumQ
      rw [List.set_append_right _ _ h]
      simp only [List.getD_eq_getElem?_getD, List.getElem?_append_right h]
    rw [hs, List.drop_left, List.take_left]
    have hc := crcS_lt (byt_lt k p)
    have hbl := bigB_lt 4 (crcS (bytQ k p))
    have hnb := numB_bigB 4 (crcS (bytQ k p)) (by omega)
    generalize bigB 4 (crcS (bytQ k p)) = q at *
    generalize i - (bytQ k p).length = t at *
    intro he
    rw [← hnb] at he
    have hqt : q.getD t 0 < 256 := by
      rw [List.getD_eq_getElem?_getD, List.getElem?_eq_getElem hi2]
      exact hbl _ (List.getElem_mem hi2)
    have hss := numB_same (p := q.set t (q.getD t 0 ^^^ y)) (q := q) (List.length_set ..) (fun u hu => by
      rcases List.mem_or_eq_of_mem_set hu with hu | rfl
      · exact hbl u hu
      · exact Nat.xor_lt_two_pow (n := 8) hqt hy) hbl he
    have hg := congrArg (fun l => l.getD t 0) hss
    simp only [List.getD_eq_getElem?_getD, List.getElem?_set_self hi2, List.getElem?_eq_getElem hi2, Option.getD_some] at hg
    have : q[t] ^^^ (q[t] ^^^ y) = q[t] ^^^ q[t] := by rw [hg]
    rw [← Nat.xor_assoc, Nat.xor_self, Nat.zero_xor] at this
    exact h0 this
end

/-- a place in pieces, one behind the other: in which it lies -/
theorem piece_at {α : Type} (f : α → List Nat) : ∀ (qs : List α) (i : Nat), i < ((qs.map f).flatten).length →
    ∃ q1 p q2 t, qs = q1 ++ p :: q2 ∧ t < (f p).length ∧ ((qs.map f).flatten).getD i 0 = (f p).getD t 0 ∧ ∀ v, ((qs.map f).flatten).set i v = (q1.map f).flatten ++ ((f p).set t v ++ (q2.map f).flatten)
  | [], i, h => absurd h (by simp)
  | p :: r, i, h => by
    simp only [List.map_cons, List.flatten_cons] at h ⊢
    rcases Nat.lt_or_ge i (f p).length with hi | hi
    · exact ⟨[], p, r, i, rfl, hi, by simp only [List.getD_eq_getElem?_getD, List.getElem?_append_left hi], fun v => by rw [List.set_append_left _ _ hi]; rfl⟩
    · obtain ⟨q1, p2, q2, t, h1, h2, h3, h4⟩ := piece_at f r (i - (f p).length) (by rw [List.length_append] at h; omega)
      refine ⟨p :: q1, p2, q2, t, by rw [h1]; rfl, h2, ?_, fun v => ?_⟩
      · rw [← h3]
        simp only [List.getD_eq_getElem?_getD, List.getElem?_append_right hi]
      · rw [List.set_append_right _ _ hi, h4 v]
        simp only [List.map_cons, List.flatten_cons, List.append_assoc]

section
variable {k : Nat}
/-- good chunks, one behind the other -/
theorem blk_good {bs : List Nat} : ∀ (qs : List (List (Int × Nat))) (es : List Ent) (a : Nat) (acc : List (Int × Nat)) (rest : List Nat), (∀ p ∈ qs, chF (k : Int) (entQ k p) (sumQ k p) = .ok p) → bs.drop a = (qs.map (sumQ k)).flatten ++ rest →
    blkF (k : Int) bs (qs.map (entQ k) ++ es) a acc = blkF (k : Int) bs es (a + ((qs.map (sumQ k)).flatten).length) (acc ++ qs.flatten)
  | [], es, a, acc, rest, _, _ => by simp
  | p :: r, es, a, acc, rest, h, hd => by
    simp only [List.map_cons, List.flatten_cons, List.append_assoc, List.cons_append] at hd ⊢
    have hn : (entQ k p).ln.toNat = (sumQ k p).length := by simp [entQ]
    rw [blkF, hn, hd, List.take_left, h p (by simp)]
    have := blk_good r es (a + (sumQ k p).length) (acc ++ p) rest (fun q hq => h q (by simp [hq])) (by rw [← List.drop_drop, hd, List.drop_left])
    simp only [this, List.length_append, List.append_assoc, Nat.add_assoc]

variable {s : Nat} {xs : List (Int × Nat)}
/-- the parts that a block is made of -/
def partsQ (s : Nat) (xs : List (Int × Nat)) : List (List (Int × Nat)) := (List.range (manyQ s xs)).map (partQ s xs)
theorem ents_parts : entsTo k s xs (manyQ s xs) = (partsQ s xs).map (entQ k) := by
  unfold entsTo partsQ
  rw [List.map_map]
  rfl
theorem body_parts : bodyTo k s xs (manyQ s xs) = ((partsQ s xs).map (sumQ k)).flatten := by
  unfold bodyTo partsQ
  rw [List.map_map]
  rfl
theorem parts_flat (hs : 1 ≤ s) : (partsQ s xs).flatten = xs := parts_all hs
theorem parts_good (hk : k = 1 ∨ k = 2) (hx : AllQ xs) (hr : Rises xs) (hl : xs.length ≤ 5000) (hs : 1 ≤ s) : ∀ p ∈ partsQ s xs, 1 ≤ p.length ∧ chF (k : Int) (entQ k p) (sumQ k p) = .ok p := by
  intro p hp
  obtain ⟨j, hj, rfl⟩ := List.mem_map.1 hp
  have h1 := part_pos hs (List.mem_range.1 hj)
  have h2 := part_small (s := s) hl j
  exact ⟨h1, ch_good hk (part_all hx j) (part_rises hr j) h1 (by omega)⟩
theorem lens_body (qs : List (List (Int × Nat))) : lensN (qs.map (entQ k)) = ((qs.map (sumQ k)).flatten).length := by
  induction qs with
  | nil => rfl
  | cons p r ih =>
    simp only [lensN, List.map_cons, List.sum_cons, List.flatten_cons, List.length_append] at ih ⊢
    rw [ih]
    simp [entQ]
/-- a block whose index is as it was packed is told chunk by chunk -/
theorem whole_is (hk : k = 1 ∨ k = 2) (hx : AllQ xs) (hr : Rises xs) (hl : xs.length ≤ 5000) (hs : 1 ≤ s) (hs2 : s ≤ 65535) {rest : List Nat} (hrest : rest.length = (bodyTo k s xs (manyQ s xs)).length) :
    getI (idxB k (entsTo k s xs (manyQ s xs)) ++ rest) = .ok (k, entsTo k s xs (manyQ s xs), (idxB k (entsTo k s xs (manyQ s xs))).length) := by
  rw [getI_put hk (block_may hk hx hr hl hs hs2) (ents_fit hx hl _), if_pos]
  rw [ents_parts, lens_body, hrest, body_parts]
theorem whole_back (hk : k = 1 ∨ k = 2) (hx : AllQ xs) (hr : Rises xs) (hl : xs.length ≤ 5000) (hs : 1 ≤ s) (hs2 : s ≤ 65535) : wholeF (blockB k s xs) = (xs, 0) := by
  unfold wholeF blockB
  rw [whole_is hk hx hr hl hs hs2 rfl]
  simp only
  have h := blk_good (k := k) (bs := idxB k (entsTo k s xs (manyQ s xs)) ++ bodyTo k s xs (manyQ s xs)) (partsQ s xs) [] (idxB k (entsTo k s xs (manyQ s xs))).length [] [] (fun p hp => (parts_good hk hx hr hl hs p hp).2) (by rw [List.drop_left, body_parts, List.append_nil])
  rw [List.append_nil, ← ents_parts] at h
  rw [h, blkF, List.nil_append, parts_flat hs]
/-- a byte turned behind the index: the parts ahead of it, and that a sum is another one -/
theorem whole_turned (hk : k = 1 ∨ k = 2) (hx : AllQ xs) (hr : Rises xs) (hl : xs.length ≤ 5000) (hs : 1 ≤ s) (hs2 : s ≤ 65535) {i y : Nat} (hi : i < (bodyTo k s xs (manyQ s xs)).length) (hy : y < 256) (h0 : y ≠ 0) :
    ∃ m, m < xs.length ∧ wholeF ((blockB k s xs).set ((idxB k (entsTo k s xs (manyQ s xs))).length + i) ((blockB k s xs).getD ((idxB k (entsTo k s xs (manyQ s xs))).length + i) 0 ^^^ y)) = (xs.take m, 7) := by
  rw [body_parts] at hi
  obtain ⟨q1, p, q2, t, h1, h2, h3, h4⟩ := piece_at (sumQ k) (partsQ s xs) i hi
  have hgood := parts_good hk hx hr hl hs
  have hflat := parts_flat (xs := xs) hs
  rw [h1] at hgood
  have hset : (blockB k s xs).set ((idxB k (entsTo k s xs (manyQ s xs))).length + i) ((blockB k s xs).getD ((idxB k (entsTo k s xs (manyQ s xs))).length + i) 0 ^^^ y) =
      idxB k (entsTo k s xs (manyQ s xs)) ++ ((q1.map (sumQ k)).flatten ++ ((sumQ k p).set t ((sumQ k p).getD t 0 ^^^ y) ++ (q2.map (sumQ k)).flatten)) := by
    have e1 : (blockB k s xs).getD ((idxB k (entsTo k s xs (manyQ s xs))).length + i) 0 = (sumQ k p).getD t 0 := by
      unfold blockB
      rw [← h3, body_parts]
      simp only [List.getD_eq_getElem?_getD]
      rw [List.getElem?_append_right (by omega), Nat.add_sub_cancel_left]
    rw [e1]
    unfold blockB
    rw [List.set_append_right _ _ (by omega), Nat.add_sub_cancel_left, body_parts, h4]
  have hbl : ((q1.map (sumQ k)).flatten ++ ((sumQ k p).set t ((sumQ k p).getD t 0 ^^^ y) ++ (q2.map (sumQ k)).flatten)).length = (bodyTo k s xs (manyQ s xs)).length := by
    rw [← h4, List.length_set, body_parts]
  refine ⟨q1.flatten.length, ?_, ?_⟩
  · have := congrArg List.length hflat
    rw [h1] at this
    simp only [List.flatten_append, List.flatten_cons, List.length_append] at this
    have := (hgood p (by simp)).1
    omega
  · rw [hset]
    unfold wholeF
    rw [whole_is hk hx hr hl hs hs2 hbl]
    simp only
    have hes : entsTo k s xs (manyQ s xs) = q1.map (entQ k) ++ (entQ k p :: q2.map (entQ k)) := by
      rw [ents_parts, h1, List.map_append, List.map_cons]
    generalize idxB k (entsTo k s xs (manyQ s xs)) = ib
    rw [hes]
    rw [blk_good q1 _ ib.length [] ((sumQ k p).set t ((sumQ k p).getD t 0 ^^^ y) ++ (q2.map (sumQ k)).flatten) (fun p hp => (hgood p (by simp [hp])).2) (by rw [List.drop_left])]
    have hn : (entQ k p).ln.toNat = ((sumQ k p).set t ((sumQ k p).getD t 0 ^^^ y)).length := by simp [entQ]
    rw [blkF, hn, ← List.drop_drop, List.drop_left, List.drop_left, List.take_left, ch_turned h2 hy h0, List.nil_append]
    simp only
    have : xs.take q1.flatten.length = q1.flatten := by
      conv => lhs; rw [← hflat, h1, List.flatten_append]
      rw [List.take_left]
    rw [this]

/-- a small block has few bytes -/
theorem body_small (hx : AllQ xs) (hs : 1 ≤ s) : ∀ j, j ≤ manyQ s xs → (bodyTo k s xs j).length ≤ 24 * min (j * s) xs.length
  | 0, _ => by simp [bodyTo]
  | j + 1, hj => by
    have ih := body_small hx hs j (by omega)
    have h1 := part_pos hs (show j < manyQ s xs by omega)
    have h2 := part_len (s := s) (xs := xs) j
    have h3 := byt_len (k := k) (part_all (s := s) hx j)
    have h4 := (lt_many (xs := xs) hs j).1 (by omega)
    have h5 : (j + 1) * s = j * s + s := by rw [Nat.add_mul, Nat.one_mul]
    rw [body_succ, List.length_append, sum_len]
    omega
theorem block_small (hx : AllQ xs) (hl : xs.length ≤ 100) (hs : 1 ≤ s) : (blockB k s xs).length ≤ 7000 := by
  have h1 := body_small (k := k) hx hs (manyQ s xs) (Nat.le_refl _)
  have h2 := headB_len k (entsTo k s xs (manyQ s xs)) (by rw [ents_len]; have := many_le (xs := xs) hs; omega)
  have h3 := many_le (xs := xs) hs
  rw [ents_len] at h2
  unfold blockB idxB
  rw [List.length_append, List.length_append, bigB_length]
  omega
end

end Go.Proofs.YtaebljoacffghaaGreatDoor

/-
  Plain facts (no program): a chunk's and a block's samples are no more than eight for each byte.
-/
namespace Go.Proofs.YtaebljoacffghaaGreatDoor

/-- what a chunk tells, as samples and an error's number -/
def chRes : Except Nat (List (Int × Nat)) → List (Int × Nat) × Nat
  | .ok xs => (xs, 0)
  | .error j => ([], j)
theorem allQ_of {xs : List (Int × Nat)} (h : ∀ x ∈ xs, (-9223372036854775808 ≤ x.1 ∧ x.1 ≤ 9223372036854775807) ∧ x.2 ≤ 18446744073709551615) : AllQ xs := by
  intro j
  rcases Nat.lt_or_ge j xs.length with hj | hj
  · rw [List.getD_eq_getElem?_getD, List.getElem?_eq_getElem hj]
    exact h _ (List.getElem_mem hj)
  · rw [List.getD_eq_getElem?_getD, List.getElem?_eq_none hj]
    exact ⟨by simp, by simp⟩
theorem chF_few {z : Int} {e : Ent} {bs : List Nat} {xs : List (Int × Nat)} (h : chF z e bs = .ok xs) : xs.length ≤ 8 * bs.length := by
  unfold chF at h
  split at h
  · cases h
  · split at h
    · cases h
    · split at h
      · cases h
      · rename_i hk
        split at h
        · injection h with h
          subst h
          rcases decF_ok (by simpa using hk) with ⟨_, _, h3⟩ | ⟨h1, h2⟩
          · cases h3
          · obtain ⟨g1, _, k, _, _, t, g5, _⟩ := decoded_enc h2 (by omega)
            have hall := allQ_of (Dec.le zeroK_may h2).2.2
            have g6 := cdK_ge (k := k) hall e.ct.toNat
            have g7 := congrArg List.length g5
            rw [flat_length, List.length_append] at g7
            have g8 : (bodyC bs).length ≤ bs.length := by unfold bodyC; rw [List.length_take]; omega
            omega
        · cases h
theorem chRes_few {z : Int} {e : Ent} {bs : List Nat} : (chRes (chF z e bs)).1.length ≤ 8 * bs.length ∧ (chRes (chF z e bs)).2 ≤ 9 := by
  cases h : chF z e bs with
  | error j => exact ⟨by simp [chRes], (chF_err h).2⟩
  | ok xs => exact ⟨chF_few h, by simp [chRes]⟩
theorem blkF_few {z : Int} {bs : List Nat} : ∀ (es : List Ent) (a : Nat) (acc : List (Int × Nat)), (blkF z bs es a acc).1.length ≤ acc.length + 8 * lensN es
  | [], a, acc => by simp [blkF]
  | e :: r, a, acc => by
    have hl : lensN (e :: r) = e.ln.toNat + lensN r := by simp [lensN]
    rw [blkF]
    cases h : chF z e ((bs.drop a).take e.ln.toNat) with
    | error k => simp only; omega
    | ok ys =>
      have h1 := blkF_few (z := z) (bs := bs) r (a + e.ln.toNat) (acc ++ ys)
      have h2 := chF_few h
      rw [List.length_take] at h2
      rw [List.length_append] at h1
      simp only
      omega
theorem wholeF_few {bs : List Nat} (hb : ∀ x ∈ bs, x < 256) : (wholeF bs).1.length ≤ 8 * bs.length := by
  unfold wholeF
  cases h : getI bs with
  | error j => simp
  | ok p =>
    obtain ⟨k, es, n⟩ := p
    obtain ⟨_, _, h3, h4⟩ := getI_ok hb h
    have := blkF_few (z := (k : Int)) (bs := bs) es n []
    simp only [List.length_nil] at this ⊢
    omega
theorem getI_void : getI [] = .error 5 := by simp [getI, getK]
theorem wholeF_void : wholeF [] = ([], 5) := by unfold wholeF; rw [getI_void]
theorem chF_void (z m x k l : Int) : chF z ⟨m, x, k, l⟩ [] = .error 1 := chF_arg (fun h => by have := h.2; simp at this)

end Go.Proofs.YtaebljoacffghaaGreatDoor
