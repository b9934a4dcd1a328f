/-
  Plain facts (no program): a block: an index, and of each chunk its samples' bytes and their sum; by sizes that are as many as there are samples, or more, it is the same; unlike samples have unlike blocks.
-/
import Derived.Test.YtkjkdiijlgoagaaGreatDoorIdxP
import Derived.Test.YtkjkdiijlgoagaaGreatDoorPlain
namespace Go.Proofs.YtkjkdiijlgoagaaGreatDoor

/-- the samples of chunk j, s of them a chunk -/
def partQ (s : Nat) (xs : List (Int × Nat)) (j : Nat) : List (Int × Nat) := (xs.drop (j * s)).take s
/-- how many chunks there are -/
def manyQ (s : Nat) (xs : List (Int × Nat)) : Nat := (xs.length + s - 1) / s
/-- a chunk's bytes; with their sum behind them -/
def bytQ (k : Nat) (p : List (Int × Nat)) : List Nat := pack (cdK k p p.length)
def sumQ (k : Nat) (p : List (Int × Nat)) : List Nat := bytQ k p ++ bigB 4 (crcS (bytQ k p))
/-- a chunk's entry -/
def entQ (k : Nat) (p : List (Int × Nat)) : Ent := ⟨(p.getD 0 (0, 0)).1, (p.getD (p.length - 1) (0, 0)).1, (p.length : Int), ((sumQ k p).length : Int)⟩
/-- the first j chunks' entries, and their bytes -/
def entsTo (k s : Nat) (xs : List (Int × Nat)) (j : Nat) : List Ent := (List.range j).map fun i => entQ k (partQ s xs i)
def bodyTo (k s : Nat) (xs : List (Int × Nat)) (j : Nat) : List Nat := ((List.range j).map fun i => sumQ k (partQ s xs i)).flatten
/-- a block -/
def blockB (k s : Nat) (xs : List (Int × Nat)) : List Nat := idxB k (entsTo k s xs (manyQ s xs)) ++ bodyTo k s xs (manyQ s xs)

section
variable {k s : Nat} {xs ys : List (Int × Nat)}
theorem lt_many (hs : 1 ≤ s) (j : Nat) : j < manyQ s xs ↔ j * s < xs.length := by
  unfold manyQ
  rw [Nat.lt_iff_add_one_le, Nat.le_div_iff_mul_le hs, Nat.add_mul]
  omega
theorem many_le (hs : 1 ≤ s) : manyQ s xs ≤ xs.length := by
  rcases Nat.lt_or_ge xs.length (manyQ s xs) with h | h
  · have h1 := (lt_many hs xs.length).1 h
    have : xs.length * 1 ≤ xs.length * s := Nat.mul_le_mul (Nat.le_refl _) hs
    omega
  · exact h
theorem many_over (hs : 1 ≤ s) : xs.length ≤ manyQ s xs * s := by
  rcases Nat.lt_or_ge (manyQ s xs * s) xs.length with h | h
  · exact absurd ((lt_many hs _).2 h) (by omega)
  · exact h
theorem part_len (j : Nat) : (partQ s xs j).length = min s (xs.length - j * s) := by
  unfold partQ
  rw [List.length_take, List.length_drop]
theorem part_pos (hs : 1 ≤ s) {j : Nat} (hj : j < manyQ s xs) : 1 ≤ (partQ s xs j).length := by
  have := (lt_many hs j).1 hj
  rw [part_len]
  omega
theorem part_getD {j i : Nat} (hi : i < (partQ s xs j).length) : (partQ s xs j).getD i (0, 0) = xs.getD (j * s + i) (0, 0) := by
  rw [part_len] at hi
  unfold partQ
  simp only [List.getD_eq_getElem?_getD]
  rw [List.getElem?_take_of_lt (by omega), List.getElem?_drop]
theorem part_rises (h : Rises xs) (j : Nat) : Rises (partQ s xs j) := by
  intro i hi
  rw [part_getD (by omega), part_getD (by omega)]
  have hl := part_len (s := s) (xs := xs) j
  have := h (j * s + i) (by omega)
  rwa [Nat.add_assoc] at this
theorem part_all (h : AllQ xs) (j : Nat) : AllQ (partQ s xs j) := by
  intro i
  rcases Nat.lt_or_ge i (partQ s xs j).length with hi | hi
  · rw [part_getD hi]; exact h _
  · rw [List.getD_eq_getElem?_getD, List.getElem?_eq_none hi]
    exact ⟨by simp, by simp⟩
theorem rises_le (h : Rises xs) {i j : Nat} (hij : i ≤ j) (hj : j < xs.length) : (xs.getD i (0, 0)).1 ≤ (xs.getD j (0, 0)).1 := by
  induction j with
  | zero => obtain rfl : i = 0 := by omega
            exact Int.le_refl _
  | succ j ih =>
    by_cases e : i = j + 1
    · rw [e]; exact Int.le_refl _
    · have h1 := ih (by omega) (by omega)
      have h2 := h j hj
      omega

theorem byt_len (hx : AllQ xs) : (bytQ k xs).length ≤ (146 * xs.length + 7) / 8 := by
  unfold bytQ
  rw [pack_length]
  have := cdK_le (k := k) hx xs.length
  omega
theorem byt_lt (k : Nat) (xs : List (Int × Nat)) : ∀ x ∈ bytQ k xs, x < 256 := pack_lt _
theorem sum_len (k : Nat) (xs : List (Int × Nat)) : (sumQ k xs).length = (bytQ k xs).length + 4 := by
  unfold sumQ
  rw [List.length_append, bigB_length]
theorem part_small (hl : xs.length ≤ 5000) (j : Nat) : (partQ s xs j).length ≤ 5000 := by
  rw [part_len]; omega
theorem part_sum_len (hx : AllQ xs) (hl : xs.length ≤ 5000) (j : Nat) : (sumQ k (partQ s xs j)).length ≤ 100000 := by
  have h1 := byt_len (k := k) (part_all (s := s) hx j)
  have h2 := part_small (s := s) hl j
  rw [sum_len]
  omega
theorem ents_len (j : Nat) : (entsTo k s xs j).length = j := by simp [entsTo]
theorem ents_succ (j : Nat) : entsTo k s xs (j + 1) = entsTo k s xs j ++ [entQ k (partQ s xs j)] := by
  unfold entsTo
  rw [List.range_succ, List.map_append]
  rfl
theorem body_succ (j : Nat) : bodyTo k s xs (j + 1) = bodyTo k s xs j ++ sumQ k (partQ s xs j) := by
  unfold bodyTo
  rw [List.range_succ, List.map_append, List.flatten_append]
  simp
theorem body_len (hx : AllQ xs) (hl : xs.length ≤ 5000) (j : Nat) : (bodyTo k s xs j).length ≤ 100000 * j := by
  induction j with
  | zero => simp [bodyTo]
  | succ j ih =>
    rw [body_succ, List.length_append]
    have := part_sum_len (k := k) (s := s) hx hl j
    omega
theorem ents_at {j i : Nat} (hi : i < j) : (entsTo k s xs j).getD i ent0 = entQ k (partQ s xs i) := by
  rw [List.getD_eq_getElem?_getD, List.getElem?_eq_getElem (by rw [ents_len]; exact hi)]
  simp [entsTo]
theorem ent_fit (hx : AllQ xs) (hl : xs.length ≤ 5000) (j : Nat) : FitE (entQ k (partQ s xs j)) := by
  have h1 := part_all (s := s) hx j
  have h2 := part_small (s := s) hl j
  have h3 := part_sum_len (k := k) (s := s) hx hl j
  exact ⟨(h1 0).1, (h1 _).1, by show (_ : Int) ≤ ((partQ s xs j).length : Int) ∧ _; simp only [entQ]; omega, by simp only [entQ]; omega⟩
theorem ents_fit (hx : AllQ xs) (hl : xs.length ≤ 5000) (j : Nat) : ∀ e ∈ entsTo k s xs j, FitE e := by
  intro e he
  obtain ⟨i, _, rfl⟩ := List.mem_map.1 he
  exact ent_fit hx hl i
/-- the index of a block may be -/
theorem block_may (hk : k = 1 ∨ k = 2) (hx : AllQ xs) (hr : Rises xs) (hl : xs.length ≤ 5000) (hs : 1 ≤ s) (hs2 : s ≤ 65535) : May (k : Int) (entsTo k s xs (manyQ s xs)) := by
  have hm := many_le (xs := xs) hs
  refine ⟨by omega, by rw [ents_len]; omega, fun j hj => ?_⟩
  rw [ents_len] at hj
  have hp := part_pos hs hj
  have hpl := part_len (s := s) (xs := xs) j
  have hjl := (lt_many hs j).1 hj
  have h3 := part_sum_len (k := k) (s := s) hx hl j
  have h4 := sum_len k (partQ s xs j)
  rw [ents_at hj]
  refine ⟨⟨by simp only [entQ]; omega, by simp only [entQ]; omega, ?_⟩, fun h0 => ?_⟩
  · simp only [entQ]
    rw [part_getD (by omega), part_getD (by omega)]
    exact rises_le hr (by omega) (by omega)
  · rw [ents_at (by omega)]
    simp only [entQ]
    have hp2 := part_pos hs (j := j - 1) (xs := xs) (by omega)
    have hpl2 := part_len (s := s) (xs := xs) (j - 1)
    obtain ⟨i, rfl⟩ : ∃ i, j = i + 1 := ⟨j - 1, by omega⟩
    simp only [Nat.add_sub_cancel] at *
    have e : (i + 1) * s = i * s + s := by rw [Nat.add_mul]; omega
    have hpl3 : (partQ s xs i).length = s := by omega
    rw [part_getD (by omega), part_getD (by omega), hpl3]
    have h5 := hr (i * s + (s - 1)) (by omega)
    have e2 : i * s + (s - 1) + 1 = (i + 1) * s + 0 := by omega
    rwa [e2] at h5

/-- a number's bytes tell it, whatever stands behind them -/
theorem uv_same {v v' : Nat} (hv : v ≤ 18446744073709551615) (hv' : v' ≤ 18446744073709551615) {p q : List Nat} (h : uvB v ++ p = uvB v' ++ q) : v = v' ∧ p = q := by
  have h1 := gets_put v p hv
  have h2 := gets_put v' q hv'
  rw [h] at h1
  obtain ⟨rfl, _, _⟩ := h1.same h2
  exact ⟨rfl, List.append_cancel_left h⟩
theorem big_same {n v v' : Nat} (hv : v < 256 ^ n) (hv' : v' < 256 ^ n) {p q : List Nat} (h : bigB n v ++ p = bigB n v' ++ q) : v = v' ∧ p = q := by
  obtain ⟨h1, h2⟩ := List.append_inj h (by rw [bigB_length, bigB_length])
  have := congrArg numB h1
  rw [numB_bigB n v hv, numB_bigB n v' hv'] at this
  exact ⟨this, h2⟩
theorem u64n_same {x y : Int} (hx : -9223372036854775808 ≤ x ∧ x ≤ 9223372036854775807) (hy : -9223372036854775808 ≤ y ∧ y ≤ 9223372036854775807) (h : u64n x = u64n y) : x = y := by
  rw [← s64n_u64n hx, ← s64n_u64n hy, h]
/-- so do an entry's bytes -/
theorem ent_same {e e' : Ent} (hf : FitE e) (hf' : FitE e') {p q : List Nat} (h : entB e ++ p = entB e' ++ q) : e = e' ∧ p = q := by
  obtain ⟨m, x, c, l⟩ := e
  obtain ⟨m', x', c', l'⟩ := e'
  obtain ⟨a1, a2, a3, a4⟩ := hf
  obtain ⟨b1, b2, b3, b4⟩ := hf'
  simp only at a1 a2 a3 a4 b1 b2 b3 b4
  simp only [entB, List.append_assoc] at h
  obtain ⟨h1, g1⟩ := big_same (by have := u64n_le m; omega) (by have := u64n_le m'; omega) h
  obtain ⟨h2, g2⟩ := uv_same (u64n_le _) (u64n_le _) g1
  obtain ⟨h3, g3⟩ := uv_same (u64n_le _) (u64n_le _) g2
  obtain ⟨h4, g4⟩ := uv_same (u64n_le _) (u64n_le _) g3
  clear h g1 g2 g3
  obtain rfl := u64n_same a1 b1 h1
  obtain rfl := u64n_same a3 b3 h3
  obtain rfl := u64n_same a4 b4 h4
  have : x = x' := by unfold u64n at h2; omega
  exact ⟨by rw [this], g4⟩
theorem entries_same : ∀ {es es' : List Ent} {p q : List Nat}, (∀ e ∈ es, FitE e) → (∀ e ∈ es', FitE e) → es.length = es'.length → entsB es ++ p = entsB es' ++ q → es = es' ∧ p = q
  | [], [], p, q, _, _, _, h => ⟨rfl, by simpa [entsB] using h⟩
  | [], _ :: _, _, _, _, _, h, _ => by simp at h
  | _ :: _, [], _, _, _, _, h, _ => by simp at h
  | e :: es, e' :: es', p, q, hf, hf', hl, h => by
    rw [entsB_cons, entsB_cons, List.append_assoc, List.append_assoc] at h
    obtain ⟨h1, h2⟩ := ent_same (hf e (by simp)) (hf' e' (by simp)) h
    obtain ⟨h3, h4⟩ := entries_same (fun x hx => hf x (by simp [hx])) (fun x hx => hf' x (by simp [hx])) (by simpa using hl) h2
    exact ⟨by rw [h1, h3], h4⟩
/-- so do an index's -/
theorem index_same {es es' : List Ent} (hf : ∀ e ∈ es, FitE e) (hf' : ∀ e ∈ es', FitE e) (hl : es.length ≤ 65535) (hl' : es'.length ≤ 65535) {p q : List Nat} (h : idxB k es ++ p = idxB k es' ++ q) : es = es' ∧ p = q := by
  simp only [idxB, headB, List.append_assoc] at h
  have h1 := List.append_cancel_left h
  obtain ⟨h2, h3⟩ := uv_same (by omega) (by omega) h1
  obtain ⟨rfl, _⟩ := entries_same hf hf' h2 h3
  simp only [← List.append_assoc] at h
  exact ⟨rfl, List.append_cancel_left h⟩

theorem pieces_same (f g : Nat → List Nat) : ∀ n, (∀ i, i < n → (f i).length = (g i).length) → ((List.range n).map f).flatten = ((List.range n).map g).flatten → ∀ i, i < n → f i = g i
  | 0, _, _, i, h => absurd h (by omega)
  | n + 1, hl, h, i, hi => by
    simp only [List.range_succ, List.map_append, List.flatten_append, List.map_cons, List.map_nil, List.flatten_cons, List.flatten_nil, List.append_nil] at h
    obtain ⟨h1, h2⟩ := List.append_inj' h (hl n (by omega))
    by_cases e : i = n
    · rw [e]; exact h2
    · exact pieces_same f g n (fun j hj => hl j (by omega)) h1 i (by omega)
theorem parts_all (hs : 1 ≤ s) : ((List.range (manyQ s xs)).map (partQ s xs)).flatten = xs := by
  have key : ∀ j, ((List.range j).map (partQ s xs)).flatten = xs.take (j * s) := by
    intro j
    induction j with
    | zero => simp
    | succ j ih =>
      rw [List.range_succ, List.map_append, List.flatten_append, ih, Nat.add_mul, Nat.one_mul, List.take_add]
      simp [partQ]
  rw [key, List.take_of_length_le (many_over hs)]
/-- unlike samples have unlike blocks -/
theorem block_same (hx : AllQ xs) (hy : AllQ ys) (rx : Rises xs) (ry : Rises ys) (lx : xs.length ≤ 5000) (ly : ys.length ≤ 5000) (hs : 1 ≤ s) (h : blockB k s xs = blockB k s ys) : xs = ys := by
  have mx := many_le (xs := xs) hs
  have my := many_le (xs := ys) hs
  obtain ⟨h1, h2⟩ := index_same (ents_fit hx lx _) (ents_fit hy ly _) (by rw [ents_len]; omega) (by rw [ents_len]; omega) h
  have hN : manyQ s xs = manyQ s ys := by
    have := congrArg List.length h1
    rwa [ents_len, ents_len] at this
  rw [← hN] at h1 h2
  have he : ∀ i, i < manyQ s xs → entQ k (partQ s xs i) = entQ k (partQ s ys i) := by
    intro i hi
    rw [← ents_at (k := k) (s := s) (xs := xs) hi, h1, ents_at hi]
  have hb := pieces_same _ _ _ (fun i hi => by
    have := congrArg Ent.ln (he i hi)
    simp only [entQ] at this
    omega) h2
  have hp : ∀ i, i < manyQ s xs → partQ s xs i = partQ s ys i := by
    intro i hi
    have hc := congrArg Ent.ct (he i hi)
    have hn := congrArg Ent.ln (he i hi)
    simp only [entQ] at hc hn
    have hi2 := hb i hi
    simp only [sumQ] at hi2
    obtain ⟨hi3, _⟩ := List.append_inj' hi2 (by rw [bigB_length, bigB_length])
    unfold bytQ at hi3
    have hc2 : (partQ s ys i).length = (partQ s xs i).length := by omega
    rw [hc2] at hi3
    exact chunk_same (part_all hx i) (part_all hy i) (part_rises rx i) (part_rises ry i) rfl hc2 hi3
  rw [← parts_all (xs := xs) hs, ← parts_all (xs := ys) hs, ← hN]
  congr 1
  apply List.map_congr_left
  intro i hi
  exact hp i (List.mem_range.1 hi)
/-- by sizes that are as many as there are samples, or more, a block is the same -/
theorem many_big (hs : 1 ≤ s) (h : xs.length ≤ s) : manyQ s xs = if xs.length = 0 then 0 else 1 := by
  have h0 := lt_many (xs := xs) hs 0
  have h1 := lt_many (xs := xs) hs 1
  split <;> omega
theorem part_big (h : xs.length ≤ s) : partQ s xs 0 = xs := by
  unfold partQ
  rw [Nat.zero_mul, List.drop_zero, List.take_of_length_le h]
theorem block_big {s' : Nat} (hs : 1 ≤ s) (h : xs.length ≤ s) (hs' : 1 ≤ s') (h' : xs.length ≤ s') : blockB k s xs = blockB k s' xs := by
  unfold blockB
  rw [many_big hs h, many_big hs' h']
  split
  · simp only [entsTo, bodyTo, List.range_zero, List.map_nil]
  · simp only [entsTo, bodyTo, List.range_one, List.map_cons, List.map_nil, part_big h, part_big h']
/-- by lesser ones it is another one -/
theorem block_less {s' : Nat} (hx : AllQ xs) (lx : xs.length ≤ 5000) (hs : 1 ≤ s) (h : s < xs.length) (hs' : 1 ≤ s') (h' : xs.length ≤ s') : blockB k s xs ≠ blockB k s' xs := by
  intro he
  have mx := many_le (xs := xs) hs
  have mx' := many_le (xs := xs) hs'
  obtain ⟨h1, _⟩ := index_same (ents_fit hx lx _) (ents_fit hx lx _) (by rw [ents_len]; omega) (by rw [ents_len]; omega) he
  have hN := congrArg List.length h1
  rw [ents_len, ents_len, many_big hs' h', if_neg (by omega)] at hN
  have := (lt_many (xs := xs) hs 1).2 (by omega)
  omega
theorem block_len (hx : AllQ xs) (hl : xs.length ≤ 5000) (hs : 1 ≤ s) : (blockB k s xs).length ≤ 700000000 := by
  have h1 := body_len (k := k) (s := s) hx hl (manyQ s xs)
  have h2 := headB_len k (entsTo k s xs (manyQ s xs)) (by rw [ents_len]; have := many_le (xs := xs) hs; omega)
  have h3 := many_le (xs := xs) hs
  rw [ents_len] at h2
  unfold blockB idxB
  rw [List.length_append, List.length_append, bigB_length]
  omega
theorem block_lt (hk : k < 256) : ∀ x ∈ blockB k s xs, x < 256 := by
  intro x hx
  rcases List.mem_append.1 hx with h | h
  · rcases List.mem_append.1 h with h | h
    · exact headB_lt hk _ x h
    · exact bigB_lt _ _ x h
  · simp only [bodyTo, List.mem_flatten, List.mem_map] at h
    obtain ⟨l, ⟨i, _, rfl⟩, h⟩ := h
    rcases List.mem_append.1 h with h | h
    · exact pack_lt _ x h
    · exact bigB_lt _ _ x h
end

/-- what is amiss with samples that are to be a block (e of 0: nothing) -/
def PackE (z s : Int) (xs : List (Int × Nat)) (e : Nat) : Prop :=
  (¬ (1 ≤ s ∧ s ≤ 65535) ∧ e = 1) ∨ ((1 ≤ s ∧ s ≤ 65535) ∧ (((z ≠ 1 ∧ z ≠ 2) ∧ e = 6) ∨ ∃ k : Nat, z = (k : Int) ∧ (k = 1 ∨ k = 2) ∧ ((¬ Rises xs ∧ e = 4) ∨ (Rises xs ∧ e = 0))))
section
variable {z s : Int} {xs : List (Int × Nat)} {e e' : Nat}
theorem PackE.same (h : PackE z s xs e) (h' : PackE z s xs e') : e = e' := by
  rcases h with ⟨h0, rfl⟩ | ⟨h0, h⟩
  · rcases h' with ⟨_, rfl⟩ | ⟨h0', _⟩
    · rfl
    · exact absurd h0' h0
  · rcases h' with ⟨h0', _⟩ | ⟨_, h'⟩
    · exact absurd h0 h0'
    · rcases h with ⟨hz, rfl⟩ | ⟨k, hz, hk, h⟩
      · rcases h' with ⟨_, rfl⟩ | ⟨k', hz', hk', _⟩
        · rfl
        · omega
      · rcases h' with ⟨hz', _⟩ | ⟨k', hz', hk', h'⟩
        · omega
        · rcases h with ⟨hr, rfl⟩ | ⟨hr, rfl⟩ <;> rcases h' with ⟨hr', rfl⟩ | ⟨hr', rfl⟩
          · rfl
          · exact absurd hr' hr
          · exact absurd hr hr'
          · rfl
theorem PackE.le (h : PackE z s xs e) : e ≤ 6 := by
  rcases h with ⟨_, rfl⟩ | ⟨_, ⟨_, rfl⟩ | ⟨k, _, _, ⟨_, rfl⟩ | ⟨_, rfl⟩⟩⟩ <;> omega
/-- nothing is amiss -/
theorem PackE.ok (h : PackE z s xs 0) : (1 ≤ s ∧ s ≤ 65535) ∧ ∃ k : Nat, z = (k : Int) ∧ (k = 1 ∨ k = 2) ∧ Rises xs := by
  rcases h with ⟨_, h⟩ | ⟨h0, ⟨_, h⟩ | ⟨k, hz, hk, ⟨_, h⟩ | ⟨hr, _⟩⟩⟩
  · cases h
  · cases h
  · cases h
  · exact ⟨h0, k, hz, hk, hr⟩
end
/-- what is told: a block, or nothing -/
def blockE (z s : Int) (xs : List (Int × Nat)) (e : Nat) : List Nat := if e = 0 then blockB z.toNat s.toNat xs else []

end Go.Proofs.YtkjkdiijlgoagaaGreatDoor
