/-
  Texts of this proof, one behind the other: Slow3, Pack1, Who1, Who2.
-/
import Derived.Test.YtbocpgffddkfdaaGreatDoorSlowP
import Derived.Test.YtbocpgffddkfdaaGreatDoorChunks
import Derived.Test.YtbocpgffddkfdaaGreatDoorIdxP
import Derived.Test.YtbocpgffddkfdaaGreatDoorPlain
import Derived.Test.YtbocpgffddkfdaaGreatDoorUvI

namespace Go.Proofs.YtbocpgffddkfdaaGreatDoor

theorem num_zeros : ∀ {p : List Bool}, (∀ i, p.getD i false = false) → num p = 0 := by
  intro p h
  apply Nat.eq_of_testBit_eq
  intro i
  rw [num_testBit, Nat.zero_testBit, h]
  simp
theorem flat_pack (p : List Bool) : ∃ t, flat (pack p) = p ++ t ∧ t.length < 8 ∧ num t = 0 := by
  refine ⟨(flat (pack p)).drop p.length, ?_, ?_, ?_⟩
  · conv => lhs; rw [← List.take_append_drop p.length (flat (pack p)), take_flat_pack]
  · rw [List.length_drop, flat_length, pack_length]; omega
  · apply num_zeros
    intro i
    have : ((flat (pack p)).drop p.length).getD i false = (flat (pack p)).getD (p.length + i) false := by simp [List.getD_eq_getElem?_getD]
    rw [this, flat_getD, bit_pack, List.getD_eq_getElem?_getD, List.getElem?_eq_none (by omega)]
    rfl
section
variable {k : Nat} {xs : List (Int × Nat)}
theorem enc_dec (hk : k = 1 ∨ k = 2) (hx : AllQ xs) (hr : Rises xs) (h1 : 1 ≤ xs.length) (h2 : xs.length ≤ 65535) : DecA (k : Int) (pack (encP (k : Int) xs 0)) (xs.length : Nat) xs 0 := by
  refine .inr ⟨by omega, ?_⟩
  unfold encP
  rw [if_pos rfl, Int.toNat_natCast, Int.toNat_natCast]
  obtain ⟨t, h3, h4, h5⟩ := flat_pack (cdK k xs xs.length)
  have := dec_encoded hk hx hr t
  rw [← h3] at this
  unfold tailE at this
  rwa [if_pos ⟨h4, h5⟩] at this
theorem cdK_ge (h : AllQ xs) : ∀ j, j ≤ (cdK k xs j).length
  | 0 => Nat.zero_le _
  | j + 1 => by
    have h1 := cdK_ge h j
    have h2 := (putK_len (k := k) (t := (xs.getD j (0, 0)).1) (stK_may (k := k) h j) (h j).2).1
    unfold cdK
    rw [List.length_append]
    omega
end

end Go.Proofs.YtbocpgffddkfdaaGreatDoor

namespace Go.Proofs.YtbocpgffddkfdaaGreatDoor

def partQ (s : Nat) (xs : List (Int × Nat)) (j : Nat) : List (Int × Nat) := (xs.drop (j * s)).take s
def manyQ (s : Nat) (xs : List (Int × Nat)) : Nat := (xs.length + s - 1) / s
def bytQ (k : Nat) (p : List (Int × Nat)) : List Nat := pack (cdK k p p.length)
def sumQ (k : Nat) (p : List (Int × Nat)) : List Nat := bytQ k p ++ bigB 4 (crcS (bytQ k p))
def entQ (k : Nat) (p : List (Int × Nat)) : Ent := ⟨(p.getD 0 (0, 0)).1, (p.getD (p.length - 1) (0, 0)).1, (p.length : Int), ((sumQ k p).length : Int)⟩
def entsTo (k s : Nat) (xs : List (Int × Nat)) (j : Nat) : List Ent := (List.range j).map fun i => entQ k (partQ s xs i)
def bodyTo (k s : Nat) (xs : List (Int × Nat)) (j : Nat) : List Nat := ((List.range j).map fun i => sumQ k (partQ s xs i)).flatten
def blockB (k s : Nat) (xs : List (Int × Nat)) : List Nat := idxB k (entsTo k s xs (manyQ s xs)) ++ bodyTo k s xs (manyQ s xs)
section
variable {k s : Nat} {xs ys : List (Int × Nat)}
theorem lt_many (hs : 1 ≤ s) (j : Nat) : j < manyQ s xs ↔ j * s < xs.length := by
  unfold manyQ
  rw [Nat.lt_iff_add_one_le, Nat.le_div_iff_mul_le hs, Nat.add_mul]
  omega
theorem many_le (hs : 1 ≤ s) : manyQ s xs ≤ xs.length := by
  rcases Nat.lt_or_ge xs.length (manyQ s xs) with h | h
  · have h1 := (lt_many hs xs.length).1 h
    have : xs.length * 1 ≤ xs.length * s := Nat.mul_le_mul (Nat.le_refl _) hs
    omega
  · exact h
theorem many_over (hs : 1 ≤ s) : xs.length ≤ manyQ s xs * s := by
  rcases Nat.lt_or_ge (manyQ s xs * s) xs.length with h | h
  · exact absurd ((lt_many hs _).2 h) (by omega)
  · exact h
theorem part_len (j : Nat) : (partQ s xs j).length = min s (xs.length - j * s) := by
  unfold partQ
  rw [List.length_take, List.length_drop]
theorem part_pos (hs : 1 ≤ s) {j : Nat} (hj : j < manyQ s xs) : 1 ≤ (partQ s xs j).length := by
  have := (lt_many hs j).1 hj
  rw [part_len]
  omega
theorem part_getD {j i : Nat} (hi : i < (partQ s xs j).length) : (partQ s xs j).getD i (0, 0) = xs.getD (j * s + i) (0, 0) := by
  rw [part_len] at hi
  unfold partQ
  simp only [List.getD_eq_getElem?_getD]
  rw [List.getElem?_take_of_lt (by omega), List.getElem?_drop]
theorem part_rises (h : Rises xs) (j : Nat) : Rises (partQ s xs j) := by
  intro i hi
  rw [part_getD (by omega), part_getD (by omega)]
  have hl := part_len (s := s) (xs := xs) j
  have := h (j * s + i) (by omega)
  rwa [Nat.add_assoc] at this
theorem part_all (h : AllQ xs) (j : Nat) : AllQ (partQ s xs j) := by
  intro i
  rcases Nat.lt_or_ge i (partQ s xs j).length with hi | hi
  · rw [part_getD hi]; exact h _
  · rw [List.getD_eq_getElem?_getD, List.getElem?_eq_none hi]
    exact ⟨by simp, by simp⟩
theorem rises_le (h : Rises xs) {i j : Nat} (hij : i ≤ j) (hj : j < xs.length) : (xs.getD i (0, 0)).1 ≤ (xs.getD j (0, 0)).1 := by
  induction j with
  | zero => obtain rfl : i = 0 := by omega
            exact Int.le_refl _
  | succ j ih =>
    by_cases e : i = j + 1
    · rw [e]; exact Int.le_refl _
    · have h1 := ih (by omega) (by omega)
      have h2 := h j hj
      omega
theorem byt_len (hx : AllQ xs) : (bytQ k xs).length ≤ (146 * xs.length + 7) / 8 := by
  unfold bytQ
  rw [pack_length]
  have := cdK_le (k := k) hx xs.length
  omega
theorem byt_lt (k : Nat) (xs : List (Int × Nat)) : ∀ x ∈ bytQ k xs, x < 256 := pack_lt _
theorem sum_len (k : Nat) (xs : List (Int × Nat)) : (sumQ k xs).length = (bytQ k xs).length + 4 := by
  unfold sumQ
  rw [List.length_append, bigB_length]
theorem part_small (hl : xs.length ≤ 5000) (j : Nat) : (partQ s xs j).length ≤ 5000 := by
  rw [part_len]; omega
theorem part_sum_len (hx : AllQ xs) (hl : xs.length ≤ 5000) (j : Nat) : (sumQ k (partQ s xs j)).length ≤ 100000 := by
  have h1 := byt_len (k := k) (part_all (s := s) hx j)
  have h2 := part_small (s := s) hl j
  rw [sum_len]
  omega
theorem ents_len (j : Nat) : (entsTo k s xs j).length = j := by simp [entsTo]
theorem ents_succ (j : Nat) : entsTo k s xs (j + 1) = entsTo k s xs j ++ [entQ k (partQ s xs j)] := by
  unfold entsTo
  rw [List.range_succ, List.map_append]
  rfl
theorem body_succ (j : Nat) : bodyTo k s xs (j + 1) = bodyTo k s xs j ++ sumQ k (partQ s xs j) := by
  unfold bodyTo
  rw [List.range_succ, List.map_append, List.flatten_append]
  simp
theorem body_len (hx : AllQ xs) (hl : xs.length ≤ 5000) (j : Nat) : (bodyTo k s xs j).length ≤ 100000 * j := by
  induction j with
  | zero => simp [bodyTo]
  | succ j ih =>
    rw [body_succ, List.length_append]
    have := part_sum_len (k := k) (s := s) hx hl j
    omega
theorem ents_at {j i : Nat} (hi : i < j) : (entsTo k s xs j).getD i ent0 = entQ k (partQ s xs i) := by
  rw [List.getD_eq_getElem?_getD, List.getElem?_eq_getElem (by rw [ents_len]; exact hi)]
  simp [entsTo]
theorem ent_fit (hx : AllQ xs) (hl : xs.length ≤ 5000) (j : Nat) : FitE (entQ k (partQ s xs j)) := by
  have h1 := part_all (s := s) hx j
  have h2 := part_small (s := s) hl j
  have h3 := part_sum_len (k := k) (s := s) hx hl j
  exact ⟨(h1 0).1, (h1 _).1, by show (_ : Int) ≤ ((partQ s xs j).length : Int) ∧ _; simp only [entQ]; omega, by simp only [entQ]; omega⟩
theorem ents_fit (hx : AllQ xs) (hl : xs.length ≤ 5000) (j : Nat) : ∀ e ∈ entsTo k s xs j, FitE e := by
  intro e he
  obtain ⟨i, _, rfl⟩ := List.mem_map.1 he
  exact ent_fit hx hl i
theorem block_may (hk : k = 1 ∨ k = 2) (hx : AllQ xs) (hr : Rises xs) (hl : xs.length ≤ 5000) (hs : 1 ≤ s) (hs2 : s ≤ 65535) : May (k : Int) (entsTo k s xs (manyQ s xs)) := by
  have hm := many_le (xs := xs) hs
  refine ⟨by omega, by rw [ents_len]; omega, fun j hj => ?_⟩
  rw [ents_len] at hj
  have hp := part_pos hs hj
  have hpl := part_len (s := s) (xs := xs) j
  have hjl := (lt_many hs j).1 hj
  have h3 := part_sum_len (k := k) (s := s) hx hl j
  have h4 := sum_len k (partQ s xs j)
  rw [ents_at hj]
  refine ⟨⟨by simp only [entQ]; omega, by simp only [entQ]; omega, ?_⟩, fun h0 => ?_⟩
  · simp only [entQ]
    rw [part_getD (by omega), part_getD (by omega)]
    exact rises_le hr (by omega) (by omega)
  · rw [ents_at (by omega)]
    simp only [entQ]
    have hp2 := part_pos hs (j := j - 1) (xs := xs) (by omega)
    have hpl2 := part_len (s := s) (xs := xs) (j - 1)
    obtain ⟨i, rfl⟩ : ∃ i, j = i + 1 := ⟨j - 1, by omega⟩
    simp only [Nat.add_sub_cancel] at *
    have e : (i + 1) * s = i * s + s := by rw [Nat.add_mul]; omega
    have hpl3 : (partQ s xs i).length = s := by omega
    rw [part_getD (by omega), part_getD (by omega), hpl3]
    have h5 := hr (i * s + (s - 1)) (by omega)
    have e2 : i * s + (s - 1) + 1 = (i + 1) * s + 0 := by omega
    rwa [e2] at h5
theorem parts_all (hs : 1 ≤ s) : ((List.range (manyQ s xs)).map (partQ s xs)).flatten = xs := by
  have key : ∀ j, ((List.range j).map (partQ s xs)).flatten = xs.take (j * s) := by
    intro j
    induction j with
    | zero => simp
    | succ j ih =>
      rw [List.range_succ, List.map_append, List.flatten_append, ih, Nat.add_mul, Nat.one_mul, List.take_add]
      simp [partQ]
  rw [key, List.take_of_length_le (many_over hs)]
theorem block_len (hx : AllQ xs) (hl : xs.length ≤ 5000) (hs : 1 ≤ s) : (blockB k s xs).length ≤ 700000000 := by
  have h1 := body_len (k := k) (s := s) hx hl (manyQ s xs)
  have h2 := headB_len k (entsTo k s xs (manyQ s xs)) (by rw [ents_len]; have := many_le (xs := xs) hs; omega)
  have h3 := many_le (xs := xs) hs
  rw [ents_len] at h2
  unfold blockB idxB
  rw [List.length_append, List.length_append, bigB_length]
  omega
theorem block_lt (hk : k < 256) : ∀ x ∈ blockB k s xs, x < 256 := by
  intro x hx
  rcases List.mem_append.1 hx with h | h
  · rcases List.mem_append.1 h with h | h
    · exact headB_lt hk _ x h
    · exact bigB_lt _ _ x h
  · simp only [bodyTo, List.mem_flatten, List.mem_map] at h
    obtain ⟨l, ⟨i, _, rfl⟩, h⟩ := h
    rcases List.mem_append.1 h with h | h
    · exact pack_lt _ x h
    · exact bigB_lt _ _ x h
end

def PackE (z s : Int) (xs : List (Int × Nat)) (e : Nat) : Prop :=
  (¬ (1 ≤ s ∧ s ≤ 65535) ∧ e = 1) ∨ ((1 ≤ s ∧ s ≤ 65535) ∧ (((z ≠ 1 ∧ z ≠ 2) ∧ e = 6) ∨ ∃ k : Nat, z = (k : Int) ∧ (k = 1 ∨ k = 2) ∧ ((¬ Rises xs ∧ e = 4) ∨ (Rises xs ∧ e = 0))))
section
variable {z s : Int} {xs : List (Int × Nat)} {e e' : Nat}
theorem PackE.same (h : PackE z s xs e) (h' : PackE z s xs e') : e = e' := by
  rcases h with ⟨h0, rfl⟩ | ⟨h0, h⟩
  · rcases h' with ⟨_, rfl⟩ | ⟨h0', _⟩
    · rfl
    · exact absurd h0' h0
  · rcases h' with ⟨h0', _⟩ | ⟨_, h'⟩
    · exact absurd h0 h0'
    · rcases h with ⟨hz, rfl⟩ | ⟨k, hz, hk, h⟩
      · rcases h' with ⟨_, rfl⟩ | ⟨k', hz', hk', _⟩
        · rfl
        · omega
      · rcases h' with ⟨hz', _⟩ | ⟨k', hz', hk', h'⟩
        · omega
        · rcases h with ⟨hr, rfl⟩ | ⟨hr, rfl⟩ <;> rcases h' with ⟨hr', rfl⟩ | ⟨hr', rfl⟩
          · rfl
          · exact absurd hr' hr
          · exact absurd hr hr'
          · rfl
theorem PackE.le (h : PackE z s xs e) : e ≤ 6 := by
  rcases h with ⟨_, rfl⟩ | ⟨_, ⟨_, rfl⟩ | ⟨k, _, _, ⟨_, rfl⟩ | ⟨_, rfl⟩⟩⟩ <;> omega
theorem PackE.ok (h : PackE z s xs 0) : (1 ≤ s ∧ s ≤ 65535) ∧ ∃ k : Nat, z = (k : Int) ∧ (k = 1 ∨ k = 2) ∧ Rises xs := by
  rcases h with ⟨_, h⟩ | ⟨h0, ⟨_, h⟩ | ⟨k, hz, hk, ⟨_, h⟩ | ⟨hr, _⟩⟩⟩
  · cases h
  · cases h
  · cases h
  · exact ⟨h0, k, hz, hk, hr⟩
end
def blockE (z s : Int) (xs : List (Int × Nat)) (e : Nat) : List Nat := if e = 0 then blockB z.toNat s.toNat xs else []
end Go.Proofs.YtbocpgffddkfdaaGreatDoor

namespace Go.Proofs.YtbocpgffddkfdaaGreatDoor

open Classical in
noncomputable def decF (z : Int) (bs : List Nat) (n : Int) : List (Int × Nat) × Nat :=
  if h : ∃ t : List (Int × Nat) × Nat, DecA z bs n t.1 t.2 then Classical.choose h else ([], 1)
theorem decF_of {z n : Int} {bs : List Nat} {xs : List (Int × Nat)} {e : Nat} (h : DecA z bs n xs e) : decF z bs n = (xs, e) := by
  have hx : ∃ t : List (Int × Nat) × Nat, DecA z bs n t.1 t.2 := ⟨(xs, e), h⟩
  unfold decF
  rw [dif_pos hx]
  obtain ⟨e1, e2⟩ := h.same (Classical.choose_spec hx)
  exact Prod.ext e1.symm e2.symm
theorem decF_le (z n : Int) (bs : List Nat) : (decF z bs n).2 ≤ 6 := by
  unfold decF
  split
  · rename_i hx
    exact (Classical.choose_spec hx).le
  · decide
theorem decF_ok {z n : Int} {bs : List Nat} (h : (decF z bs n).2 = 0) : DecA z bs n (decF z bs n).1 0 := by
  unfold decF at h ⊢
  split at h
  · rename_i hx
    rw [dif_pos hx]
    have := Classical.choose_spec hx
    rwa [h] at this
  · cases h
def EndsQ (e : Ent) (xs : List (Int × Nat)) : Prop := (xs.getD 0 (0, 0)).1 = e.mn ∧ (xs.getD (xs.length - 1) (0, 0)).1 = e.mx
def bodyC (bs : List Nat) : List Nat := bs.take (bs.length - 4)
def tailC (bs : List Nat) : List Nat := bs.drop (bs.length - 4)
open Classical in
noncomputable def chF (z : Int) (e : Ent) (bs : List Nat) : Except Nat (List (Int × Nat)) :=
  if ¬ ((bs.length : Int) = e.ln ∧ 4 ≤ bs.length) then .error 1 else
  if numB (tailC bs) ≠ crcS (bodyC bs) then .error 7 else
  if (decF z (bodyC bs) e.ct).2 ≠ 0 then .error (decF z (bodyC bs) e.ct).2 else
  if EndsQ e (decF z (bodyC bs) e.ct).1 then .ok (decF z (bodyC bs) e.ct).1 else .error 8
section
variable {z : Int} {e : Ent} {bs : List Nat}
theorem chF_arg (h : ¬ ((bs.length : Int) = e.ln ∧ 4 ≤ bs.length)) : chF z e bs = .error 1 := by
  unfold chF
  rw [if_pos h]
theorem chF_sum (h : (bs.length : Int) = e.ln ∧ 4 ≤ bs.length) (hs : numB (tailC bs) ≠ crcS (bodyC bs)) : chF z e bs = .error 7 := by
  unfold chF
  rw [if_neg (fun h' => h' h), if_pos hs]
theorem chF_dec {xs : List (Int × Nat)} {k : Nat} (h : (bs.length : Int) = e.ln ∧ 4 ≤ bs.length) (hs : numB (tailC bs) = crcS (bodyC bs)) (hd : DecA z (bodyC bs) e.ct xs k) (hk : k ≠ 0) : chF z e bs = .error k := by
  unfold chF
  rw [if_neg (fun h' => h' h), if_neg (fun h' => h' hs), decF_of hd, if_pos hk]
theorem chF_end {xs : List (Int × Nat)} (h : (bs.length : Int) = e.ln ∧ 4 ≤ bs.length) (hs : numB (tailC bs) = crcS (bodyC bs)) (hd : DecA z (bodyC bs) e.ct xs 0) (he : ¬ EndsQ e xs) : chF z e bs = .error 8 := by
  unfold chF
  rw [if_neg (fun h' => h' h), if_neg (fun h' => h' hs), decF_of hd, if_neg (by simp), if_neg he]
theorem chF_ok {xs : List (Int × Nat)} (h : (bs.length : Int) = e.ln ∧ 4 ≤ bs.length) (hs : numB (tailC bs) = crcS (bodyC bs)) (hd : DecA z (bodyC bs) e.ct xs 0) (he : EndsQ e xs) : chF z e bs = .ok xs := by
  unfold chF
  rw [if_neg (fun h' => h' h), if_neg (fun h' => h' hs), decF_of hd, if_neg (by simp), if_pos he]
theorem chF_err {k : Nat} (h : chF z e bs = .error k) : k ≠ 0 ∧ k ≤ 9 := by
  unfold chF at h
  split at h
  · injection h with h; omega
  · split at h
    · injection h with h; omega
    · split at h
      · rename_i hk
        injection h with h
        have := decF_le z e.ct (bodyC bs)
        omega
      · split at h
        · cases h
        · injection h with h; omega
theorem chF_good {xs : List (Int × Nat)} (h : chF z e bs = .ok xs) : (xs.length : Int) = e.ct ∧ 1 ≤ xs.length ∧ xs.length ≤ 65535 ∧ Rises xs ∧ EndsQ e xs := by
  unfold chF at h
  split at h
  · cases h
  · split at h
    · cases h
    · split at h
      · cases h
      · rename_i hk
        split at h
        · rename_i he
          injection h with h
          subst h
          rcases decF_ok (by simpa using hk) with ⟨_, _, h3⟩ | ⟨h1, h2⟩
          · cases h3
          · obtain ⟨g1, g2, _⟩ := decoded_enc h2 (by omega)
            exact ⟨by omega, by omega, by omega, g2, he⟩
        · cases h
end

theorem dec_some {z n : Int} {bs : List Nat} {xs : List (Int × Nat)} (h : DecA z bs n xs 0) : (xs.length : Int) = n ∧ 1 ≤ xs.length ∧ xs.length ≤ 65535 := by
  rcases h with ⟨_, _, h⟩ | ⟨h1, h⟩
  · cases h
  · have := (decoded_enc h (by omega)).1
    omega
noncomputable def blkF (z : Int) (bs : List Nat) : List Ent → Nat → List (Int × Nat) → List (Int × Nat) × Nat
  | [], _, acc => (acc, 0)
  | e :: r, a, acc =>
    match chF z e ((bs.drop a).take e.ln.toNat) with
    | .error j => (acc, j)
    | .ok ys => blkF z bs r (a + e.ln.toNat) (acc ++ ys)
noncomputable def endF (z : Int) (bs : List Nat) : List Ent → Nat → Nat → List Nat
  | [], _, _ => []
  | e :: r, a, m =>
    match chF z e ((bs.drop a).take e.ln.toNat) with
    | .error _ => []
    | .ok ys => (m + ys.length) :: endF z bs r (a + e.ln.toNat) (m + ys.length)
noncomputable def wholeF (bs : List Nat) : List (Int × Nat) × Nat :=
  match getI bs with
  | .error j => ([], j)
  | .ok (k, es, n) => blkF k bs es n []
noncomputable def wholeN (bs : List Nat) : List Nat :=
  match getI bs with
  | .error _ => []
  | .ok (k, es, n) => endF k bs es n 0
section
variable {z : Int} {bs : List Nat} {es : List Ent} {j a : Nat}
theorem drop_at (h : j < es.length) : es.drop j = es.getD j ent0 :: es.drop (j + 1) := by
  rw [List.drop_eq_getElem_cons h, List.getD_eq_getElem?_getD, List.getElem?_eq_getElem h]
  rfl
theorem blkF_bad {acc : List (Int × Nat)} {k : Nat} (h : j < es.length) (hc : chF z (es.getD j ent0) ((bs.drop a).take (es.getD j ent0).ln.toNat) = .error k) : blkF z bs (es.drop j) a acc = (acc, k) := by
  rw [drop_at h, blkF, hc]
theorem blkF_ok {acc ys : List (Int × Nat)} (h : j < es.length) (hc : chF z (es.getD j ent0) ((bs.drop a).take (es.getD j ent0).ln.toNat) = .ok ys) : blkF z bs (es.drop j) a acc = blkF z bs (es.drop (j + 1)) (a + (es.getD j ent0).ln.toNat) (acc ++ ys) := by
  rw [drop_at h, blkF, hc]
theorem blkF_end {acc : List (Int × Nat)} (h : ¬ j < es.length) : blkF z bs (es.drop j) a acc = (acc, 0) := by
  rw [List.drop_of_length_le (by omega), blkF]
theorem endF_bad {m k : Nat} (h : j < es.length) (hc : chF z (es.getD j ent0) ((bs.drop a).take (es.getD j ent0).ln.toNat) = .error k) : endF z bs (es.drop j) a m = [] := by
  rw [drop_at h, endF, hc]
theorem endF_ok {m : Nat} {ys : List (Int × Nat)} (h : j < es.length) (hc : chF z (es.getD j ent0) ((bs.drop a).take (es.getD j ent0).ln.toNat) = .ok ys) : endF z bs (es.drop j) a m = (m + ys.length) :: endF z bs (es.drop (j + 1)) (a + (es.getD j ent0).ln.toNat) (m + ys.length) := by
  rw [drop_at h, endF, hc]
theorem endF_end {m : Nat} (h : ¬ j < es.length) : endF z bs (es.drop j) a m = [] := by
  rw [List.drop_of_length_le (by omega), endF]
theorem blkF_le : ∀ (es : List Ent) (a : Nat) (acc : List (Int × Nat)), (blkF z bs es a acc).2 ≤ 9
  | [], _, _ => by simp [blkF]
  | e :: r, a, acc => by
    rw [blkF]
    cases h : chF z e ((bs.drop a).take e.ln.toNat) with
    | error k => exact (chF_err h).2
    | ok ys => exact blkF_le r _ _
theorem getI_ok {k n : Nat} (hb : ∀ x ∈ bs, x < 256) (h : getI bs = .ok (k, es, n)) : May k es ∧ (∀ e ∈ es, FitE e) ∧ n ≤ bs.length ∧ lensN es = bs.length - n := by
  obtain ⟨h1, h2, h3, _⟩ := getI_back hb h
  refine ⟨h1, h2, h3, ?_⟩
  unfold getI at h
  cases hk : getK bs with
  | error e => rw [hk] at h; cases h
  | ok p =>
    rw [hk] at h
    simp only at h
    cases hl : getL bs p.2 with
    | error e => rw [hl] at h; cases h
    | ok q =>
      rw [hl] at h
      simp only at h
      cases hs : getS bs q.2 with
      | error e => rw [hs] at h; cases h
      | ok a2 =>
        rw [hs] at h
        simp only at h
        split at h
        · rename_i hm
          simp only [Except.ok.injEq, Prod.mk.injEq] at h
          obtain ⟨rfl, rfl, rfl⟩ := h
          exact hm.2
        · cases h
theorem lensN_le (es : List Ent) (j : Nat) : lensN (es.take j) ≤ lensN es := by
  have : lensN es = lensN (es.take j) + lensN (es.drop j) := by rw [← lensN_app, List.take_append_drop]
  omega
theorem may_at {k : Int} (h : May k es) (hj : j < es.length) : MayE (es.getD j ent0) := (h.2.2 j hj).1
theorem lens_four {k : Int} (h : May k es) : ∀ j, j ≤ es.length → 4 * j ≤ lensN (es.take j)
  | 0, _ => Nat.zero_le _
  | j + 1, hj => by
    have h1 := lens_four h j (by omega)
    rw [lensN_take (by omega)]
    have h2 := may_at h (show j < es.length by omega)
    unfold MayE at h2
    omega
end

section
variable {k : Nat} {p : List (Int × Nat)}
theorem sum_body (k : Nat) (p : List (Int × Nat)) : bodyC (sumQ k p) = bytQ k p ∧ tailC (sumQ k p) = bigB 4 (crcS (bytQ k p)) := by
  have hl : (sumQ k p).length - 4 = (bytQ k p).length := by rw [sum_len]; omega
  unfold bodyC tailC
  rw [hl]
  unfold sumQ
  exact ⟨List.take_left, List.drop_left⟩
theorem ch_good (hk : k = 1 ∨ k = 2) (hx : AllQ p) (hr : Rises p) (h1 : 1 ≤ p.length) (h2 : p.length ≤ 65535) : chF (k : Int) (entQ k p) (sumQ k p) = .ok p := by
  have hd := enc_dec hk hx hr h1 h2
  have hp : pack (encP (k : Int) p 0) = bytQ k p := by
    unfold encP bytQ
    rw [if_pos rfl, Int.toNat_natCast]
  rw [hp] at hd
  obtain ⟨b1, b2⟩ := sum_body k p
  refine chF_ok ⟨rfl, by rw [sum_len]; omega⟩ ?_ (by rw [b1]; exact hd) ⟨rfl, rfl⟩
  rw [b1, b2, numB_bigB 4 _ (by have := crcS_lt (byt_lt k p); omega)]
end

section
variable {k : Nat}
theorem blk_good {bs : List Nat} : ∀ (qs : List (List (Int × Nat))) (es : List Ent) (a : Nat) (acc : List (Int × Nat)) (rest : List Nat), (∀ p ∈ qs, chF (k : Int) (entQ k p) (sumQ k p) = .ok p) → bs.drop a = (qs.map (sumQ k)).flatten ++ rest →
    blkF (k : Int) bs (qs.map (entQ k) ++ es) a acc = blkF (k : Int) bs es (a + ((qs.map (sumQ k)).flatten).length) (acc ++ qs.flatten)
  | [], es, a, acc, rest, _, _ => by simp
  | p :: r, es, a, acc, rest, h, hd => by
    simp only [List.map_cons, List.flatten_cons, List.append_assoc, List.cons_append] at hd ⊢
    have hn : (entQ k p).ln.toNat = (sumQ k p).length := by simp [entQ]
    rw [blkF, hn, hd, List.take_left, h p (by simp)]
    have := blk_good r es (a + (sumQ k p).length) (acc ++ p) rest (fun q hq => h q (by simp [hq])) (by rw [← List.drop_drop, hd, List.drop_left])
    simp only [this, List.length_append, List.append_assoc, Nat.add_assoc]
variable {s : Nat} {xs : List (Int × Nat)}
def partsQ (s : Nat) (xs : List (Int × Nat)) : List (List (Int × Nat)) := (List.range (manyQ s xs)).map (partQ s xs)
theorem ents_parts : entsTo k s xs (manyQ s xs) = (partsQ s xs).map (entQ k) := by
  unfold entsTo partsQ
  rw [List.map_map]
  rfl
theorem body_parts : bodyTo k s xs (manyQ s xs) = ((partsQ s xs).map (sumQ k)).flatten := by
  unfold bodyTo partsQ
  rw [List.map_map]
  rfl
theorem parts_flat (hs : 1 ≤ s) : (partsQ s xs).flatten = xs := parts_all hs
theorem parts_good (hk : k = 1 ∨ k = 2) (hx : AllQ xs) (hr : Rises xs) (hl : xs.length ≤ 5000) (hs : 1 ≤ s) : ∀ p ∈ partsQ s xs, 1 ≤ p.length ∧ chF (k : Int) (entQ k p) (sumQ k p) = .ok p := by
  intro p hp
  obtain ⟨j, hj, rfl⟩ := List.mem_map.1 hp
  have h1 := part_pos hs (List.mem_range.1 hj)
  have h2 := part_small (s := s) hl j
  exact ⟨h1, ch_good hk (part_all hx j) (part_rises hr j) h1 (by omega)⟩
theorem lens_body (qs : List (List (Int × Nat))) : lensN (qs.map (entQ k)) = ((qs.map (sumQ k)).flatten).length := by
  induction qs with
  | nil => rfl
  | cons p r ih =>
    simp only [lensN, List.map_cons, List.sum_cons, List.flatten_cons, List.length_append] at ih ⊢
    rw [ih]
    simp [entQ]
theorem whole_is (hk : k = 1 ∨ k = 2) (hx : AllQ xs) (hr : Rises xs) (hl : xs.length ≤ 5000) (hs : 1 ≤ s) (hs2 : s ≤ 65535) {rest : List Nat} (hrest : rest.length = (bodyTo k s xs (manyQ s xs)).length) :
    getI (idxB k (entsTo k s xs (manyQ s xs)) ++ rest) = .ok (k, entsTo k s xs (manyQ s xs), (idxB k (entsTo k s xs (manyQ s xs))).length) := by
  rw [getI_put hk (block_may hk hx hr hl hs hs2) (ents_fit hx hl _), if_pos]
  rw [ents_parts, lens_body, hrest, body_parts]
theorem whole_back (hk : k = 1 ∨ k = 2) (hx : AllQ xs) (hr : Rises xs) (hl : xs.length ≤ 5000) (hs : 1 ≤ s) (hs2 : s ≤ 65535) : wholeF (blockB k s xs) = (xs, 0) := by
  unfold wholeF blockB
  rw [whole_is hk hx hr hl hs hs2 rfl]
  simp only
  have h := blk_good (k := k) (bs := idxB k (entsTo k s xs (manyQ s xs)) ++ bodyTo k s xs (manyQ s xs)) (partsQ s xs) [] (idxB k (entsTo k s xs (manyQ s xs))).length [] [] (fun p hp => (parts_good hk hx hr hl hs p hp).2) (by rw [List.drop_left, body_parts, List.append_nil])
  rw [List.append_nil, ← ents_parts] at h
  rw [h, blkF, List.nil_append, parts_flat hs]
theorem body_small (hx : AllQ xs) (hs : 1 ≤ s) : ∀ j, j ≤ manyQ s xs → (bodyTo k s xs j).length ≤ 24 * min (j * s) xs.length
  | 0, _ => by simp [bodyTo]
  | j + 1, hj => by
    have ih := body_small hx hs j (by omega)
    have h1 := part_pos hs (show j < manyQ s xs by omega)
    have h2 := part_len (s := s) (xs := xs) j
    have h3 := byt_len (k := k) (part_all (s := s) hx j)
    have h4 := (lt_many (xs := xs) hs j).1 (by omega)
    have h5 : (j + 1) * s = j * s + s := by rw [Nat.add_mul, Nat.one_mul]
    rw [body_succ, List.length_append, sum_len]
    omega
theorem block_small (hx : AllQ xs) (hl : xs.length ≤ 100) (hs : 1 ≤ s) : (blockB k s xs).length ≤ 7000 := by
  have h1 := body_small (k := k) hx hs (manyQ s xs) (Nat.le_refl _)
  have h2 := headB_len k (entsTo k s xs (manyQ s xs)) (by rw [ents_len]; have := many_le (xs := xs) hs; omega)
  have h3 := many_le (xs := xs) hs
  rw [ents_len] at h2
  unfold blockB idxB
  rw [List.length_append, List.length_append, bigB_length]
  omega
end

end Go.Proofs.YtbocpgffddkfdaaGreatDoor

namespace Go.Proofs.YtbocpgffddkfdaaGreatDoor

theorem allQ_of {xs : List (Int × Nat)} (h : ∀ x ∈ xs, (-9223372036854775808 ≤ x.1 ∧ x.1 ≤ 9223372036854775807) ∧ x.2 ≤ 18446744073709551615) : AllQ xs := by
  intro j
  rcases Nat.lt_or_ge j xs.length with hj | hj
  · rw [List.getD_eq_getElem?_getD, List.getElem?_eq_getElem hj]
    exact h _ (List.getElem_mem hj)
  · rw [List.getD_eq_getElem?_getD, List.getElem?_eq_none hj]
    exact ⟨by simp, by simp⟩
theorem chF_few {z : Int} {e : Ent} {bs : List Nat} {xs : List (Int × Nat)} (h : chF z e bs = .ok xs) : xs.length ≤ 8 * bs.length := by
  unfold chF at h
  split at h
  · cases h
  · split at h
    · cases h
    · split at h
      · cases h
      · rename_i hk
        split at h
        · injection h with h
          subst h
          rcases decF_ok (by simpa using hk) with ⟨_, _, h3⟩ | ⟨h1, h2⟩
          · cases h3
          · obtain ⟨g1, _, k, _, _, t, g5, _⟩ := decoded_enc h2 (by omega)
            have hall := allQ_of (Dec.le zeroK_may h2).2.2
            have g6 := cdK_ge (k := k) hall e.ct.toNat
            have g7 := congrArg List.length g5
            rw [flat_length, List.length_append] at g7
            have g8 : (bodyC bs).length ≤ bs.length := by unfold bodyC; rw [List.length_take]; omega
            omega
        · cases h
theorem blkF_few {z : Int} {bs : List Nat} : ∀ (es : List Ent) (a : Nat) (acc : List (Int × Nat)), (blkF z bs es a acc).1.length ≤ acc.length + 8 * lensN es
  | [], a, acc => by simp [blkF]
  | e :: r, a, acc => by
    have hl : lensN (e :: r) = e.ln.toNat + lensN r := by simp [lensN]
    rw [blkF]
    cases h : chF z e ((bs.drop a).take e.ln.toNat) with
    | error k => simp only; omega
    | ok ys =>
      have h1 := blkF_few (z := z) (bs := bs) r (a + e.ln.toNat) (acc ++ ys)
      have h2 := chF_few h
      rw [List.length_take] at h2
      rw [List.length_append] at h1
      simp only
      omega
theorem wholeF_few {bs : List Nat} (hb : ∀ x ∈ bs, x < 256) : (wholeF bs).1.length ≤ 8 * bs.length := by
  unfold wholeF
  cases h : getI bs with
  | error j => simp
  | ok p =>
    obtain ⟨k, es, n⟩ := p
    obtain ⟨_, _, h3, h4⟩ := getI_ok hb h
    have := blkF_few (z := (k : Int)) (bs := bs) es n []
    simp only [List.length_nil] at this ⊢
    omega
end Go.Proofs.YtbocpgffddkfdaaGreatDoor
