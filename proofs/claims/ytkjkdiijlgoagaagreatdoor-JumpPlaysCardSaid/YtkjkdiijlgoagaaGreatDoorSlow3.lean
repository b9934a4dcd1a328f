/-
  Plain facts (no program): encoded and decoded; a byte of 0 more; decoded and encoded.
-/
import Derived.Test.YtkjkdiijlgoagaaGreatDoorSlowP
import Derived.Test.YtkjkdiijlgoagaaGreatDoorChunks
namespace Go.Proofs.YtkjkdiijlgoagaaGreatDoor

theorem num_zeros : ∀ {p : List Bool}, (∀ i, p.getD i false = false) → num p = 0 := by
  intro p h
  apply Nat.eq_of_testBit_eq
  intro i
  rw [num_testBit, Nat.zero_testBit, h]
  simp
/-- the bits of bits' bytes: these, filled up with 0s -/
theorem flat_pack (p : List Bool) : ∃ t, flat (pack p) = p ++ t ∧ t.length < 8 ∧ num t = 0 := by
  refine ⟨(flat (pack p)).drop p.length, ?_, ?_, ?_⟩
  · conv => lhs; rw [← List.take_append_drop p.length (flat (pack p)), take_flat_pack]
  · rw [List.length_drop, flat_length, pack_length]; omega
  · apply num_zeros
    intro i
    have : ((flat (pack p)).drop p.length).getD i false = (flat (pack p)).getD (p.length + i) false := by simp [List.getD_eq_getElem?_getD]
    rw [this, flat_getD, bit_pack, List.getD_eq_getElem?_getD, List.getElem?_eq_none (by omega)]
    rfl
section
variable {k : Nat} {xs : List (Int × Nat)}
/-- encoded, without an error -/
theorem EncE.rises (hk : k = 1 ∨ k = 2) (h0 : xs.length ≠ 0) (hr : Rises xs) : EncE (k : Int) xs 0 := .inr ⟨h0, .inr ⟨k, rfl, hk, .inr ⟨hr, rfl⟩⟩⟩
theorem enc_dec (hk : k = 1 ∨ k = 2) (hx : AllQ xs) (hr : Rises xs) (h1 : 1 ≤ xs.length) (h2 : xs.length ≤ 65535) : DecA (k : Int) (pack (encP (k : Int) xs 0)) (xs.length : Nat) xs 0 := by
  refine .inr ⟨by omega, ?_⟩
  unfold encP
  rw [if_pos rfl, Int.toNat_natCast, Int.toNat_natCast]
  obtain ⟨t, h3, h4, h5⟩ := flat_pack (cdK k xs xs.length)
  have := dec_encoded hk hx hr t
  rw [← h3] at this
  unfold tailE at this
  rwa [if_pos ⟨h4, h5⟩] at this
/-- with a byte of 0 more -/
theorem enc_more (hk : k = 1 ∨ k = 2) (hx : AllQ xs) (hr : Rises xs) (h1 : 1 ≤ xs.length) (h2 : xs.length ≤ 65535) : DecA (k : Int) (pack (encP (k : Int) xs 0) ++ [0]) (xs.length : Nat) xs 3 := by
  refine .inr ⟨by omega, ?_⟩
  unfold encP
  rw [if_pos rfl, Int.toNat_natCast, Int.toNat_natCast]
  obtain ⟨t, h3, h4, h5⟩ := flat_pack (cdK k xs xs.length)
  have := dec_encoded hk hx hr (t ++ flat [0])
  rw [← List.append_assoc, ← h3, ← flat_app] at this
  rwa [tailE_long (by rw [List.length_append, flat_length]; simp)] at this
theorem cdK_ge (h : AllQ xs) : ∀ j, j ≤ (cdK k xs j).length
  | 0 => Nat.zero_le _
  | j + 1 => by
    have h1 := cdK_ge h j
    have h2 := (putK_len (k := k) (t := (xs.getD j (0, 0)).1) (stK_may (k := k) h j) (h j).2).1
    unfold cdK
    rw [List.length_append]
    omega
/-- decoded, without an error, and encoded -/
theorem dec_enc {bs : List Nat} {n : Int} (hk : k = 1 ∨ k = 2) (hb : ∀ x ∈ bs, x < 256) (hx : AllQ xs) (h : DecA (k : Int) bs n xs 0) : (xs.length : Int) = n ∧ xs.length ≤ 8 * bs.length ∧ EncE (k : Int) xs 0 ∧ pack (encP (k : Int) xs 0) = bs := by
  rcases h with ⟨_, _, h⟩ | ⟨h1, h⟩
  · cases h
  · obtain ⟨h2, h3, k', h4, _, t, h5, h6, h7⟩ := decoded_enc h (by omega)
    obtain rfl : k = k' := by omega
    have h8 := pack_filled hb h5 h6 h7
    have h9 := cdK_ge (k := k) hx n.toNat
    have h10 := congrArg List.length h5
    rw [flat_length, List.length_append] at h10
    refine ⟨by omega, by omega, EncE.rises hk (by omega) h3, ?_⟩
    unfold encP
    rw [if_pos rfl, Int.toNat_natCast, h2]
    exact h8
end

end Go.Proofs.YtkjkdiijlgoagaaGreatDoor
