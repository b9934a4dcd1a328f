/-
  Plain facts (no program): layer 7's answer, by asking for the code of the value that a window's bits tell.
-/
import Derived.Test.YtnjohmgacmcdnaaDoorPlain
namespace Go.Proofs.YtnjohmgacmcdnaaDoor

/-- the window that bits behind a first 1 tell: where it begins, how many bits it has, how many bits of the code are ahead of these, an error's number -/
structure WA where
  lead : Nat
  len : Nat
  head : Nat
  e : Nat
def badW (e : Nat) : WA := ⟨0, 0, 0, e⟩
def winX (s : XS) (p : List Bool) : WA :=
  if p.length = 1 then badW 2 else if p.getD 1 false = false then (if s.len = 0 then badW 3 else ⟨s.lead, s.len, 2, 0⟩)
  else if p.length < 14 then badW 2 else if 64 < num (cut p 2 6) + (num (cut p 8 6) + 1) then badW 3 else ⟨num (cut p 2 6), num (cut p 8 6) + 1, 14, 0⟩
/-- is the code of the value that is another one in x so long, by that window? -/
def asksX (s : XS) (a n h x : Nat) : Prop := ((nextX s (s.prev ^^^ x)).lead = a ∧ (nextX s (s.prev ^^^ x)).len = n) ∧ (codeX s (s.prev ^^^ x)).length = h + n
instance (s : XS) (a n h x : Nat) : Decidable (asksX s a n h x) := by unfold asksX; infer_instance
theorem asks_old {s : XS} {x : Nat} (hs : s.May) (hn : s.len ≠ 0) (h1 : x < 2 ^ (64 - s.lead)) (h2 : x ≤ 18446744073709551615) (h3 : 2 ^ (64 - s.lead - s.len) ∣ x) : asksX s s.lead s.len 2 x ↔ x ≠ 0 := by
  have hb := hs.b
  unfold asksX codeX nextX
  rw [xor_back]
  constructor
  · rintro ⟨_, h⟩ rfl
    unfold codeOf at h
    rw [if_pos rfl] at h
    simp at h
    omega
  · intro h
    have hf : fitsX s x := ⟨by omega, lz_ge h2 (by omega) h1, tz_ge h2 h h3⟩
    unfold nextOf codeOf
    rw [if_pos (.inr hf), if_neg h, if_pos hf, oldX_length hs]
    exact ⟨⟨rfl, rfl⟩, rfl⟩
theorem asks_new {s : XS} {x a n : Nat} (hs : s.May) (ha : a ≤ 63) (hn : 1 ≤ n) (h2 : x ≤ 18446744073709551615) : asksX s a n 14 x ↔ lzN x = a ∧ szN x = n ∧ ¬ fitsX s x := by
  unfold asksX codeX nextX
  rw [xor_back]
  by_cases h : x = 0
  · subst h
    constructor
    · rintro ⟨_, h⟩
      unfold codeOf at h
      rw [if_pos rfl] at h
      simp at h
      omega
    · rintro ⟨h, _⟩
      rw [lz_zero] at h
      omega
  · by_cases hf : fitsX s x
    · constructor
      · rintro ⟨⟨_, h4⟩, h5⟩
        unfold nextOf at h4
        unfold codeOf at h5
        rw [if_pos (.inr hf)] at h4
        rw [if_neg h, if_pos hf, oldX_length hs] at h5
        simp only at h4
        omega
      · rintro ⟨_, _, h4⟩
        exact absurd hf h4
    · unfold nextOf codeOf
      rw [if_neg (fun e => e.elim h hf), if_neg h, if_neg hf, newX_length h2 h]
      simp only
      constructor
      · rintro ⟨⟨h4, h5⟩, _⟩
        exact ⟨h4, h5, hf⟩
      · rintro ⟨h4, h5, _⟩
        exact ⟨⟨h4, h5⟩, by omega⟩
/-- what bits begin with, by the window that they tell -/
structure WinIs (s : XS) (p : List Bool) (r : WA) : Prop where
  in_ : r.lead + r.len ≤ 64
  pos : 1 ≤ r.len
  head : 2 ≤ r.head ∧ r.head ≤ 14
  fit : r.head ≤ p.length
  short : p.length < r.head + r.len → getX s p = badX 2
  yes : r.head + r.len ≤ p.length → asksX s r.lead r.len r.head (wordX p r.head r.lead r.len) → getX s p = ⟨s.prev ^^^ wordX p r.head r.lead r.len, ⟨s.prev ^^^ wordX p r.head r.lead r.len, r.lead, r.len⟩, r.head + r.len, 0⟩
  no : r.head + r.len ≤ p.length → ¬ asksX s r.lead r.len r.head (wordX p r.head r.lead r.len) → getX s p = badX 3
theorem getX_win {s : XS} {p : List Bool} (hs : s.May) (hl : p.length ≠ 0) (h0 : p.getD 0 false = true) : ((winX s p).e ≠ 0 → getX s p = badX (winX s p).e) ∧ ((winX s p).e = 0 → WinIs s p (winX s p)) := by
  have hb := hs.b
  unfold winX getX
  rw [if_neg hl, h0, if_neg (show ¬ (true = false) by simp)]
  by_cases h1 : p.length = 1
  · rw [if_pos h1, if_pos h1]
    exact ⟨fun _ => rfl, fun h => by simp [badW] at h⟩
  rw [if_neg h1, if_neg h1]
  by_cases h2 : p.getD 1 false = false
  · rw [if_pos h2, if_pos h2]
    by_cases h3 : s.len = 0
    · rw [if_pos h3]
      unfold tailX
      rw [if_pos (.inl h3)]
      exact ⟨fun _ => rfl, fun h => by simp [badW] at h⟩
    · rw [if_neg h3]
      refine ⟨fun h => absurd rfl h, fun _ => ?_⟩
      have hw := word_in (y := num (cut p 2 s.len)) hs.b (num_cut_lt p 2 s.len)
      have ha := asks_old (x := wordX p 2 s.lead s.len) hs h3 hw.1 hw.2.1 hw.2.2.1
      have hg : getX s p = tailX s p 2 s.lead s.len := by
        unfold getX
        rw [if_neg hl, h0, if_neg (show ¬ (true = false) by simp), if_neg h1, if_pos h2]
      refine ⟨hs.b, by simp only; omega, by simp, by simp only; omega, fun h => ?_, fun h g => ?_, fun h g => ?_⟩
      · rw [hg]
        unfold tailX
        rw [if_neg (by omega), if_pos h]
      · rw [hg]
        unfold tailX
        simp only at h g
        rw [if_neg (by omega), if_neg (by omega), old_test hs h0 h2 h3 h, if_neg (ha.1 g)]
      · rw [hg]
        unfold tailX
        simp only at h g
        rw [if_neg (by omega), if_neg (by omega), old_test hs h0 h2 h3 h, if_pos]
        exact Decidable.not_not.1 fun e => g (ha.2 e)
  rw [if_neg h2, if_neg h2]
  have h2' : p.getD 1 false = true := by simpa using h2
  by_cases h3 : p.length < 14
  · rw [if_pos h3, if_pos h3]
    exact ⟨fun _ => rfl, fun h => by simp [badW] at h⟩
  rw [if_neg h3, if_neg h3]
  by_cases h4 : 64 < num (cut p 2 6) + (num (cut p 8 6) + 1)
  · rw [if_pos h4]
    unfold tailX
    rw [if_pos (.inr h4)]
    exact ⟨fun _ => rfl, fun h => by simp [badW] at h⟩
  rw [if_neg h4]
  refine ⟨fun h => absurd rfl h, fun _ => ?_⟩
  have h5 := num_cut_lt p 2 6
  have hg : getX s p = tailX s p 14 (num (cut p 2 6)) (num (cut p 8 6) + 1) := by
    unfold getX
    rw [if_neg hl, h0, if_neg (show ¬ (true = false) by simp), if_neg h1, if_neg h2, if_neg h3]
  have ht := fun hl => new_test (s := s) (p := p) h0 h2' rfl rfl (Nat.le_of_not_lt h4) hl
  have hw := wordX_le p (h := 14) (Nat.le_of_not_lt h4)
  have ha := asks_new (s := s) (x := wordX p 14 (num (cut p 2 6)) (num (cut p 8 6) + 1)) (a := num (cut p 2 6)) (n := num (cut p 8 6) + 1) hs (by omega) (by omega) hw
  refine ⟨Nat.le_of_not_lt h4, by simp, by simp, by simp only; omega, fun h => ?_, fun h g => ?_, fun h g => ?_⟩
  · rw [hg]
    unfold tailX
    rw [if_neg (by omega), if_pos h]
  · rw [hg]
    unfold tailX
    simp only at h g
    rw [if_neg (by omega), if_neg (by omega), ht h, if_pos (ha.1 g)]
  · rw [hg]
    unfold tailX
    simp only at h g
    rw [if_neg (by omega), if_neg (by omega), ht h, if_neg (fun e => g (ha.2 e))]
theorem winX_lead {s : XS} {p : List Bool} (hs : s.May) : (winX s p).lead ≤ 63 ∧ (winX s p).len ≤ 64 ∧ (winX s p).head ≤ 14 ∧ (winX s p).e ≤ 3 := by
  have ha := hs.a
  have hb := hs.b
  have h5 := num_cut_lt p 2 6
  have h6 := num_cut_lt p 8 6
  unfold winX badW
  repeat' split
  all_goals (simp only; omega)

end Go.Proofs.YtnjohmgacmcdnaaDoor
