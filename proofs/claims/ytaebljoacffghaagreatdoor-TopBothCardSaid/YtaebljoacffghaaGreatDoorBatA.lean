/-
  Texts of this proof, one behind the other: Bat1, AskX, Quick1.
-/
import Derived.Test.YtaebljoacffghaaGreatDoorSlowP
import Derived.Test.YtaebljoacffghaaGreatDoorPlain

/-
  Plain facts (no program): some samples, one behind the other, out of bits: these, the state and the bits behind them, or what is amiss.
-/
namespace Go.Proofs.YtaebljoacffghaaGreatDoor

/-- n samples of bits, from a state on: up to the first error; the state behind them; the bits behind them, if there was none -/
def Bat (z : Int) : Nat → KS → List Bool → List (Int × Nat) → KS → List Bool → Nat → Prop
  | 0, s, p, xs, s', p', e => xs = [] ∧ s' = s ∧ p' = p ∧ e = 0
  | n + 1, s, p, xs, s', p', e => ∃ r, KG z s p r ∧ ((r.e ≠ 0 ∧ xs = [] ∧ s' = s ∧ e = r.e) ∨ (r.e = 0 ∧ ∃ ys, xs = (r.t, r.v) :: ys ∧ Bat z n r.s (p.drop r.n) ys s' p' e))
theorem Bat.same {z : Int} : ∀ {n : Nat} {s : KS} {p : List Bool} {xs xs' : List (Int × Nat)} {s1 s1' : KS} {p1 p1' : List Bool} {e e' : Nat}, Bat z n s p xs s1 p1 e → Bat z n s p xs' s1' p1' e' → xs = xs' ∧ s1 = s1' ∧ e = e' ∧ (e = 0 → p1 = p1')
  | 0, s, p, xs, xs', s1, s1', p1, p1', e, e', ⟨h1, h2, h3, h4⟩, ⟨g1, g2, g3, g4⟩ => ⟨h1.trans g1.symm, h2.trans g2.symm, h4.trans g4.symm, fun _ => h3.trans g3.symm⟩
  | n + 1, s, p, xs, xs', s1, s1', p1, p1', e, e', ⟨r, h1, h2⟩, ⟨r', h1', h2'⟩ => by
    obtain rfl := h1.same h1'
    rcases h2 with ⟨a, rfl, rfl, rfl⟩ | ⟨a, ys, rfl, b⟩ <;> rcases h2' with ⟨a', rfl, rfl, rfl⟩ | ⟨a', ys', rfl, b'⟩
    · exact ⟨rfl, rfl, rfl, fun h => absurd h a⟩
    · exact absurd a' a
    · exact absurd a a'
    · obtain ⟨rfl, rfl, rfl, h⟩ := b.same b'
      exact ⟨rfl, rfl, rfl, h⟩
theorem Bat.le {z : Int} : ∀ {n : Nat} {s : KS} {p : List Bool} {xs : List (Int × Nat)} {s1 : KS} {p1 : List Bool} {e : Nat}, s.May → Bat z n s p xs s1 p1 e →
    e ≤ 6 ∧ xs.length ≤ n ∧ s1.May ∧ s1.n = s.n + xs.length ∧ (∀ x ∈ xs, (-9223372036854775808 ≤ x.1 ∧ x.1 ≤ 9223372036854775807) ∧ x.2 ≤ 18446744073709551615) ∧ (e = 0 → xs.length = n ∧ ∃ k, p1 = p.drop k ∧ k ≤ p.length ∧ 2 * n ≤ k)
  | 0, s, p, xs, s1, p1, e, hs, ⟨h1, h2, h3, h4⟩ => by
    subst h1 h2 h3 h4
    exact ⟨by omega, by simp, hs, by simp, by simp, fun _ => ⟨rfl, 0, by simp, by omega, by omega⟩⟩
  | n + 1, s, p, xs, s1, p1, e, hs, ⟨r, h1, h2⟩ => by
    have hi := kg_in hs h1
    rcases h2 with ⟨a, rfl, rfl, rfl⟩ | ⟨a, ys, rfl, b⟩
    · exact ⟨hi.2.2.2.2.1, by simp, hs, by simp, by simp, fun h => absurd h a⟩
    · obtain ⟨g1, g2, g3, g4, g5, g6⟩ := Bat.le hi.2.2.1 b
      obtain ⟨i1, i2, i3⟩ := hi.2.2.2.2.2 a
      refine ⟨g1, by simp; omega, g3, by simp; omega, fun x hx => ?_, fun h => ?_⟩
      · rcases List.mem_cons.1 hx with rfl | hx
        · exact ⟨hi.1, hi.2.1⟩
        · exact g5 x hx
      · obtain ⟨j1, k, j2, j3, j4⟩ := g6 h
        rw [List.length_drop] at j3
        exact ⟨by simp [j1], r.n + k, by rw [j2, List.drop_drop], by omega, by omega⟩
/-- some, and then some more -/
theorem Bat.then_ {z : Int} : ∀ {n m : Nat} {s : KS} {p : List Bool} {xs ys : List (Int × Nat)} {s1 s2 : KS} {p1 p2 : List Bool} {e : Nat}, Bat z n s p xs s1 p1 0 → Bat z m s1 p1 ys s2 p2 e → Bat z (n + m) s p (xs ++ ys) s2 p2 e
  | 0, m, s, p, xs, ys, s1, s2, p1, p2, e, ⟨h1, h2, h3, _⟩, h => by
    subst h1 h2 h3
    rw [Nat.zero_add]
    exact h
  | n + 1, m, s, p, xs, ys, s1, s2, p1, p2, e, ⟨r, h1, h2⟩, h => by
    rcases h2 with ⟨a, _, _, h3⟩ | ⟨a, zs, rfl, b⟩
    · exact absurd h3.symm a
    · rw [show n + 1 + m = (n + m) + 1 by omega]
      exact ⟨r, h1, .inr ⟨a, zs ++ ys, rfl, b.then_ h⟩⟩
/-- some, up to an error: more are no others -/
theorem Bat.stop {z : Int} : ∀ {n : Nat} (m : Nat) {s : KS} {p : List Bool} {xs : List (Int × Nat)} {s1 : KS} {p1 : List Bool} {e : Nat}, Bat z n s p xs s1 p1 e → e ≠ 0 → Bat z (n + m) s p xs s1 p1 e
  | 0, m, s, p, xs, s1, p1, e, ⟨_, _, _, h⟩, he => absurd h he
  | n + 1, m, s, p, xs, s1, p1, e, ⟨r, h1, h2⟩, he => by
    rw [show n + 1 + m = (n + m) + 1 by omega]
    rcases h2 with h2 | ⟨a, zs, rfl, b⟩
    · exact ⟨r, h1, .inl h2⟩
    · exact ⟨r, h1, .inr ⟨a, zs, rfl, b.stop m he⟩⟩
/-- decoded: an error's -/
theorem Bat.dec_err {z : Int} : ∀ {n : Nat} {s : KS} {p : List Bool} {xs : List (Int × Nat)} {s1 : KS} {p1 : List Bool} {e : Nat}, Bat z n s p xs s1 p1 e → e ≠ 0 → Dec z n s p xs e
  | 0, s, p, xs, s1, p1, e, ⟨_, _, _, h⟩, he => absurd h he
  | n + 1, s, p, xs, s1, p1, e, ⟨r, h1, h2⟩, he => by
    rcases h2 with ⟨a, h2, _, h3⟩ | ⟨a, zs, rfl, b⟩
    · exact ⟨r, h1, .inl ⟨a, h2, h3⟩⟩
    · exact ⟨r, h1, .inr ⟨a, zs, rfl, b.dec_err he⟩⟩
/-- decoded: what is behind them tells -/
theorem Bat.dec_end {z : Int} : ∀ {n : Nat} {s : KS} {p : List Bool} {xs : List (Int × Nat)} {s1 : KS} {p1 : List Bool}, Bat z n s p xs s1 p1 0 → Dec z n s p xs (tailE p1)
  | 0, s, p, xs, s1, p1, ⟨h1, h2, h3, _⟩ => by
    subst h1 h2 h3
    exact ⟨rfl, rfl⟩
  | n + 1, s, p, xs, s1, p1, ⟨r, h1, h2⟩ => by
    rcases h2 with ⟨a, _, _, h3⟩ | ⟨a, zs, rfl, b⟩
    · exact absurd h3.symm a
    · exact ⟨r, h1, .inr ⟨a, zs, rfl, b.dec_end⟩⟩
/-- some samples were gone over, r are still to come -/
def GoneB (z : Int) (s0 : KS) (p0 : List Bool) (n : Nat) (xs : List (Int × Nat)) (r : Nat) (s : KS) (p : List Bool) : Prop :=
  ∀ ys s1 p1 e, Bat z r s p ys s1 p1 e → Bat z n s0 p0 (xs ++ ys) s1 p1 e
section
variable {z : Int} {s0 s : KS} {p0 p : List Bool} {n r : Nat} {xs : List (Int × Nat)}
theorem GoneB.zero (z : Int) (s : KS) (p : List Bool) (n : Nat) : GoneB z s p n [] n s p := fun _ _ _ _ h => h
theorem GoneB.step (h : GoneB z s0 p0 n xs (r + 1) s p) {g : KA} (hg : KG z s p g) (he : g.e = 0) : GoneB z s0 p0 n (xs ++ [(g.t, g.v)]) r g.s (p.drop g.n) := by
  intro ys s1 p1 e hd
  have := h ((g.t, g.v) :: ys) s1 p1 e ⟨g, hg, .inr ⟨he, ys, rfl, hd⟩⟩
  rw [List.append_assoc]
  exact this
theorem GoneB.err (h : GoneB z s0 p0 n xs (r + 1) s p) {g : KA} (hg : KG z s p g) (he : g.e ≠ 0) (p1 : List Bool) : Bat z n s0 p0 xs s p1 g.e := by
  have := h [] s p1 g.e ⟨g, hg, .inl ⟨he, rfl, rfl, rfl⟩⟩
  rwa [List.append_nil] at this
theorem GoneB.done (h : GoneB z s0 p0 n xs 0 s p) : Bat z n s0 p0 xs s p 0 := by
  have := h [] s p 0 ⟨rfl, rfl, rfl, rfl⟩
  rwa [List.append_nil] at this
end
/-- what Next comes to, whatever the kind and the number -/
def BatA (z : Int) (n : Int) (s : KS) (p : List Bool) (xs : List (Int × Nat)) (s1 : KS) (p1 : List Bool) (e : Nat) : Prop :=
  ((z ≠ 1 ∧ z ≠ 2) ∧ xs = [] ∧ s1 = s ∧ e = 6) ∨ ((z = 1 ∨ z = 2) ∧ Bat z (min n 32).toNat s p xs s1 p1 e)
theorem BatA.same {z n : Int} {s : KS} {p : List Bool} {xs xs' : List (Int × Nat)} {s1 s1' : KS} {p1 p1' : List Bool} {e e' : Nat} (h : BatA z n s p xs s1 p1 e) (h' : BatA z n s p xs' s1' p1' e') : xs = xs' ∧ s1 = s1' ∧ e = e' ∧ (e = 0 → p1 = p1') := by
  rcases h with ⟨h1, rfl, rfl, rfl⟩ | ⟨h1, h⟩ <;> rcases h' with ⟨h1', rfl, rfl, rfl⟩ | ⟨h1', h'⟩
  · exact ⟨rfl, rfl, rfl, fun h => absurd h (by omega)⟩
  · exact absurd h1' (by omega)
  · exact absurd h1 (by omega)
  · exact h.same h'

end Go.Proofs.YtaebljoacffghaaGreatDoor

/-
  Plain facts (no program): layer 7's answer, by asking for the code of the value that a window's bits tell.
-/
namespace Go.Proofs.YtaebljoacffghaaGreatDoor

/-- the window that bits behind a first 1 tell: where it begins, how many bits it has, how many bits of the code are ahead of these, an error's number -/
structure WA where
  lead : Nat
  len : Nat
  head : Nat
  e : Nat
def badW (e : Nat) : WA := ⟨0, 0, 0, e⟩
def winX (s : XS) (p : List Bool) : WA :=
  if p.length = 1 then badW 2 else if p.getD 1 false = false then (if s.len = 0 then badW 3 else ⟨s.lead, s.len, 2, 0⟩)
  else if p.length < 14 then badW 2 else if 64 < num (cut p 2 6) + (num (cut p 8 6) + 1) then badW 3 else ⟨num (cut p 2 6), num (cut p 8 6) + 1, 14, 0⟩
/-- is the code of the value that is another one in x so long, by that window? -/
def asksX (s : XS) (a n h x : Nat) : Prop := ((nextX s (s.prev ^^^ x)).lead = a ∧ (nextX s (s.prev ^^^ x)).len = n) ∧ (codeX s (s.prev ^^^ x)).length = h + n
instance (s : XS) (a n h x : Nat) : Decidable (asksX s a n h x) := by unfold asksX; infer_instance
theorem asks_old {s : XS} {x : Nat} (hs : s.May) (hn : s.len ≠ 0) (h1 : x < 2 ^ (64 - s.lead)) (h2 : x ≤ 18446744073709551615) (h3 : 2 ^ (64 - s.lead - s.len) ∣ x) : asksX s s.lead s.len 2 x ↔ x ≠ 0 := by
  have hb := hs.b
  unfold asksX codeX nextX
  rw [xor_back]
  constructor
  · rintro ⟨_, h⟩ rfl
    unfold codeOf at h
    rw [if_pos rfl] at h
    simp at h
    omega
  · intro h
    have hf : fitsX s x := ⟨by omega, lz_ge h2 (by omega) h1, tz_ge h2 h h3⟩
    unfold nextOf codeOf
    rw [if_pos (.inr hf), if_neg h, if_pos hf, oldX_length hs]
    exact ⟨⟨rfl, rfl⟩, rfl⟩
theorem asks_new {s : XS} {x a n : Nat} (hs : s.May) (ha : a ≤ 63) (hn : 1 ≤ n) (h2 : x ≤ 18446744073709551615) : asksX s a n 14 x ↔ lzN x = a ∧ szN x = n ∧ ¬ fitsX s x := by
  unfold asksX codeX nextX
  rw [xor_back]
  by_cases h : x = 0
  · subst h
    constructor
    · rintro ⟨_, h⟩
      unfold codeOf at h
      rw [if_pos rfl] at h
      simp at h
      omega
    · rintro ⟨h, _⟩
      rw [lz_zero] at h
      omega
  · by_cases hf : fitsX s x
    · constructor
      · rintro ⟨⟨_, h4⟩, h5⟩
        unfold nextOf at h4
        unfold codeOf at h5
        rw [if_pos (.inr hf)] at h4
        rw [if_neg h, if_pos hf, oldX_length hs] at h5
        simp only at h4
        omega
      · rintro ⟨_, _, h4⟩
        exact absurd hf h4
    · unfold nextOf codeOf
      rw [if_neg (fun e => e.elim h hf), if_neg h, if_neg hf, newX_length h2 h]
      simp only
      constructor
      · rintro ⟨⟨h4, h5⟩, _⟩
        exact ⟨h4, h5, hf⟩
      · rintro ⟨h4, h5, _⟩
        exact ⟨⟨h4, h5⟩, by omega⟩
/-- what bits begin with, by the window that they tell -/
structure WinIs (s : XS) (p : List Bool) (r : WA) : Prop where
  in_ : r.lead + r.len ≤ 64
  pos : 1 ≤ r.len
  head : 2 ≤ r.head ∧ r.head ≤ 14
  fit : r.head ≤ p.length
  short : p.length < r.head + r.len → getX s p = badX 2
  yes : r.head + r.len ≤ p.length → asksX s r.lead r.len r.head (wordX p r.head r.lead r.len) → getX s p = ⟨s.prev ^^^ wordX p r.head r.lead r.len, ⟨s.prev ^^^ wordX p r.head r.lead r.len, r.lead, r.len⟩, r.head + r.len, 0⟩
  no : r.head + r.len ≤ p.length → ¬ asksX s r.lead r.len r.head (wordX p r.head r.lead r.len) → getX s p = badX 3
theorem getX_win {s : XS} {p : List Bool} (hs : s.May) (hl : p.length ≠ 0) (h0 : p.getD 0 false = true) : ((winX s p).e ≠ 0 → getX s p = badX (winX s p).e) ∧ ((winX s p).e = 0 → WinIs s p (winX s p)) := by
  have hb := hs.b
  unfold winX getX
  rw [if_neg hl, h0, if_neg (show ¬ (true = false) by simp)]
  by_cases h1 : p.length = 1
  · rw [if_pos h1, if_pos h1]
    exact ⟨fun _ => rfl, fun h => by simp [badW] at h⟩
  rw [if_neg h1, if_neg h1]
  by_cases h2 : p.getD 1 false = false
  · rw [if_pos h2, if_pos h2]
    by_cases h3 : s.len = 0
    · rw [if_pos h3]
      unfold tailX
      rw [if_pos (.inl h3)]
      exact ⟨fun _ => rfl, fun h => by simp [badW] at h⟩
    · rw [if_neg h3]
      refine ⟨fun h => absurd rfl h, fun _ => ?_⟩
      have hw := word_in (y := num (cut p 2 s.len)) hs.b (num_cut_lt p 2 s.len)
      have ha := asks_old (x := wordX p 2 s.lead s.len) hs h3 hw.1 hw.2.1 hw.2.2.1
      have hg : getX s p = tailX s p 2 s.lead s.len := by
        unfold getX
        rw [if_neg hl, h0, if_neg (show ¬ (true = false) by simp), if_neg h1, if_pos h2]
      refine ⟨hs.b, by simp only; omega, by simp, by simp only; omega, fun h => ?_, fun h g => ?_, fun h g => ?_⟩
      · rw [hg]
        unfold tailX
        rw [if_neg (by omega), if_pos h]
      · rw [hg]
        unfold tailX
        simp only at h g
        rw [if_neg (by omega), if_neg (by omega), old_test hs h0 h2 h3 h, if_neg (ha.1 g)]
      · rw [hg]
        unfold tailX
        simp only at h g
        rw [if_neg (by omega), if_neg (by omega), old_test hs h0 h2 h3 h, if_pos]
        exact Decidable.not_not.1 fun e => g (ha.2 e)
  rw [if_neg h2, if_neg h2]
  have h2' : p.getD 1 false = true := by simpa using h2
  by_cases h3 : p.length < 14
  · rw [if_pos h3, if_pos h3]
    exact ⟨fun _ => rfl, fun h => by simp [badW] at h⟩
  rw [if_neg h3, if_neg h3]
  by_cases h4 : 64 < num (cut p 2 6) + (num (cut p 8 6) + 1)
  · rw [if_pos h4]
    unfold tailX
    rw [if_pos (.inr h4)]
    exact ⟨fun _ => rfl, fun h => by simp [badW] at h⟩
  rw [if_neg h4]
  refine ⟨fun h => absurd rfl h, fun _ => ?_⟩
  have h5 := num_cut_lt p 2 6
  have hg : getX s p = tailX s p 14 (num (cut p 2 6)) (num (cut p 8 6) + 1) := by
    unfold getX
    rw [if_neg hl, h0, if_neg (show ¬ (true = false) by simp), if_neg h1, if_neg h2, if_neg h3]
  have ht := fun hl => new_test (s := s) (p := p) h0 h2' rfl rfl (Nat.le_of_not_lt h4) hl
  have hw := wordX_le p (h := 14) (Nat.le_of_not_lt h4)
  have ha := asks_new (s := s) (x := wordX p 14 (num (cut p 2 6)) (num (cut p 8 6) + 1)) (a := num (cut p 2 6)) (n := num (cut p 8 6) + 1) hs (by omega) (by omega) hw
  refine ⟨Nat.le_of_not_lt h4, by simp, by simp, by simp only; omega, fun h => ?_, fun h g => ?_, fun h g => ?_⟩
  · rw [hg]
    unfold tailX
    rw [if_neg (by omega), if_pos h]
  · rw [hg]
    unfold tailX
    simp only at h g
    rw [if_neg (by omega), if_neg (by omega), ht h, if_pos (ha.1 g)]
  · rw [hg]
    unfold tailX
    simp only at h g
    rw [if_neg (by omega), if_neg (by omega), ht h, if_neg (fun e => g (ha.2 e))]
theorem winX_lead {s : XS} {p : List Bool} (hs : s.May) : (winX s p).lead ≤ 63 ∧ (winX s p).len ≤ 64 ∧ (winX s p).head ≤ 14 ∧ (winX s p).e ≤ 3 := by
  have ha := hs.a
  have hb := hs.b
  have h5 := num_cut_lt p 2 6
  have h6 := num_cut_lt p 8 6
  unfold winX badW
  repeat' split
  all_goals (simp only; omega)

end Go.Proofs.YtaebljoacffghaaGreatDoor

/-
  Plain facts (no program): many samples in batches, one batch behind the other: what all of them come to.
-/
namespace Go.Proofs.YtaebljoacffghaaGreatDoor

/-- j samples were gone over, without an error -/
structure AtQ (z : Int) (p0 : List Bool) (j : Nat) (xs : List (Int × Nat)) (s : KS) (p : List Bool) : Prop where
  bat : Bat z j zeroK p0 xs s p 0
  kind : j = 0 ∨ z = 1 ∨ z = 2
theorem AtQ.zero (z : Int) (p : List Bool) : AtQ z p 0 [] zeroK p := ⟨⟨rfl, rfl, rfl, rfl⟩, .inl rfl⟩
section
variable {z : Int} {p0 p : List Bool} {n j : Nat} {xs ys : List (Int × Nat)} {s s1 : KS} {p1 : List Bool} {e : Nat}
theorem AtQ.same_len (h : AtQ z p0 j xs s p) : xs.length = j ∧ s.May ∧ s.n = j := by
  obtain ⟨_, _, h3, h4, _, h6⟩ := Bat.le zeroK_may h.bat
  have := (h6 rfl).1
  refine ⟨this, h3, ?_⟩
  rw [h4, this]
  simp [zeroK]
/-- up to an error -/
theorem AtQ.err (h : AtQ z p0 j xs s p) (hj : j < n) (hb : BatA z ((n : Int) - (j : Int)) s p ys s1 p1 e) (he : e ≠ 0) : Dec z n zeroK p0 (xs ++ ys) e := by
  rcases hb with ⟨h1, rfl, rfl, rfl⟩ | ⟨_, hb⟩
  · have hj0 : j = 0 := by have := h.kind; omega
    subst hj0
    obtain ⟨rfl, rfl, rfl, _⟩ := h.bat
    obtain ⟨m, rfl⟩ : ∃ m, n = m + 1 := ⟨n - 1, by omega⟩
    exact ⟨badK 6, .inl ⟨h1, rfl⟩, .inl ⟨by simp [badK], rfl, rfl⟩⟩
  · generalize hk : (min ((n : Int) - (j : Int)) 32).toNat = k at hb
    have h2 := (h.bat.then_ hb).stop (n - (j + k)) he
    rw [show j + k + (n - (j + k)) = n by omega] at h2
    exact h2.dec_err he
/-- some more -/
theorem AtQ.more (h : AtQ z p0 j xs s p) (hj : j < n) (hb : BatA z ((n : Int) - (j : Int)) s p ys s1 p1 0) : AtQ z p0 (j + ys.length) (xs ++ ys) s1 p1 ∧ 1 ≤ ys.length ∧ j + ys.length ≤ n := by
  rcases hb with ⟨_, _, _, h4⟩ | ⟨hz, hb⟩
  · cases h4
  · have hl := ((Bat.le h.same_len.2.1 hb).2.2.2.2.2 rfl).1
    generalize hk : (min ((n : Int) - (j : Int)) 32).toNat = k at hb hl
    subst hl
    exact ⟨⟨h.bat.then_ hb, .inr hz⟩, by omega, by omega⟩
theorem AtQ.done (h : AtQ z p0 n xs s p) : Dec z n zeroK p0 xs (tailE p) := h.bat.dec_end
end

end Go.Proofs.YtaebljoacffghaaGreatDoor
