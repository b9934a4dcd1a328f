/-
  Texts of this proof, one behind the other: KinG, Slow1, Slow2.
-/
import Derived.Test.YtaebljoacffghaaGreatDoorPlain

/-
  Plain facts (no program): what bits begin with, for any kind.
-/
namespace Go.Proofs.YtaebljoacffghaaGreatDoor

theorem known_is {z : Int} (h : ¬ (z ≠ 1 ∧ z ≠ 2)) : ∃ k : Nat, z = (k : Int) ∧ (k = 1 ∨ k = 2) := by
  refine ⟨z.toNat, ?_, ?_⟩ <;> omega
/-- what bits begin with, for any kind -/
def KG (z : Int) (s : KS) (p : List Bool) (r : KA) : Prop := ((z ≠ 1 ∧ z ≠ 2) ∧ r = badK 6) ∨ ∃ k : Nat, z = (k : Int) ∧ (k = 1 ∨ k = 2) ∧ KGets k s p r
theorem KG.same {z : Int} {s : KS} {p : List Bool} {r r' : KA} (h : KG z s p r) (h' : KG z s p r') : r = r' := by
  rcases h with ⟨h1, rfl⟩ | ⟨k, rfl, hk, h⟩
  · rcases h' with ⟨_, rfl⟩ | ⟨k, rfl, hk, _⟩
    · rfl
    · exact absurd h1 (by omega)
  · rcases h' with ⟨h1, _⟩ | ⟨k', hk', _, h'⟩
    · exact absurd h1 (by omega)
    · have : k = k' := by omega
      subst this
      exact h.same h'
theorem kg_in {z : Int} {s : KS} {p : List Bool} {r : KA} (hs : s.May) (h : KG z s p r) :
    (-9223372036854775808 ≤ r.t ∧ r.t ≤ 9223372036854775807) ∧ r.v ≤ 18446744073709551615 ∧ r.s.May ∧ r.n ≤ 146 ∧ r.e ≤ 6 ∧ (r.e = 0 → r.n ≤ p.length ∧ r.s.n = s.n + 1 ∧ 2 ≤ r.n) := by
  rcases h with ⟨_, rfl⟩ | ⟨k, _, _, h⟩
  · exact ⟨by simp [badK], by simp [badK], zeroK_may, by simp [badK], by simp [badK], fun h => by simp [badK] at h⟩
  · have := kgets_in hs h
    exact ⟨this.1, this.2.1, this.2.2.1, this.2.2.2.1, by omega, this.2.2.2.2.2⟩

end Go.Proofs.YtaebljoacffghaaGreatDoor

/-
  Plain facts (no program): many samples, one behind the other, out of bits; what was put is got, what is got, put, is those bits.
-/
namespace Go.Proofs.YtaebljoacffghaaGreatDoor

/-- what bits begin with, without an error, are that sample's own -/
theorem kgets_back {k : Nat} {s : KS} {p : List Bool} {r : KA} (hs : s.May) (h : KGets k s p r) (he : r.e = 0) :
    p.take r.n = putK k s r.t r.v ∧ risesK s r.t = true ∧ r.s = nextK k s r.t r.v := by
  rcases h with ⟨h0, rfl⟩ | ⟨h0, st, n, e, v, y, m, e2, h1, h2, rfl⟩
  · unfold firstK at he ⊢
    by_cases hl : p.length < 128
    · rw [if_pos hl] at he
      simp [badK] at he
    · rw [if_neg hl]
      have l1 : (cut p 0 64).length = 64 := cut_length _ _ _ (by omega)
      have l2 : (cut p 64 64).length = 64 := cut_length _ _ _ (by omega)
      have hx := num_cut_lt p 0 64
      have e1 : un64 (sgnN (num (cut p 0 64)) 64) = num (cut p 0 64) := by
        have := un64_sgn (num (cut p 0 64)) (k := 4) (by omega)
        have h5 := un64_lt (sgnN (num (cut p 0 64)) 64)
        have r4 : roomN 4 = 64 := rfl
        rw [r4] at this
        rw [Nat.mod_eq_of_lt (by omega), Nat.mod_eq_of_lt hx] at this
        exact this
      refine ⟨?_, ?_, ?_⟩
      · show p.take 128 = putK k s _ _
        unfold putK timeK valK
        rw [if_pos h0, if_pos h0, e1, low_num _ l1, low_num _ l2]
        unfold cut
        rw [List.drop_zero, show (128 : Nat) = 64 + 64 from rfl, List.take_add]
      · unfold risesK
        simp [h0]
      · unfold nextK afterK
        rw [if_pos h0, if_pos h0]
  · unfold laterK at he ⊢
    by_cases c1 : e ≠ 0
    · rw [if_pos c1] at he
      simp [badK] at he
      exact absurd he c1
    · rw [if_neg c1] at he ⊢
      by_cases c2 : e2 ≠ 0
      · rw [if_pos c2] at he
        simp [badK] at he
        exact absurd he c2
      · rw [if_neg c2] at he ⊢
        by_cases c3 : w64 (s.t + s.d + st) ≤ s.t
        · rw [if_pos c3] at he
          simp [badK] at he
        · rw [if_neg c3]
          have z1 : e = 0 := by omega
          have z2 : e2 = 0 := by omega
          subst z1 z2
          obtain ⟨hst, _⟩ := gets_in h1
          obtain ⟨b1, b2⟩ := dgets_back h1
          have g1 := hs.t
          have g2 := hs.d
          have e3 : stepT s (w64 (s.t + s.d + st)) = st := by unfold stepT w64; omega
          have hv : valK k s v = (p.drop n).take m ∧ afterK k s (w64 (s.t + s.d + st)) v y = nextK k s (w64 (s.t + s.d + st)) v := by
            unfold VGets at h2
            unfold valK nextK afterK
            rw [if_neg h0, if_neg h0, if_neg h0]
            split at h2
            · rename_i hk
              obtain ⟨rfl, rfl, rfl, h3⟩ := h2
              obtain ⟨q1, q2, _⟩ := getX_back h3.symm
              rw [if_pos hk, if_pos hk, if_pos hk, if_pos hk, q2]
              exact ⟨q1, rfl⟩
            · rename_i hk
              obtain ⟨st2, h3, rfl, rfl⟩ := h2
              obtain ⟨hst2, _⟩ := gets_in h3
              obtain ⟨q1, _⟩ := dgets_back h3
              have g3 := hs.v
              have g4 := hs.e
              have e4 : stepE s (un64 ((s.v : Int) + (s.e : Int) + st2)) = st2 := by
                unfold stepE
                rw [un64_cast]
                unfold w64
                omega
              rw [if_neg hk, if_neg hk, if_neg hk, if_neg hk, e4]
              exact ⟨q1, rfl⟩
          refine ⟨?_, ?_, hv.2⟩
          · show p.take (n + m) = putK k s _ _
            unfold putK timeK
            rw [if_neg h0, e3, hv.1, b1, List.take_add]
          · unfold risesK
            simp only [Bool.or_eq_true]
            exact .inr (decide_eq_true (by omega))

/-- samples' bits from a state on, and the state behind them -/
def bitsS (k : Nat) : KS → List (Int × Nat) → List Bool
  | _, [] => []
  | s, x :: r => putK k s x.1 x.2 ++ bitsS k (nextK k s x.1 x.2) r
def stS (k : Nat) : KS → List (Int × Nat) → KS
  | s, [] => s
  | s, x :: r => stS k (nextK k s x.1 x.2) r
theorem bitsS_snoc (k : Nat) : ∀ (xs : List (Int × Nat)) (s : KS) (x : Int × Nat), bitsS k s (xs ++ [x]) = bitsS k s xs ++ putK k (stS k s xs) x.1 x.2 ∧ stS k s (xs ++ [x]) = nextK k (stS k s xs) x.1 x.2
  | [], s, x => by simp [bitsS, stS]
  | y :: r, s, x => by
    obtain ⟨h1, h2⟩ := bitsS_snoc k r (nextK k s y.1 y.2) x
    simp only [List.cons_append, bitsS, stS, h1, h2, List.append_assoc, and_self]
theorem take_snocQ (xs : List (Int × Nat)) {j : Nat} (h : j < xs.length) : xs.take (j + 1) = xs.take j ++ [xs.getD j (0, 0)] := by
  rw [List.take_succ_eq_append_getElem h]
  simp [List.getD_eq_getElem?_getD, h]
theorem bitsS_is (k : Nat) (xs : List (Int × Nat)) : ∀ j, j ≤ xs.length → bitsS k zeroK (xs.take j) = cdK k xs j ∧ stS k zeroK (xs.take j) = stK k xs j
  | 0, _ => by simp [bitsS, stS, cdK, stK]
  | j + 1, h => by
    obtain ⟨h1, h2⟩ := bitsS_is k xs j (by omega)
    obtain ⟨g1, g2⟩ := bitsS_snoc k (xs.take j) zeroK (xs.getD j (0, 0))
    rw [take_snocQ xs (by omega), g1, g2, h1, h2]
    exact ⟨rfl, rfl⟩
theorem bitsS_all (k : Nat) (xs : List (Int × Nat)) : bitsS k zeroK xs = cdK k xs xs.length := by
  have := (bitsS_is k xs xs.length (Nat.le_refl _)).1
  rwa [List.take_length] at this

/-- what is amiss with bits behind the last sample -/
def tailE (p : List Bool) : Nat := if p.length < 8 ∧ num p = 0 then 0 else 3
/-- n samples of bits, from a state on: up to the first error -/
def Dec (z : Int) : Nat → KS → List Bool → List (Int × Nat) → Nat → Prop
  | 0, _, p, xs, e => xs = [] ∧ e = tailE p
  | n + 1, s, p, xs, e => ∃ r, KG z s p r ∧ ((r.e ≠ 0 ∧ xs = [] ∧ e = r.e) ∨ (r.e = 0 ∧ ∃ ys, xs = (r.t, r.v) :: ys ∧ Dec z n r.s (p.drop r.n) ys e))
theorem Dec.same {z : Int} : ∀ {n : Nat} {s : KS} {p : List Bool} {xs xs' : List (Int × Nat)} {e e' : Nat}, Dec z n s p xs e → Dec z n s p xs' e' → xs = xs' ∧ e = e'
  | 0, s, p, xs, xs', e, e', h, h' => ⟨h.1.trans h'.1.symm, h.2.trans h'.2.symm⟩
  | n + 1, s, p, xs, xs', e, e', ⟨r, h1, h2⟩, ⟨r', h1', h2'⟩ => by
    obtain rfl := h1.same h1'
    rcases h2 with ⟨a, rfl, rfl⟩ | ⟨a, ys, rfl, b⟩ <;> rcases h2' with ⟨a', rfl, rfl⟩ | ⟨a', ys', rfl, b'⟩
    · exact ⟨rfl, rfl⟩
    · exact absurd a' a
    · exact absurd a a'
    · obtain ⟨rfl, rfl⟩ := b.same b'
      exact ⟨rfl, rfl⟩
theorem tailE_le (p : List Bool) : tailE p ≤ 3 := by unfold tailE; split <;> omega
theorem Dec.le {z : Int} : ∀ {n : Nat} {s : KS} {p : List Bool} {xs : List (Int × Nat)} {e : Nat}, s.May → Dec z n s p xs e → e ≤ 6 ∧ xs.length ≤ n ∧ ∀ x ∈ xs, (-9223372036854775808 ≤ x.1 ∧ x.1 ≤ 9223372036854775807) ∧ x.2 ≤ 18446744073709551615
  | 0, s, p, xs, e, _, ⟨h1, h2⟩ => by
    subst h1 h2
    have := tailE_le p
    exact ⟨by omega, by simp, by simp⟩
  | n + 1, s, p, xs, e, hs, ⟨r, h1, h2⟩ => by
    have hi := kg_in hs h1
    rcases h2 with ⟨a, rfl, rfl⟩ | ⟨a, ys, rfl, b⟩
    · exact ⟨hi.2.2.2.2.1, by simp, by simp⟩
    · obtain ⟨g1, g2, g3⟩ := Dec.le hi.2.2.1 b
      refine ⟨g1, by simp; omega, fun x hx => ?_⟩
      rcases List.mem_cons.1 hx with rfl | hx
      · exact ⟨hi.1, hi.2.1⟩
      · exact g3 x hx
/-- the times rise, from a state on -/
def RiseS (k : Nat) : KS → List (Int × Nat) → Prop
  | _, [] => True
  | s, x :: r => risesK s x.1 = true ∧ RiseS k (nextK k s x.1 x.2) r
/-- what is decoded without an error, put, is those bits -/
theorem Dec.back {k : Nat} {z : Int} (hz : z = (k : Int)) : ∀ {n : Nat} {s : KS} {p : List Bool} {xs : List (Int × Nat)}, s.May → Dec z n s p xs 0 → (n = 0 ∨ k = 1 ∨ k = 2) ∧ xs.length = n ∧ RiseS k s xs ∧ ∃ t, p = bitsS k s xs ++ t ∧ t.length < 8 ∧ num t = 0
  | 0, s, p, xs, _, ⟨h1, h2⟩ => by
    subst h1
    refine ⟨.inl rfl, rfl, trivial, p, rfl, ?_⟩
    unfold tailE at h2
    split at h2
    · assumption
    · cases h2
  | n + 1, s, p, xs, hs, ⟨r, h1, h2⟩ => by
    rcases h2 with ⟨a, rfl, h3⟩ | ⟨a, ys, rfl, b⟩
    · exact absurd h3.symm a
    · have hi := kg_in hs h1
      obtain ⟨_, g2, g3, t, g4, g5⟩ := Dec.back hz hi.2.2.1 b
      rcases h1 with ⟨_, rfl⟩ | ⟨k', hk', hk, h1⟩
      · simp [badK] at a
      · obtain rfl : k = k' := by omega
        obtain ⟨q1, q2, q3⟩ := kgets_back hs h1 a
        rw [q3] at g3 g4
        refine ⟨.inr hk, by simp [g2], ⟨q2, g3⟩, t, ?_, g5⟩
        show p = (putK k s r.t r.v ++ bitsS k (nextK k s r.t r.v) ys) ++ t
        rw [List.append_assoc, ← g4, ← q1, List.take_append_drop]
/-- what was put is decoded -/
theorem dec_put {k : Nat} (hk : k = 1 ∨ k = 2) (t : List Bool) : ∀ (xs : List (Int × Nat)) (s : KS), s.May → (∀ x ∈ xs, (-9223372036854775808 ≤ x.1 ∧ x.1 ≤ 9223372036854775807) ∧ x.2 ≤ 18446744073709551615) → RiseS k s xs → Dec (k : Int) xs.length s (bitsS k s xs ++ t) xs (tailE t)
  | [], s, _, _, _ => ⟨rfl, rfl⟩
  | x :: r, s, hs, hx, ⟨h1, h2⟩ => by
    have hx0 := hx x (List.mem_cons_self ..)
    have := kgets_put (k := k) hs hx0.1 hx0.2 h1 (bitsS k (nextK k s x.1 x.2) r ++ t)
    refine ⟨_, .inr ⟨k, rfl, hk, by show KGets k s ((putK k s x.1 x.2 ++ bitsS k (nextK k s x.1 x.2) r) ++ t) _; rw [List.append_assoc]; exact this⟩, .inr ⟨rfl, r, rfl, ?_⟩⟩
    show Dec (k : Int) r.length (nextK k s x.1 x.2) (((putK k s x.1 x.2 ++ bitsS k (nextK k s x.1 x.2) r) ++ t).drop (putK k s x.1 x.2).length) r (tailE t)
    rw [List.append_assoc, List.drop_left]
    exact dec_put hk t r _ (nextK_may hs hx0.1 hx0.2) (fun y hy => hx y (List.mem_cons_of_mem _ hy)) h2
theorem nextK_t (k : Nat) (s : KS) (t : Int) (v : Nat) : (nextK k s t v).t = t ∧ (nextK k s t v).n ≠ 0 := by
  unfold nextK
  rw [afterK_t, afterK_n]
  exact ⟨rfl, by omega⟩
/-- rising, told both ways -/
theorem riseS_of {k : Nat} : ∀ {xs : List (Int × Nat)} {s : KS}, Rises xs → (∀ x, xs.head? = some x → risesK s x.1 = true) → RiseS k s xs
  | [], s, _, _ => trivial
  | x :: r, s, h, h0 => by
    refine ⟨h0 x rfl, riseS_of (fun i hi => ?_) (fun y hy => ?_)⟩
    · have := h (i + 1) (by simp; omega)
      simpa using this
    · have := nextK_t k s x.1 x.2
      unfold risesK
      rw [this.1, Bool.or_eq_true]
      refine .inr (decide_eq_true ?_)
      cases r with
      | nil => cases hy
      | cons y' r' =>
        injection hy with hy
        subst hy
        have := h 0 (by simp)
        simpa using this
theorem of_riseS {k : Nat} : ∀ {xs : List (Int × Nat)} {s : KS}, RiseS k s xs → Rises xs
  | [], s, _ => fun i hi => absurd hi (by simp)
  | x :: r, s, ⟨_, h⟩ => by
    intro i hi
    cases i with
    | zero =>
      cases r with
      | nil => simp at hi
      | cons y r' =>
        have h1 := h.1
        unfold risesK at h1
        rw [(nextK_t k s x.1 x.2).1, Bool.or_eq_true] at h1
        rcases h1 with h1 | h1
        · exact absurd (of_decide_eq_true h1) (nextK_t k s x.1 x.2).2
        · simpa using of_decide_eq_true h1
    | succ i =>
      have := of_riseS h i (by simpa using hi)
      simpa using this
/-- what was encoded is decoded, with bits behind it -/
theorem dec_encoded {k : Nat} (hk : k = 1 ∨ k = 2) {xs : List (Int × Nat)} (hx : AllQ xs) (hr : Rises xs) (t : List Bool) : Dec (k : Int) xs.length zeroK (cdK k xs xs.length ++ t) xs (tailE t) := by
  rw [← bitsS_all]
  refine dec_put hk t xs zeroK zeroK_may (fun x hx' => ?_) (riseS_of hr (fun x _ => by simp [risesK, zeroK]))
  obtain ⟨i, hi, rfl⟩ := List.getElem_of_mem hx'
  have := hx i
  simpa [List.getD_eq_getElem?_getD, hi] using this
/-- what is decoded without an error, encoded, is those bits -/
theorem decoded_enc {z : Int} {n : Nat} {p : List Bool} {xs : List (Int × Nat)} (h : Dec z n zeroK p xs 0) (hn : n ≠ 0) : xs.length = n ∧ Rises xs ∧ ∃ k : Nat, z = (k : Int) ∧ (k = 1 ∨ k = 2) ∧ ∃ t, p = cdK k xs n ++ t ∧ t.length < 8 ∧ num t = 0 := by
  obtain ⟨m, rfl⟩ : ∃ m, n = m + 1 := ⟨n - 1, by omega⟩
  obtain ⟨k, hz⟩ : ∃ k : Nat, z = (k : Int) := by
    obtain ⟨r, h1, h2⟩ := h
    rcases h1 with ⟨_, rfl⟩ | ⟨k, hk, _⟩
    · rcases h2 with ⟨_, _, h2⟩ | ⟨h2, _⟩
      · simp [badK] at h2
      · simp [badK] at h2
    · exact ⟨k, hk⟩
  obtain ⟨h1, h2, h3, t, h4, h5⟩ := Dec.back hz zeroK_may h
  have hl := bitsS_all k xs
  rw [h2] at hl
  exact ⟨h2, of_riseS h3, k, hz, by omega, t, by rw [h4, hl], h5⟩
/-- the bytes of bits that fill up with 0s are those bytes -/
theorem pack_filled {bs : List Nat} (hb : ∀ x ∈ bs, x < 256) {p t : List Bool} (h : flat bs = p ++ t) (ht : t.length < 8) (h0 : num t = 0) : pack p = bs := by
  have hl := congrArg List.length h
  rw [flat_length, List.length_append] at hl
  refine (eq_pack hb (by omega) fun i hi => ?_).symm
  rw [← flat_getD, h, getB_app]
  split
  · rfl
  · rename_i hn
    have h1 := num_testBit t (t.length - 1 - (i - p.length))
    rw [h0, Nat.zero_testBit] at h1
    have h2 : t.length - 1 - (t.length - 1 - (i - p.length)) = i - p.length := by omega
    rw [h2, decide_eq_true (by omega), Bool.true_and] at h1
    rw [← h1, List.getD_eq_getElem?_getD, List.getElem?_eq_none (by omega)]
    rfl

end Go.Proofs.YtaebljoacffghaaGreatDoor

/-
  Plain facts (no program): decoding, sample by sample: what was gone over, and what is still to come.
-/
namespace Go.Proofs.YtaebljoacffghaaGreatDoor

/-- what decoding of n samples from bytes comes to, whatever the kind and the number -/
def DecA (z : Int) (bs : List Nat) (n : Int) (xs : List (Int × Nat)) (e : Nat) : Prop :=
  ((n < 1 ∨ 65535 < n) ∧ xs = [] ∧ e = 1) ∨ ((1 ≤ n ∧ n ≤ 65535) ∧ Dec z n.toNat zeroK (flat bs) xs e)
theorem DecA.same {z n : Int} {bs : List Nat} {xs xs' : List (Int × Nat)} {e e' : Nat} (h : DecA z bs n xs e) (h' : DecA z bs n xs' e') : xs = xs' ∧ e = e' := by
  rcases h with ⟨h1, rfl, rfl⟩ | ⟨h1, h2⟩
  · rcases h' with ⟨_, rfl, rfl⟩ | ⟨h1', _⟩
    · exact ⟨rfl, rfl⟩
    · exact absurd h1' (by omega)
  · rcases h' with ⟨h1', _⟩ | ⟨_, h2'⟩
    · exact absurd h1 (by omega)
    · exact h2.same h2'
theorem DecA.le {z n : Int} {bs : List Nat} {xs : List (Int × Nat)} {e : Nat} (h : DecA z bs n xs e) : e ≤ 6 := by
  rcases h with ⟨_, rfl, rfl⟩ | ⟨_, h⟩
  · omega
  · exact (Dec.le zeroK_may h).1
theorem DecA.many {z n : Int} {bs : List Nat} {xs : List (Int × Nat)} {e : Nat} (h : DecA z bs n xs e) : xs.length ≤ 100000 := by
  rcases h with ⟨_, rfl, rfl⟩ | ⟨h0, h⟩
  · simp
  · have := (Dec.le zeroK_may h).2.1
    omega
/-- some samples were gone over, r are still to come, from a state on -/
def GoneD (z : Int) (p0 : List Bool) (n : Nat) (xs : List (Int × Nat)) (r : Nat) (s : KS) (p : List Bool) : Prop :=
  ∀ ys e, Dec z r s p ys e → Dec z n zeroK p0 (xs ++ ys) e
section
variable {z : Int} {p0 p : List Bool} {n r : Nat} {xs : List (Int × Nat)} {s : KS}
theorem GoneD.zero (z : Int) (p : List Bool) (n : Nat) : GoneD z p n [] n zeroK p := fun _ _ h => h
theorem GoneD.step (h : GoneD z p0 n xs (r + 1) s p) {g : KA} (hg : KG z s p g) (he : g.e = 0) : GoneD z p0 n (xs ++ [(g.t, g.v)]) r g.s (p.drop g.n) := by
  intro ys e hd
  have := h ((g.t, g.v) :: ys) e ⟨g, hg, .inr ⟨he, ys, rfl, hd⟩⟩
  rw [List.append_assoc]
  exact this
theorem GoneD.err (h : GoneD z p0 n xs (r + 1) s p) {g : KA} (hg : KG z s p g) (he : g.e ≠ 0) : Dec z n zeroK p0 xs g.e := by
  have := h [] g.e ⟨g, hg, .inl ⟨he, rfl, rfl⟩⟩
  rwa [List.append_nil] at this
theorem GoneD.done (h : GoneD z p0 n xs 0 s p) : Dec z n zeroK p0 xs (tailE p) := by
  have := h [] _ ⟨rfl, rfl⟩
  rwa [List.append_nil] at this
theorem tailE_zero (p : List Bool) : tailE p = 0 ∨ tailE p = 3 := by unfold tailE; split; exact .inl rfl; exact .inr rfl
theorem tailE_long (h : 8 ≤ p.length) : tailE p = 3 := by unfold tailE; rw [if_neg (by omega)]
theorem tailE_short (h : p.length < 8) : tailE p = if num p = 0 then 0 else 3 := by
  unfold tailE
  by_cases h0 : num p = 0
  · rw [if_pos ⟨h, h0⟩, if_pos h0]
  · rw [if_neg (fun h => h0 h.2), if_neg h0]
end

end Go.Proofs.YtaebljoacffghaaGreatDoor
