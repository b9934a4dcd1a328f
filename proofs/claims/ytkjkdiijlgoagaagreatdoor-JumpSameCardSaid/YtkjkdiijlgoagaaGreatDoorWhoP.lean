/-
  Texts of this proof, one behind the other: Who1, Who2.
-/
import Derived.Test.YtkjkdiijlgoagaaGreatDoorSlow3
import Derived.Test.YtkjkdiijlgoagaaGreatDoorUvI
import Derived.Test.YtkjkdiijlgoagaaGreatDoorPack1

/-
  Plain facts (no program): what a chunk tells, what a block tells; what was packed is told again; a byte turned in a chunk is told.
-/
namespace Go.Proofs.YtkjkdiijlgoagaaGreatDoor

open Classical in
/-- what decoding of bytes comes to, as a function: samples, and an error's number -/
noncomputable def decF (z : Int) (bs : List Nat) (n : Int) : List (Int × Nat) × Nat :=
  if h : ∃ t : List (Int × Nat) × Nat, DecA z bs n t.1 t.2 then Classical.choose h else ([], 1)
theorem decF_of {z n : Int} {bs : List Nat} {xs : List (Int × Nat)} {e : Nat} (h : DecA z bs n xs e) : decF z bs n = (xs, e) := by
  have hx : ∃ t : List (Int × Nat) × Nat, DecA z bs n t.1 t.2 := ⟨(xs, e), h⟩
  unfold decF
  rw [dif_pos hx]
  obtain ⟨e1, e2⟩ := h.same (Classical.choose_spec hx)
  exact Prod.ext e1.symm e2.symm
theorem decF_le (z n : Int) (bs : List Nat) : (decF z bs n).2 ≤ 6 := by
  unfold decF
  split
  · rename_i hx
    exact (Classical.choose_spec hx).le
  · decide
theorem decF_ok {z n : Int} {bs : List Nat} (h : (decF z bs n).2 = 0) : DecA z bs n (decF z bs n).1 0 := by
  unfold decF at h ⊢
  split at h
  · rename_i hx
    rw [dif_pos hx]
    have := Classical.choose_spec hx
    rwa [h] at this
  · cases h

/-- the first and the last sample's time are those that the entry tells -/
def EndsQ (e : Ent) (xs : List (Int × Nat)) : Prop := (xs.getD 0 (0, 0)).1 = e.mn ∧ (xs.getD (xs.length - 1) (0, 0)).1 = e.mx
/-- a chunk's bytes ahead of its sum, and its sum's -/
def bodyC (bs : List Nat) : List Nat := bs.take (bs.length - 4)
def tailC (bs : List Nat) : List Nat := bs.drop (bs.length - 4)
open Classical in
/-- the samples of a chunk, or what is amiss -/
noncomputable def chF (z : Int) (e : Ent) (bs : List Nat) : Except Nat (List (Int × Nat)) :=
  if ¬ ((bs.length : Int) = e.ln ∧ 4 ≤ bs.length) then .error 1 else
  if numB (tailC bs) ≠ crcS (bodyC bs) then .error 7 else
  if (decF z (bodyC bs) e.ct).2 ≠ 0 then .error (decF z (bodyC bs) e.ct).2 else
  if EndsQ e (decF z (bodyC bs) e.ct).1 then .ok (decF z (bodyC bs) e.ct).1 else .error 8
section
variable {z : Int} {e : Ent} {bs : List Nat}
theorem chF_arg (h : ¬ ((bs.length : Int) = e.ln ∧ 4 ≤ bs.length)) : chF z e bs = .error 1 := by
  unfold chF
  rw [if_pos h]
theorem chF_sum (h : (bs.length : Int) = e.ln ∧ 4 ≤ bs.length) (hs : numB (tailC bs) ≠ crcS (bodyC bs)) : chF z e bs = .error 7 := by
  unfold chF
  rw [if_neg (fun h' => h' h), if_pos hs]
theorem chF_dec {xs : List (Int × Nat)} {k : Nat} (h : (bs.length : Int) = e.ln ∧ 4 ≤ bs.length) (hs : numB (tailC bs) = crcS (bodyC bs)) (hd : DecA z (bodyC bs) e.ct xs k) (hk : k ≠ 0) : chF z e bs = .error k := by
  unfold chF
  rw [if_neg (fun h' => h' h), if_neg (fun h' => h' hs), decF_of hd, if_pos hk]
theorem chF_end {xs : List (Int × Nat)} (h : (bs.length : Int) = e.ln ∧ 4 ≤ bs.length) (hs : numB (tailC bs) = crcS (bodyC bs)) (hd : DecA z (bodyC bs) e.ct xs 0) (he : ¬ EndsQ e xs) : chF z e bs = .error 8 := by
  unfold chF
  rw [if_neg (fun h' => h' h), if_neg (fun h' => h' hs), decF_of hd, if_neg (by simp), if_neg he]
theorem chF_ok {xs : List (Int × Nat)} (h : (bs.length : Int) = e.ln ∧ 4 ≤ bs.length) (hs : numB (tailC bs) = crcS (bodyC bs)) (hd : DecA z (bodyC bs) e.ct xs 0) (he : EndsQ e xs) : chF z e bs = .ok xs := by
  unfold chF
  rw [if_neg (fun h' => h' h), if_neg (fun h' => h' hs), decF_of hd, if_neg (by simp), if_pos he]
theorem chF_err {k : Nat} (h : chF z e bs = .error k) : k ≠ 0 ∧ k ≤ 9 := by
  unfold chF at h
  split at h
  · injection h with h; omega
  · split at h
    · injection h with h; omega
    · split at h
      · rename_i hk
        injection h with h
        have := decF_le z e.ct (bodyC bs)
        omega
      · split at h
        · cases h
        · injection h with h; omega
/-- a good chunk's samples: as many as its entry tells, with its first and last time -/
theorem chF_good {xs : List (Int × Nat)} (h : chF z e bs = .ok xs) : (xs.length : Int) = e.ct ∧ 1 ≤ xs.length ∧ xs.length ≤ 65535 ∧ Rises xs ∧ EndsQ e xs := by
  unfold chF at h
  split at h
  · cases h
  · split at h
    · cases h
    · split at h
      · cases h
      · rename_i hk
        split at h
        · rename_i he
          injection h with h
          subst h
          rcases decF_ok (by simpa using hk) with ⟨_, _, h3⟩ | ⟨h1, h2⟩
          · cases h3
          · obtain ⟨g1, g2, _⟩ := decoded_enc h2 (by omega)
            exact ⟨by omega, by omega, by omega, g2, he⟩
        · cases h
end

/-- a decoded list has a sample at least -/
theorem dec_some {z n : Int} {bs : List Nat} {xs : List (Int × Nat)} (h : DecA z bs n xs 0) : (xs.length : Int) = n ∧ 1 ≤ xs.length ∧ xs.length ≤ 65535 := by
  rcases h with ⟨_, _, h⟩ | ⟨h1, h⟩
  · cases h
  · have := (decoded_enc h (by omega)).1
    omega

/-- the samples of chunks, one behind the other, from a place on, behind those that are told: up to the first that isn't good -/
noncomputable def blkF (z : Int) (bs : List Nat) : List Ent → Nat → List (Int × Nat) → List (Int × Nat) × Nat
  | [], _, acc => (acc, 0)
  | e :: r, a, acc =>
    match chF z e ((bs.drop a).take e.ln.toNat) with
    | .error j => (acc, j)
    | .ok ys => blkF z bs r (a + e.ln.toNat) (acc ++ ys)
/-- behind each good chunk: how many samples there are -/
noncomputable def endF (z : Int) (bs : List Nat) : List Ent → Nat → Nat → List Nat
  | [], _, _ => []
  | e :: r, a, m =>
    match chF z e ((bs.drop a).take e.ln.toNat) with
    | .error _ => []
    | .ok ys => (m + ys.length) :: endF z bs r (a + e.ln.toNat) (m + ys.length)
/-- what bytes tell, as a block -/
noncomputable def wholeF (bs : List Nat) : List (Int × Nat) × Nat :=
  match getI bs with
  | .error j => ([], j)
  | .ok (k, es, n) => blkF k bs es n []
noncomputable def wholeN (bs : List Nat) : List Nat :=
  match getI bs with
  | .error _ => []
  | .ok (k, es, n) => endF k bs es n 0
section
variable {z : Int} {bs : List Nat} {es : List Ent} {j a : Nat}
theorem drop_at (h : j < es.length) : es.drop j = es.getD j ent0 :: es.drop (j + 1) := by
  rw [List.drop_eq_getElem_cons h, List.getD_eq_getElem?_getD, List.getElem?_eq_getElem h]
  rfl
theorem blkF_bad {acc : List (Int × Nat)} {k : Nat} (h : j < es.length) (hc : chF z (es.getD j ent0) ((bs.drop a).take (es.getD j ent0).ln.toNat) = .error k) : blkF z bs (es.drop j) a acc = (acc, k) := by
  rw [drop_at h, blkF, hc]
theorem blkF_ok {acc ys : List (Int × Nat)} (h : j < es.length) (hc : chF z (es.getD j ent0) ((bs.drop a).take (es.getD j ent0).ln.toNat) = .ok ys) : blkF z bs (es.drop j) a acc = blkF z bs (es.drop (j + 1)) (a + (es.getD j ent0).ln.toNat) (acc ++ ys) := by
  rw [drop_at h, blkF, hc]
theorem blkF_end {acc : List (Int × Nat)} (h : ¬ j < es.length) : blkF z bs (es.drop j) a acc = (acc, 0) := by
  rw [List.drop_of_length_le (by omega), blkF]
theorem endF_bad {m k : Nat} (h : j < es.length) (hc : chF z (es.getD j ent0) ((bs.drop a).take (es.getD j ent0).ln.toNat) = .error k) : endF z bs (es.drop j) a m = [] := by
  rw [drop_at h, endF, hc]
theorem endF_ok {m : Nat} {ys : List (Int × Nat)} (h : j < es.length) (hc : chF z (es.getD j ent0) ((bs.drop a).take (es.getD j ent0).ln.toNat) = .ok ys) : endF z bs (es.drop j) a m = (m + ys.length) :: endF z bs (es.drop (j + 1)) (a + (es.getD j ent0).ln.toNat) (m + ys.length) := by
  rw [drop_at h, endF, hc]
theorem endF_end {m : Nat} (h : ¬ j < es.length) : endF z bs (es.drop j) a m = [] := by
  rw [List.drop_of_length_le (by omega), endF]
theorem blkF_le : ∀ (es : List Ent) (a : Nat) (acc : List (Int × Nat)), (blkF z bs es a acc).2 ≤ 9
  | [], _, _ => by simp [blkF]
  | e :: r, a, acc => by
    rw [blkF]
    cases h : chF z e ((bs.drop a).take e.ln.toNat) with
    | error k => exact (chF_err h).2
    | ok ys => exact blkF_le r _ _
/-- an index that is got: what it may be, and that it tells of just the bytes behind it -/
theorem getI_ok {k n : Nat} (hb : ∀ x ∈ bs, x < 256) (h : getI bs = .ok (k, es, n)) : May k es ∧ (∀ e ∈ es, FitE e) ∧ n ≤ bs.length ∧ lensN es = bs.length - n := by
  obtain ⟨h1, h2, h3, _⟩ := getI_back hb h
  refine ⟨h1, h2, h3, ?_⟩
  unfold getI at h
  cases hk : getK bs with
  | error e => rw [hk] at h; cases h
  | ok p =>
    rw [hk] at h
    simp only at h
    cases hl : getL bs p.2 with
    | error e => rw [hl] at h; cases h
    | ok q =>
      rw [hl] at h
      simp only at h
      cases hs : getS bs q.2 with
      | error e => rw [hs] at h; cases h
      | ok a2 =>
        rw [hs] at h
        simp only at h
        split at h
        · rename_i hm
          simp only [Except.ok.injEq, Prod.mk.injEq] at h
          obtain ⟨rfl, rfl, rfl⟩ := h
          exact hm.2
        · cases h
theorem lensN_le (es : List Ent) (j : Nat) : lensN (es.take j) ≤ lensN es := by
  have : lensN es = lensN (es.take j) + lensN (es.drop j) := by rw [← lensN_app, List.take_append_drop]
  omega
theorem may_at {k : Int} (h : May k es) (hj : j < es.length) : MayE (es.getD j ent0) := (h.2.2 j hj).1
/-- each chunk has four bytes at least -/
theorem lens_four {k : Int} (h : May k es) : ∀ j, j ≤ es.length → 4 * j ≤ lensN (es.take j)
  | 0, _ => Nat.zero_le _
  | j + 1, hj => by
    have h1 := lens_four h j (by omega)
    rw [lensN_take (by omega)]
    have h2 := may_at h (show j < es.length by omega)
    unfold MayE at h2
    omega
end

/-- four bytes' number tells them -/
theorem numB_same {p q : List Nat} (hl : p.length = q.length) (hp : ∀ x ∈ p, x < 256) (hq : ∀ x ∈ q, x < 256) (h : numB p = numB q) : p = q := by
  rw [← bigB_numB p hp, ← bigB_numB q hq, h, hl]
/-- a byte turned is another sum -/
theorem crcS_byte {a b : List Nat} {x y : Nat} (ha : ∀ u ∈ a, u < 256) (hx : x < 256) (hy : y < 256) (h0 : y ≠ 0) : crcS (a ++ x :: b) ≠ crcS (a ++ (x ^^^ y) :: b) := by
  have hr : crcR 4294967295 a < 4294967296 := crcR_lt a (by omega) ha
  have hxy : x ^^^ y < 256 := Nat.xor_lt_two_pow (n := 8) hx hy
  have h1 := crcR_two [x] [x ^^^ y] (crcR 4294967295 a) (crcR 4294967295 a) rfl
  have l1 : leN [x] = x := by simp [leN]
  have l2 : leN [x ^^^ y] = x ^^^ y := by simp [leN]
  rw [l1, l2, Nat.xor_self, Nat.zero_xor, ← Nat.xor_assoc, Nat.xor_self, Nat.zero_xor] at h1
  have e1 : crcR 4294967295 (a ++ x :: b) = crcR (crcR (crcR 4294967295 a) [x]) b := by
    rw [show a ++ x :: b = a ++ ([x] ++ b) by simp, crcR_app, crcR_app]
  have e2 : crcR 4294967295 (a ++ (x ^^^ y) :: b) = crcR (crcR (crcR 4294967295 a) [x ^^^ y]) b := by
    rw [show a ++ (x ^^^ y) :: b = a ++ ([x ^^^ y] ++ b) by simp, crcR_app, crcR_app]
  intro h
  unfold crcS at h
  have h2 : crcR 4294967295 (a ++ x :: b) = crcR 4294967295 (a ++ (x ^^^ y) :: b) := by
    have := congrArg (fun v => 4294967295 ^^^ v) h
    simpa [← Nat.xor_assoc] using this
  rw [e1, e2] at h2
  have h3 := crcR_two b b (crcR (crcR 4294967295 a) [x]) (crcR (crcR 4294967295 a) [x ^^^ y]) rfl
  rw [h2, Nat.xor_self, Nat.xor_self, Nat.xor_zero, h1] at h3
  have g1 := outN_zero _ (outN_lt _ (by omega)) h3.symm
  exact h0 (outN_zero _ (by omega) g1)

section
variable {k : Nat} {p : List (Int × Nat)}
theorem sum_body (k : Nat) (p : List (Int × Nat)) : bodyC (sumQ k p) = bytQ k p ∧ tailC (sumQ k p) = bigB 4 (crcS (bytQ k p)) := by
  have hl : (sumQ k p).length - 4 = (bytQ k p).length := by rw [sum_len]; omega
  unfold bodyC tailC
  rw [hl]
  unfold sumQ
  exact ⟨List.take_left, List.drop_left⟩
/-- what was packed as a chunk is good -/
theorem ch_good (hk : k = 1 ∨ k = 2) (hx : AllQ p) (hr : Rises p) (h1 : 1 ≤ p.length) (h2 : p.length ≤ 65535) : chF (k : Int) (entQ k p) (sumQ k p) = .ok p := by
  have hd := enc_dec hk hx hr h1 h2
  have hp : pack (encP (k : Int) p 0) = bytQ k p := by
    unfold encP bytQ
    rw [if_pos rfl, Int.toNat_natCast]
  rw [hp] at hd
  obtain ⟨b1, b2⟩ := sum_body k p
  refine chF_ok ⟨rfl, by rw [sum_len]; omega⟩ ?_ (by rw [b1]; exact hd) ⟨rfl, rfl⟩
  rw [b1, b2, numB_bigB 4 _ (by have := crcS_lt (byt_lt k p); omega)]
/-- a byte turned in it is told -/
theorem ch_turned {i y : Nat} (hi : i < (sumQ k p).length) (hy : y < 256) (h0 : y ≠ 0) : chF (k : Int) (entQ k p) ((sumQ k p).set i ((sumQ k p).getD i 0 ^^^ y)) = .error 7 := by
  have hl4 : (bigB 4 (crcS (bytQ k p))).length = 4 := bigB_length 4 _
  have hsl := sum_len k p
  have hset : ((sumQ k p).set i ((sumQ k p).getD i 0 ^^^ y)).length = (sumQ k p).length := List.length_set ..
  refine chF_sum ⟨by rw [hset]; rfl, by rw [hset]; omega⟩ ?_
  have hcut : ∀ l : List Nat, l.length = (sumQ k p).length → bodyC l = l.take (bytQ k p).length ∧ tailC l = l.drop (bytQ k p).length := by
    intro l hl
    unfold bodyC tailC
    rw [hl, hsl, Nat.add_sub_cancel]
    exact ⟨rfl, rfl⟩
  obtain ⟨c1, c2⟩ := hcut _ hset
  rw [c1, c2]
  rcases Nat.lt_or_ge i (bytQ k p).length with h | h
  · -- in the samples' bytes
    have hs : (sumQ k p).set i ((sumQ k p).getD i 0 ^^^ y) = (bytQ k p).set i ((bytQ k p).getD i 0 ^^^ y) ++ bigB 4 (crcS (bytQ k p)) := by
      unfold sumQ
      rw [List.set_append_left _ _ h]
      simp only [List.getD_eq_getElem?_getD, List.getElem?_append_left h]
    have e : (bytQ k p).length = ((bytQ k p).set i ((bytQ k p).getD i 0 ^^^ y)).length := (List.length_set ..).symm
    rw [hs]
    conv => lhs; rw [e]
    conv => rhs; rw [e]
    rw [List.drop_left, List.take_left, numB_bigB 4 _ (by have := crcS_lt (byt_lt k p); omega)]
    have hb := byt_lt k p
    generalize bytQ k p = q at *
    have hq : q = q.take i ++ q.getD i 0 :: q.drop (i + 1) := by
      rw [List.getD_eq_getElem?_getD, List.getElem?_eq_getElem h]
      exact (List.take_append_drop i q).symm.trans (by rw [List.drop_eq_getElem_cons h]; rfl)
    have hq2 : q.set i (q.getD i 0 ^^^ y) = q.take i ++ (q.getD i 0 ^^^ y) :: q.drop (i + 1) := List.set_eq_take_append_cons_drop.trans (if_pos h)
    rw [hq2]
    conv => lhs; rw [hq]
    exact crcS_byte (fun u hu => hb u (List.mem_of_mem_take hu)) (by
      rw [List.getD_eq_getElem?_getD, List.getElem?_eq_getElem h]
      exact hb _ (List.getElem_mem h)) hy h0
  · -- in its sum's
    have hi2 : i - (bytQ k p).length < (bigB 4 (crcS (bytQ k p))).length := by omega
    have hs : (sumQ k p).set i ((sumQ k p).getD i 0 ^^^ y) = bytQ k p ++ (bigB 4 (crcS (bytQ k p))).set (i - (bytQ k p).length) ((bigB 4 (crcS (bytQ k p))).getD (i - (bytQ k p).length) 0 ^^^ y) := by
      unfold sumQ
      rw [List.set_append_right _ _ h]
      simp only [List.getD_eq_getElem?_getD, List.getElem?_append_right h]
    rw [hs, List.drop_left, List.take_left]
    have hc := crcS_lt (byt_lt k p)
    have hbl := bigB_lt 4 (crcS (bytQ k p))
    have hnb := numB_bigB 4 (crcS (bytQ k p)) (by omega)
    generalize bigB 4 (crcS (bytQ k p)) = q at *
    generalize i - (bytQ k p).length = t at *
    intro he
    rw [← hnb] at he
    have hqt : q.getD t 0 < 256 := by
      rw [List.getD_eq_getElem?_getD, List.getElem?_eq_getElem hi2]
      exact hbl _ (List.getElem_mem hi2)
    have hss := numB_same (p := q.set t (q.getD t 0 ^^^ y)) (q := q) (List.length_set ..) (fun u hu => by
      rcases List.mem_or_eq_of_mem_set hu with hu | rfl
      · exact hbl u hu
      · exact Nat.xor_lt_two_pow (n := 8) hqt hy) hbl he
    have hg := congrArg (fun l => l.getD t 0) hss
    simp only [List.getD_eq_getElem?_getD, List.getElem?_set_self hi2, List.getElem?_eq_getElem hi2, Option.getD_some] at hg
    have : q[t] ^^^ (q[t] ^^^ y) = q[t] ^^^ q[t] := by rw [hg]
    rw [← Nat.xor_assoc, Nat.xor_self, Nat.zero_xor] at this
    exact h0 this
end

/-- a place in pieces, one behind the other: in which it lies -/
theorem piece_at {α : Type} (f : α → List Nat) : ∀ (qs : List α) (i : Nat), i < ((qs.map f).flatten).length →
    ∃ q1 p q2 t, qs = q1 ++ p :: q2 ∧ t < (f p).length ∧ ((qs.map f).flatten).getD i 0 = (f p).getD t 0 ∧ ∀ v, ((qs.map f).flatten).set i v = (q1.map f).flatten ++ ((f p).set t v ++ (q2.map f).flatten)
  | [], i, h => absurd h (by simp)
  | p :: r, i, h => by
    simp only [List.map_cons, List.flatten_cons] at h ⊢
    rcases Nat.lt_or_ge i (f p).length with hi | hi
    · exact ⟨[], p, r, i, rfl, hi, by simp only [List.getD_eq_getElem?_getD, List.getElem?_append_left hi], fun v => by rw [List.set_append_left _ _ hi]; rfl⟩
    · obtain ⟨q1, p2, q2, t, h1, h2, h3, h4⟩ := piece_at f r (i - (f p).length) (by rw [List.length_append] at h; omega)
      refine ⟨p :: q1, p2, q2, t, by rw [h1]; rfl, h2, ?_, fun v => ?_⟩
      · rw [← h3]
        simp only [List.getD_eq_getElem?_getD, List.getElem?_append_right hi]
      · rw [List.set_append_right _ _ hi, h4 v]
        simp only [List.map_cons, List.flatten_cons, List.append_assoc]

section
variable {k : Nat}
/-- good chunks, one behind the other -/
theorem blk_good {bs : List Nat} : ∀ (qs : List (List (Int × Nat))) (es : List Ent) (a : Nat) (acc : List (Int × Nat)) (rest : List Nat), (∀ p ∈ qs, chF (k : Int) (entQ k p) (sumQ k p) = .ok p) → bs.drop a = (qs.map (sumQ k)).flatten ++ rest →
    blkF (k : Int) bs (qs.map (entQ k) ++ es) a acc = blkF (k : Int) bs es (a + ((qs.map (sumQ k)).flatten).length) (acc ++ qs.flatten)
  | [], es, a, acc, rest, _, _ => by simp
  | p :: r, es, a, acc, rest, h, hd => by
    simp only [List.map_cons, List.flatten_cons, List.append_assoc, List.cons_append] at hd ⊢
    have hn : (entQ k p).ln.toNat = (sumQ k p).length := by simp [entQ]
    rw [blkF, hn, hd, List.take_left, h p (by simp)]
    have := blk_good r es (a + (sumQ k p).length) (acc ++ p) rest (fun q hq => h q (by simp [hq])) (by rw [← List.drop_drop, hd, List.drop_left])
    simp only [this, List.length_append, List.append_assoc, Nat.add_assoc]

variable {s : Nat} {xs : List (Int × Nat)}
/-- the parts that a block is made of -/
def partsQ (s : Nat) (xs : List (Int × Nat)) : List (List (Int × Nat)) := (List.range (manyQ s xs)).map (partQ s xs)
theorem ents_parts : entsTo k s xs (manyQ s xs) = (partsQ s xs).map (entQ k) := by
  unfold entsTo partsQ
  rw [List.map_map]
  rfl
theorem body_parts : bodyTo k s xs (manyQ s xs) = ((partsQ s xs).map (sumQ k)).flatten := by
  unfold bodyTo partsQ
  rw [List.map_map]
  rfl
theorem parts_flat (hs : 1 ≤ s) : (partsQ s xs).flatten = xs := parts_all hs
theorem parts_good (hk : k = 1 ∨ k = 2) (hx : AllQ xs) (hr : Rises xs) (hl : xs.length ≤ 5000) (hs : 1 ≤ s) : ∀ p ∈ partsQ s xs, 1 ≤ p.length ∧ chF (k : Int) (entQ k p) (sumQ k p) = .ok p := by
  intro p hp
  obtain ⟨j, hj, rfl⟩ := List.mem_map.1 hp
  have h1 := part_pos hs (List.mem_range.1 hj)
  have h2 := part_small (s := s) hl j
  exact ⟨h1, ch_good hk (part_all hx j) (part_rises hr j) h1 (by omega)⟩
theorem lens_body (qs : List (List (Int × Nat))) : lensN (qs.map (entQ k)) = ((qs.map (sumQ k)).flatten).length := by
  induction qs with
  | nil => rfl
  | cons p r ih =>
    simp only [lensN, List.map_cons, List.sum_cons, List.flatten_cons, List.length_append] at ih ⊢
    rw [ih]
    simp [entQ]
/-- a block whose index is as it was packed is told chunk by chunk -/
theorem whole_is (hk : k = 1 ∨ k = 2) (hx : AllQ xs) (hr : Rises xs) (hl : xs.length ≤ 5000) (hs : 1 ≤ s) (hs2 : s ≤ 65535) {rest : List Nat} (hrest : rest.length = (bodyTo k s xs (manyQ s xs)).length) :
    getI (idxB k (entsTo k s xs (manyQ s xs)) ++ rest) = .ok (k, entsTo k s xs (manyQ s xs), (idxB k (entsTo k s xs (manyQ s xs))).length) := by
  rw [getI_put hk (block_may hk hx hr hl hs hs2) (ents_fit hx hl _), if_pos]
  rw [ents_parts, lens_body, hrest, body_parts]
theorem whole_back (hk : k = 1 ∨ k = 2) (hx : AllQ xs) (hr : Rises xs) (hl : xs.length ≤ 5000) (hs : 1 ≤ s) (hs2 : s ≤ 65535) : wholeF (blockB k s xs) = (xs, 0) := by
  unfold wholeF blockB
  rw [whole_is hk hx hr hl hs hs2 rfl]
  simp only
  have h := blk_good (k := k) (bs := idxB k (entsTo k s xs (manyQ s xs)) ++ bodyTo k s xs (manyQ s xs)) (partsQ s xs) [] (idxB k (entsTo k s xs (manyQ s xs))).length [] [] (fun p hp => (parts_good hk hx hr hl hs p hp).2) (by rw [List.drop_left, body_parts, List.append_nil])
  rw [List.append_nil, ← ents_parts] at h
  rw [h, blkF, List.nil_append, parts_flat hs]
/-- a byte turned behind the index: the parts ahead of it, and that a sum is another one -/
theorem whole_turned (hk : k = 1 ∨ k = 2) (hx : AllQ xs) (hr : Rises xs) (hl : xs.length ≤ 5000) (hs : 1 ≤ s) (hs2 : s ≤ 65535) {i y : Nat} (hi : i < (bodyTo k s xs (manyQ s xs)).length) (hy : y < 256) (h0 : y ≠ 0) :
    ∃ m, m < xs.length ∧ wholeF ((blockB k s xs).set ((idxB k (entsTo k s xs (manyQ s xs))).length + i) ((blockB k s xs).getD ((idxB k (entsTo k s xs (manyQ s xs))).length + i) 0 ^^^ y)) = (xs.take m, 7) := by
  rw [body_parts] at hi
  obtain ⟨q1, p, q2, t, h1, h2, h3, h4⟩ := piece_at (sumQ k) (partsQ s xs) i hi
  have hgood := parts_good hk hx hr hl hs
  have hflat := parts_flat (xs := xs) hs
  rw [h1] at hgood
  have hset : (blockB k s xs).set ((idxB k (entsTo k s xs (manyQ s xs))).length + i) ((blockB k s xs).getD ((idxB k (entsTo k s xs (manyQ s xs))).length + i) 0 ^^^ y) =
      idxB k (entsTo k s xs (manyQ s xs)) ++ ((q1.map (sumQ k)).flatten ++ ((sumQ k p).set t ((sumQ k p).getD t 0 ^^^ y) ++ (q2.map (sumQ k)).flatten)) := by
    have e1 : (blockB k s xs).getD ((idxB k (entsTo k s xs (manyQ s xs))).length + i) 0 = (sumQ k p).getD t 0 := by
      unfold blockB
      rw [← h3, body_parts]
      simp only [List.getD_eq_getElem?_getD]
      rw [List.getElem?_append_right (by omega), Nat.add_sub_cancel_left]
    rw [e1]
    unfold blockB
    rw [List.set_append_right _ _ (by omega), Nat.add_sub_cancel_left, body_parts, h4]
  have hbl : ((q1.map (sumQ k)).flatten ++ ((sumQ k p).set t ((sumQ k p).getD t 0 ^^^ y) ++ (q2.map (sumQ k)).flatten)).length = (bodyTo k s xs (manyQ s xs)).length := by
    rw [← h4, List.length_set, body_parts]
  refine ⟨q1.flatten.length, ?_, ?_⟩
  · have := congrArg List.length hflat
    rw [h1] at this
    simp only [List.flatten_append, List.flatten_cons, List.length_append] at this
    have := (hgood p (by simp)).1
    omega
  · rw [hset]
    unfold wholeF
    rw [whole_is hk hx hr hl hs hs2 hbl]
    simp only
    have hes : entsTo k s xs (manyQ s xs) = q1.map (entQ k) ++ (entQ k p :: q2.map (entQ k)) := by
      rw [ents_parts, h1, List.map_append, List.map_cons]
    generalize idxB k (entsTo k s xs (manyQ s xs)) = ib
    rw [hes]
    rw [blk_good q1 _ ib.length [] ((sumQ k p).set t ((sumQ k p).getD t 0 ^^^ y) ++ (q2.map (sumQ k)).flatten) (fun p hp => (hgood p (by simp [hp])).2) (by rw [List.drop_left])]
    have hn : (entQ k p).ln.toNat = ((sumQ k p).set t ((sumQ k p).getD t 0 ^^^ y)).length := by simp [entQ]
    rw [blkF, hn, ← List.drop_drop, List.drop_left, List.drop_left, List.take_left, ch_turned h2 hy h0, List.nil_append]
    simp only
    have : xs.take q1.flatten.length = q1.flatten := by
      conv => lhs; rw [← hflat, h1, List.flatten_append]
      rw [List.take_left]
    rw [this]

/-- a small block has few bytes -/
theorem body_small (hx : AllQ xs) (hs : 1 ≤ s) : ∀ j, j ≤ manyQ s xs → (bodyTo k s xs j).length ≤ 24 * min (j * s) xs.length
  | 0, _ => by simp [bodyTo]
  | j + 1, hj => by
    have ih := body_small hx hs j (by omega)
    have h1 := part_pos hs (show j < manyQ s xs by omega)
    have h2 := part_len (s := s) (xs := xs) j
    have h3 := byt_len (k := k) (part_all (s := s) hx j)
    have h4 := (lt_many (xs := xs) hs j).1 (by omega)
    have h5 : (j + 1) * s = j * s + s := by rw [Nat.add_mul, Nat.one_mul]
    rw [body_succ, List.length_append, sum_len]
    omega
theorem block_small (hx : AllQ xs) (hl : xs.length ≤ 100) (hs : 1 ≤ s) : (blockB k s xs).length ≤ 7000 := by
  have h1 := body_small (k := k) hx hs (manyQ s xs) (Nat.le_refl _)
  have h2 := headB_len k (entsTo k s xs (manyQ s xs)) (by rw [ents_len]; have := many_le (xs := xs) hs; omega)
  have h3 := many_le (xs := xs) hs
  rw [ents_len] at h2
  unfold blockB idxB
  rw [List.length_append, List.length_append, bigB_length]
  omega
end

end Go.Proofs.YtkjkdiijlgoagaaGreatDoor

/-
  Plain facts (no program): a chunk's and a block's samples are no more than eight for each byte.
-/
namespace Go.Proofs.YtkjkdiijlgoagaaGreatDoor

/-- what a chunk tells, as samples and an error's number -/
def chRes : Except Nat (List (Int × Nat)) → List (Int × Nat) × Nat
  | .ok xs => (xs, 0)
  | .error j => ([], j)
theorem allQ_of {xs : List (Int × Nat)} (h : ∀ x ∈ xs, (-9223372036854775808 ≤ x.1 ∧ x.1 ≤ 9223372036854775807) ∧ x.2 ≤ 18446744073709551615) : AllQ xs := by
  intro j
  rcases Nat.lt_or_ge j xs.length with hj | hj
  · rw [List.getD_eq_getElem?_getD, List.getElem?_eq_getElem hj]
    exact h _ (List.getElem_mem hj)
  · rw [List.getD_eq_getElem?_getD, List.getElem?_eq_none hj]
    exact ⟨by simp, by simp⟩
theorem chF_few {z : Int} {e : Ent} {bs : List Nat} {xs : List (Int × Nat)} (h : chF z e bs = .ok xs) : xs.length ≤ 8 * bs.length := by
  unfold chF at h
  split at h
  · cases h
  · split at h
    · cases h
    · split at h
      · cases h
      · rename_i hk
        split at h
        · injection h with h
          subst h
          rcases decF_ok (by simpa using hk) with ⟨_, _, h3⟩ | ⟨h1, h2⟩
          · cases h3
          · obtain ⟨g1, _, k, _, _, t, g5, _⟩ := decoded_enc h2 (by omega)
            have hall := allQ_of (Dec.le zeroK_may h2).2.2
            have g6 := cdK_ge (k := k) hall e.ct.toNat
            have g7 := congrArg List.length g5
            rw [flat_length, List.length_append] at g7
            have g8 : (bodyC bs).length ≤ bs.length := by unfold bodyC; rw [List.length_take]; omega
            omega
        · cases h
theorem chRes_few {z : Int} {e : Ent} {bs : List Nat} : (chRes (chF z e bs)).1.length ≤ 8 * bs.length ∧ (chRes (chF z e bs)).2 ≤ 9 := by
  cases h : chF z e bs with
  | error j => exact ⟨by simp [chRes], (chF_err h).2⟩
  | ok xs => exact ⟨chF_few h, by simp [chRes]⟩
theorem blkF_few {z : Int} {bs : List Nat} : ∀ (es : List Ent) (a : Nat) (acc : List (Int × Nat)), (blkF z bs es a acc).1.length ≤ acc.length + 8 * lensN es
  | [], a, acc => by simp [blkF]
  | e :: r, a, acc => by
    have hl : lensN (e :: r) = e.ln.toNat + lensN r := by simp [lensN]
    rw [blkF]
    cases h : chF z e ((bs.drop a).take e.ln.toNat) with
    | error k => simp only; omega
    | ok ys =>
      have h1 := blkF_few (z := z) (bs := bs) r (a + e.ln.toNat) (acc ++ ys)
      have h2 := chF_few h
      rw [List.length_take] at h2
      rw [List.length_append] at h1
      simp only
      omega
theorem wholeF_few {bs : List Nat} (hb : ∀ x ∈ bs, x < 256) : (wholeF bs).1.length ≤ 8 * bs.length := by
  unfold wholeF
  cases h : getI bs with
  | error j => simp
  | ok p =>
    obtain ⟨k, es, n⟩ := p
    obtain ⟨_, _, h3, h4⟩ := getI_ok hb h
    have := blkF_few (z := (k : Int)) (bs := bs) es n []
    simp only [List.length_nil] at this ⊢
    omega
theorem getI_void : getI [] = .error 5 := by simp [getI, getK]
theorem wholeF_void : wholeF [] = ([], 5) := by unfold wholeF; rw [getI_void]
theorem chF_void (z m x k l : Int) : chF z ⟨m, x, k, l⟩ [] = .error 1 := chF_arg (fun h => by have := h.2; simp at this)

end Go.Proofs.YtkjkdiijlgoagaaGreatDoor
