/-
  Plain facts on an index's bytes (no program): the index that bytes begin with, or what is amiss first; what was put is got; what is got, put, is those bytes.
-/
import Derived.Test.YtgmnhfkmneohcaaIdx1
import Derived.Test.YtgmnhfkmneohcaaUvGet
namespace Go.Proofs.Ytgmnhfkmneohcaa

open Classical in
/-- what bytes begin with from a place on, as a function -/
noncomputable def ug (bs : List Nat) (a : Nat) : Nat × Nat × Nat :=
  if h : ∃ t : Nat × Nat × Nat, UAt bs a t.1 t.2.1 t.2.2 then Classical.choose h else (0, 0, 2)
theorem ug_of {bs : List Nat} {a v n e : Nat} (h : UAt bs a v n e) : ug bs a = (v, n, e) := by
  have hx : ∃ t : Nat × Nat × Nat, UAt bs a t.1 t.2.1 t.2.2 := ⟨(v, n, e), h⟩
  unfold ug
  rw [dif_pos hx]
  have h2 := Classical.choose_spec hx
  obtain ⟨e1, e2, e3⟩ := h.same h2
  exact Prod.ext e1.symm (Prod.ext e2.symm e3.symm)
theorem ug_ok {bs : List Nat} {a v n : Nat} (h : ug bs a = (v, n, 0)) : UAt bs a v n 0 := by
  unfold ug at h
  split at h
  · rename_i hx
    have h2 := Classical.choose_spec hx
    rw [h] at h2
    exact h2
  · cases h
/-- a number, and the place behind it -/
noncomputable def uvE (bs : List Nat) (a : Nat) : Except Nat (Nat × Nat) := if (ug bs a).2.2 = 0 then .ok ((ug bs a).1, a + (ug bs a).2.1) else .error (ug bs a).2.2
theorem uvE_ok {bs : List Nat} {a v n : Nat} (h : UAt bs a v n 0) : uvE bs a = .ok (v, a + n) := by
  unfold uvE
  rw [ug_of h]
  simp
theorem uvE_bad {bs : List Nat} {a v n e : Nat} (h : UAt bs a v n e) (he : e ≠ 0) : uvE bs a = .error e := by
  unfold uvE
  rw [ug_of h]
  simp [he]
theorem uvE_at {bs : List Nat} {a v a1 : Nat} (h : uvE bs a = .ok (v, a1)) : ∃ n, a1 = a + n ∧ UAt bs a v n 0 := by
  unfold uvE at h
  split at h
  · rename_i h0
    simp only [Except.ok.injEq, Prod.mk.injEq] at h
    obtain ⟨h1, h2⟩ := h
    refine ⟨_, h2.symm, ?_⟩
    refine ug_ok ?_
    rw [← h1, ← h0]
  · cases h
theorem uat_le {bs : List Nat} {a v n e : Nat} (h : UAt bs a v n e) : v ≤ 18446744073709551615 ∧ n ≤ 10 ∧ (e = 0 ∨ e = 2 ∨ e = 3) := by
  rcases h with ⟨_, rfl, rfl, rfl⟩ | ⟨k, h1, h2, h3⟩
  · omega
  · exact gets_le h3
theorem uat_in {bs : List Nat} {a v n : Nat} (hb : ∀ x ∈ bs, x < 256) (h : UAt bs a v n 0) : a ≤ bs.length ∧ a + n ≤ bs.length ∧ uvB v = (bs.drop a).take n := by
  rcases h with ⟨_, _, _, h4⟩ | ⟨k, h1, h2, h3⟩
  · cases h4
  · obtain rfl : a = k := by omega
    obtain ⟨g1, g2⟩ := gets_back (fun x hx => hb x (List.mem_of_mem_drop hx)) h3 rfl
    rw [List.length_drop] at g1
    exact ⟨h2, by omega, g2⟩
theorem uvE_put {bs : List Nat} {v a : Nat} {rest : List Nat} (hv : v ≤ 18446744073709551615) (ha : a ≤ bs.length) (h : bs.drop a = uvB v ++ rest) : uvE bs a = .ok (v, a + (uvB v).length) := by
  refine uvE_ok (.inr ⟨a, rfl, ha, ?_⟩)
  rw [h]
  exact gets_put v rest hv
theorem uvE_back {bs : List Nat} (hb : ∀ x ∈ bs, x < 256) {a v a1 : Nat} (h : uvE bs a = .ok (v, a1)) :
    v ≤ 18446744073709551615 ∧ a1 = a + (uvB v).length ∧ (a ≤ bs.length → a1 ≤ bs.length ∧ ∃ rest, bs.drop a = uvB v ++ rest) := by
  obtain ⟨n, rfl, hu⟩ := uvE_at h
  obtain ⟨h1, h2, h3⟩ := uat_in hb hu
  have hl : (uvB v).length = n := by rw [h3, List.length_take, List.length_drop]; omega
  exact ⟨(uat_le hu).1, by rw [hl], fun _ => ⟨h2, (bs.drop a).drop n, by rw [h3, List.take_append_drop]⟩⟩

/-- the first half of an entry, and its three numbers, as they are read -/
noncomputable def rawE (bs : List Nat) (a : Nat) : Except Nat ((Nat × List Nat) × Nat) :=
  if bs.length < a + 8 then .error 2 else
  match reps (uvE bs) 3 (a + 8) with
  | .error e => .error e
  | .ok (vs, a1) => .ok ((numB ((bs.drop a).take 8), vs), a1)
/-- the bytes of what is read -/
def rawB (r : Nat × List Nat) : List Nat := bigB 8 r.1 ++ (r.2.map uvB).flatten
/-- a number as an int; 0, if it is above all that Count and Len may be -/
def smallN (v : Nat) : Int := if 2147483647 < v then 0 else (v : Int)
/-- the entry of what is read -/
def progE (r : Nat × List Nat) : Ent := ⟨s64n r.1, s64n ((r.1 + r.2.getD 0 0) % 18446744073709551616), smallN (r.2.getD 1 0), smallN (r.2.getD 2 0)⟩
/-- what is read fits -/
def FitR (r : Nat × List Nat) : Prop := r.1 ≤ 18446744073709551615 ∧ r.2.length = 3 ∧ ∀ x ∈ r.2, x ≤ 18446744073709551615
theorem FitR.at_ {r : Nat × List Nat} (h : FitR r) : ∃ f x y z : Nat, r = (f, [x, y, z]) ∧ f ≤ 18446744073709551615 ∧ x ≤ 18446744073709551615 ∧ y ≤ 18446744073709551615 ∧ z ≤ 18446744073709551615 := by
  obtain ⟨f, l⟩ := r
  obtain ⟨h1, h2, h3⟩ := h
  match l, h2, h3 with
  | [x, y, z], _, h3 => exact ⟨f, x, y, z, rfl, h1, h3 x (by simp), h3 y (by simp), h3 z (by simp)⟩
theorem smallN_le (v : Nat) : 0 ≤ smallN v ∧ smallN v ≤ 2147483647 := by unfold smallN; split <;> omega
theorem progE_fit {r : Nat × List Nat} (h : FitR r) : FitE (progE r) := by
  obtain ⟨f, x, y, z, rfl, h1, h2, h3, h4⟩ := h.at_
  have g1 := s64n_fit h1
  have g2 := s64n_fit (n := (f + x) % 18446744073709551616) (by omega)
  have g3 := smallN_le y
  have g4 := smallN_le z
  simp only [FitE, progE, List.getD_cons_zero, List.getD_cons_succ]
  omega
theorem progE_len (r : Nat × List Nat) : 0 ≤ (progE r).ln ∧ (progE r).ln ≤ 2147483647 := smallN_le _

theorem rawE_fit {bs : List Nat} (hb : ∀ x ∈ bs, x < 256) {a a1 : Nat} {r : Nat × List Nat} (h : rawE bs a = .ok (r, a1)) :
    FitR r ∧ a1 = a + (rawB r).length ∧ (a ≤ bs.length → a1 ≤ bs.length ∧ ∃ rest, bs.drop a = rawB r ++ rest) := by
  unfold rawE at h
  split at h
  · cases h
  · rename_i h8
    cases hr : reps (uvE bs) 3 (a + 8) with
    | error e => rw [hr] at h; cases h
    | ok p =>
      obtain ⟨vs, a'⟩ := p
      rw [hr] at h
      simp only [Except.ok.injEq, Prod.mk.injEq] at h
      obtain ⟨rfl, rfl⟩ := h
      obtain ⟨k1, k2, k3, k4, rest, k5⟩ := reps_back (bs := bs) (E := uvB) (P := fun v => v ≤ 18446744073709551615) (fun a x a1 h => uvE_back hb h) 3 (a + 8) vs a' hr (by omega)
      have hl8 : ((bs.drop a).take 8).length = 8 := by rw [List.length_take, List.length_drop]; omega
      have hb8 : ∀ x ∈ (bs.drop a).take 8, x < 256 := fun x hx => hb x (List.mem_of_mem_drop (List.mem_of_mem_take hx))
      have e8 := bigB_numB _ hb8
      rw [hl8] at e8
      have hlt := numB_lt _ hb8
      rw [hl8] at hlt
      refine ⟨⟨by simp only; omega, k1, k2⟩, ?_, fun ha => ⟨k4, rest, ?_⟩⟩
      · simp only [rawB, List.length_append, bigB_length]
        omega
      · simp only [rawB]
        rw [e8, List.append_assoc, ← k5, ← List.drop_drop, List.take_append_drop]
theorem rawE_put {bs : List Nat} {r : Nat × List Nat} {a : Nat} {rest : List Nat} (hr : FitR r) (ha : a ≤ bs.length) (h : bs.drop a = rawB r ++ rest) : rawE bs a = .ok (r, a + (rawB r).length) := by
  obtain ⟨f, vs⟩ := r
  obtain ⟨h1, h2, h3⟩ := hr
  simp only [rawB, List.append_assoc] at h
  have hlen : bs.length - a = 8 + ((vs.map uvB).flatten.length + rest.length) := by
    have := congrArg List.length h
    simpa [bigB_length] using this
  unfold rawE
  rw [if_neg (by omega)]
  have hd : bs.drop (a + 8) = (vs.map uvB).flatten ++ rest := by
    rw [← List.drop_drop, h, List.drop_left' (bigB_length 8 f)]
  have key := reps_put (bs := bs) (E := uvB) (g := fun v : Nat => v) (f := uvE bs) (P := fun v => v ≤ 18446744073709551615) (fun x a rest hx hd => by
    rcases Nat.lt_or_ge bs.length a with hlt | hge
    · rw [List.drop_of_length_le (by omega)] at hd
      have h1 := congrArg List.length hd
      have h2 := uvB_pos x
      simp only [List.length_nil, List.length_append] at h1
      omega
    · exact uvE_put hx hge hd) vs (a + 8) rest h3 hd
  rw [h2] at key
  rw [key]
  simp only
  rw [h, List.take_left' (bigB_length 8 f), numB_bigB 8 f (by omega)]
  simp only [List.map_id', rawB, List.length_append, bigB_length]
  congr 2
  omega

/-- an entry as it is read -/
def rawOf (e : Ent) : Nat × List Nat := (u64n e.mn, [u64n (e.mx - e.mn), u64n e.ct, u64n e.ln])
theorem rawOf_fit (e : Ent) : FitR (rawOf e) := ⟨u64n_le _, rfl, by
  intro x hx
  simp only [rawOf, List.mem_cons, List.not_mem_nil, or_false] at hx
  rcases hx with rfl | rfl | rfl <;> exact u64n_le _⟩
theorem rawB_of (e : Ent) : rawB (rawOf e) = entB e := by simp [rawB, rawOf, entB]
theorem progE_of {e : Ent} (hf : FitE e) (hm : MayE e) : progE (rawOf e) = e := by
  obtain ⟨m, x, c, l⟩ := e
  obtain ⟨⟨c1, c2⟩, ⟨l1, l2⟩, h3⟩ := hm
  obtain ⟨f1, f2, f3, f4⟩ := hf
  simp only at *
  simp only [progE, rawOf, List.getD_cons_zero, List.getD_cons_succ, Ent.mk.injEq]
  refine ⟨s64n_u64n f1, ?_, ?_, ?_⟩
  · have : (u64n m + u64n (x - m)) % 18446744073709551616 = u64n x := by unfold u64n; omega
    rw [this]
    exact s64n_u64n f2
  · rw [u64n_nat (by omega)]
    unfold smallN
    rw [if_neg (by omega)]
    omega
  · rw [u64n_nat (by omega)]
    unfold smallN
    rw [if_neg (by omega)]
    omega
theorem rawOf_prog {r : Nat × List Nat} (hf : FitR r) (hm : MayE (progE r)) : rawOf (progE r) = r := by
  obtain ⟨f, x, y, z, rfl, h1, h2, h3, h4⟩ := hf.at_
  simp only [MayE, progE, List.getD_cons_zero, List.getD_cons_succ] at hm
  obtain ⟨⟨c1, c2⟩, ⟨l1, l2⟩, h⟩ := hm
  simp only [rawOf, progE, List.getD_cons_zero, List.getD_cons_succ, Prod.mk.injEq, List.cons.injEq, and_true]
  refine ⟨u64n_s64n h1, ?_, ?_, ?_⟩
  · unfold s64n at h ⊢
    unfold u64n
    split at h <;> split at h <;> simp_all <;> omega
  · unfold smallN at c1 ⊢
    split at c1
    · omega
    · rw [if_neg (by assumption)]; unfold u64n; omega
  · unfold smallN at l1 ⊢
    split at l1
    · omega
    · rw [if_neg (by assumption)]; unfold u64n; omega

/-- the kind -/
noncomputable def getK (bs : List Nat) : Except Nat (Nat × Nat) :=
  if bs.take 4 ≠ [71, 84, 83, 49] then .error 5 else
  if bs.length ≤ 4 then .error 2 else
  if bs.getD 4 0 = 1 ∨ bs.getD 4 0 = 2 then .ok (bs.getD 4 0, 5) else .error 6
/-- the entries, from the place where their number stands -/
noncomputable def getL (bs : List Nat) (a : Nat) : Except Nat (List (Nat × List Nat) × Nat) :=
  match uvE bs a with
  | .error e => .error e
  | .ok (n, a1) => if 65535 < n then .error 9 else reps (rawE bs) n a1
/-- the place behind the sum -/
noncomputable def getS (bs : List Nat) (a : Nat) : Except Nat Nat :=
  if bs.length < a + 4 then .error 2 else
  if numB ((bs.drop a).take 4) = crcS (bs.take a) then .ok (a + 4) else .error 7
open Classical in
/-- the index that bytes begin with, and how many bytes it has; or what is amiss first -/
noncomputable def getI (bs : List Nat) : Except Nat (Nat × List Ent × Nat) :=
  match getK bs with
  | .error e => .error e
  | .ok (k, a) =>
    match getL bs a with
    | .error e => .error e
    | .ok (rs, a1) =>
      match getS bs a1 with
      | .error e => .error e
      | .ok a2 => if May k (rs.map progE) ∧ lensN (rs.map progE) = bs.length - a2 then .ok (k, rs.map progE, a2) else .error 8
/-- as the laws' own answer: kind, entries, number of bytes, error's number -/
noncomputable def ansI (bs : List Nat) : Nat × List Ent × Nat × Nat :=
  match getI bs with
  | .error e => (0, [], 0, e)
  | .ok (k, es, n) => (k, es, n, 0)

theorem getL_fit {bs : List Nat} (hb : ∀ x ∈ bs, x < 256) {a : Nat} {rs : List (Nat × List Nat)} {a1 : Nat} (h : getL bs a = .ok (rs, a1)) :
    ∃ v, uvE bs a = .ok (rs.length, v) ∧ rs.length ≤ 65535 ∧ (∀ r ∈ rs, FitR r) ∧ a1 = v + ((rs.map rawB).flatten).length ∧ a1 ≤ bs.length ∧ v ≤ bs.length ∧ ∃ rest, bs.drop v = (rs.map rawB).flatten ++ rest := by
  unfold getL at h
  cases hu : uvE bs a with
  | error e => rw [hu] at h; cases h
  | ok p =>
    obtain ⟨n, v⟩ := p
    rw [hu] at h
    simp only at h
    split at h
    · cases h
    · have hv : v ≤ bs.length := by
        obtain ⟨m, rfl, hx⟩ := uvE_at hu
        exact (uat_in hb hx).2.1
      obtain ⟨k1, k2, k3, k4, k5⟩ := reps_back (bs := bs) (E := rawB) (P := FitR) (fun a x a1 h => rawE_fit hb h) n v rs a1 h hv
      exact ⟨v, by rw [k1], by omega, k2, k3, k4, hv, k5⟩

theorem head_take {bs p q : List Nat} (h : bs = p ++ q) : bs.take p.length = p := by rw [h, List.take_left]

theorem getK_ok {bs : List Nat} {k a : Nat} (h : getK bs = .ok (k, a)) : (k = 1 ∨ k = 2) ∧ a = 5 ∧ bs.take 5 = [71, 84, 83, 49, k] ∧ 5 ≤ bs.length := by
  unfold getK at h
  split at h
  · cases h
  · rename_i h4
    split at h
    · cases h
    · rename_i h5
      split at h
      · rename_i h6
        simp only [Except.ok.injEq, Prod.mk.injEq] at h
        obtain ⟨rfl, rfl⟩ := h
        refine ⟨h6, rfl, ?_, by omega⟩
        have h4' : bs.take 4 = [71, 84, 83, 49] := by simpa using h4
        rw [List.take_succ_eq_append_getElem (by omega), h4', List.getD_eq_getElem?_getD, List.getElem?_eq_getElem (by omega)]
        rfl
      · cases h

/-- what is got may be, and, put, is those bytes -/
theorem getI_back {bs : List Nat} (hb : ∀ x ∈ bs, x < 256) {k : Nat} {es : List Ent} {n : Nat} (h : getI bs = .ok (k, es, n)) :
    May k es ∧ (∀ e ∈ es, FitE e) ∧ n ≤ bs.length ∧ idxB k es = bs.take n := by
  unfold getI at h
  cases hk : getK bs with
  | error e => rw [hk] at h; cases h
  | ok p =>
    obtain ⟨k', a⟩ := p
    rw [hk] at h
    simp only at h
    cases hl : getL bs a with
    | error e => rw [hl] at h; cases h
    | ok q =>
      obtain ⟨rs, a1⟩ := q
      rw [hl] at h
      simp only at h
      cases hs : getS bs a1 with
      | error e => rw [hs] at h; cases h
      | ok a2 =>
        rw [hs] at h
        simp only at h
        split at h
        · rename_i hm
          simp only [Except.ok.injEq, Prod.mk.injEq] at h
          obtain ⟨rfl, rfl, rfl⟩ := h
          obtain ⟨g1, rfl, g3, g4⟩ := getK_ok hk
          obtain ⟨v, u1, u2, u3, u4, u5, u6, rest, u7⟩ := getL_fit hb hl
          obtain ⟨_, w1, w2⟩ := uvE_back hb u1
          obtain ⟨_, rest2, w3⟩ := w2 g4
          unfold getS at hs
          split at hs
          · cases hs
          · rename_i hs4
            split at hs
            · rename_i hsum
              simp only [Except.ok.injEq] at hs
              subst hs
              have hmE : ∀ r ∈ rs, MayE (progE r) := by
                intro r hr
                obtain ⟨j, hj, rfl⟩ := List.getElem_of_mem hr
                have := (hm.1.2.2 j (by simpa using hj)).1
                simpa [List.getD_eq_getElem?_getD, hj] using this
              have hent : entsB (rs.map progE) = (rs.map rawB).flatten := by
                unfold entsB
                rw [List.map_map]
                congr 1
                refine List.map_congr_left fun r hr => ?_
                simp only [Function.comp]
                rw [← rawB_of, rawOf_prog (u3 r hr) (hmE r hr)]
              have hhead : headB k' (rs.map progE) = bs.take a1 := by
                have e1 : bs = bs.take 5 ++ bs.drop 5 := (List.take_append_drop 5 bs).symm
                have e2 : bs.drop 5 = uvB rs.length ++ bs.drop v := by
                  rw [w3]
                  congr 1
                  rw [w1, ← List.drop_drop, w3, List.drop_left]
                have e3 : bs = headB k' (rs.map progE) ++ rest := by
                  rw [e1, g3, e2, u7]
                  simp only [headB, hent, List.length_map, List.append_assoc]
                have hlen : (headB k' (rs.map progE)).length = a1 := by
                  simp only [headB, List.length_append, List.length_map, hent, List.length_cons, List.length_nil]
                  omega
                rw [← hlen]
                exact (head_take e3).symm
              have h4l : ((bs.drop a1).take 4).length = 4 := by rw [List.length_take, List.length_drop]; omega
              have hb4 := bigB_numB ((bs.drop a1).take 4) (fun x hx => hb x (List.mem_of_mem_drop (List.mem_of_mem_take hx)))
              rw [h4l, hsum] at hb4
              refine ⟨hm.1, ?_, by omega, ?_⟩
              · intro e he
                obtain ⟨r, hr, rfl⟩ := List.mem_map.1 he
                exact progE_fit (u3 r hr)
              · unfold idxB
                rw [hhead, hb4, ← List.take_add]
            · cases hs
        · cases h

/-- what was put is got, if as many bytes stand behind it as its Lens tell; else it is error 8 -/
theorem getI_put {k : Nat} {es : List Ent} (hk : k = 1 ∨ k = 2) (hm : May k es) (hf : ∀ e ∈ es, FitE e) (rest : List Nat) :
    getI (idxB k es ++ rest) = if lensN es = rest.length then .ok (k, es, (idxB k es).length) else .error 8 := by
  obtain ⟨bs, hbs⟩ : ∃ bs, bs = idxB k es ++ rest := ⟨_, rfl⟩
  rw [← hbs]
  have hA : bs = [71, 84, 83, 49, k] ++ (uvB es.length ++ (entsB es ++ (bigB 4 (crcS (headB k es)) ++ rest))) := by
    rw [hbs]; simp only [idxB, headB, List.append_assoc]
  have hlen : bs.length = 5 + ((uvB es.length).length + ((entsB es).length + (4 + rest.length))) := by
    rw [hA]; simp [bigB_length]; omega
  have hmE : ∀ e ∈ es, MayE e := by
    intro r hr
    obtain ⟨j, hj, rfl⟩ := List.getElem_of_mem hr
    have := (hm.2.2 j hj).1
    simpa [List.getD_eq_getElem?_getD, hj] using this
  have hK : getK bs = .ok (k, 5) := by
    unfold getK
    rw [if_neg (by rw [hA]; simp), if_neg (by omega)]
    have : bs.getD 4 0 = k := by rw [hA]; simp
    rw [this, if_pos hk]
  have hd5 : bs.drop 5 = uvB es.length ++ (entsB es ++ (bigB 4 (crcS (headB k es)) ++ rest)) := by
    rw [hA]
    rfl
  have hU := uvE_put (by have := hm.2.1; omega) (by omega) hd5
  have hdv : bs.drop (5 + (uvB es.length).length) = entsB es ++ (bigB 4 (crcS (headB k es)) ++ rest) := by
    rw [← List.drop_drop, hd5, List.drop_left]
  have hmap : es.map entB = (es.map rawOf).map rawB := by
    rw [List.map_map]
    refine List.map_congr_left fun e _ => ?_
    simp only [Function.comp]
    rw [rawB_of]
  have hR := reps_put (bs := bs) (E := rawB) (g := fun r : Nat × List Nat => r) (f := rawE bs) (P := FitR) (fun r a rest hx hd => by
    rcases Nat.lt_or_ge bs.length a with hlt | hge
    · rw [List.drop_of_length_le (by omega)] at hd
      have := congrArg List.length hd
      simp only [rawB, List.length_nil, List.length_append, bigB_length] at this
      omega
    · exact rawE_put hx hge hd) (es.map rawOf) (5 + (uvB es.length).length) (bigB 4 (crcS (headB k es)) ++ rest) (by
      intro r hr
      obtain ⟨e, _, rfl⟩ := List.mem_map.1 hr
      exact rawOf_fit e) (by rw [hdv]; unfold entsB; rw [hmap])
  rw [← hmap] at hR
  simp only [List.length_map, List.map_id'] at hR
  have hL : getL bs 5 = .ok (es.map rawOf, 5 + (uvB es.length).length + (entsB es).length) := by
    unfold getL
    rw [hU]
    simp only
    rw [if_neg (by have := hm.2.1; omega), hR]
    rfl
  have hhead : (headB k es).length = 5 + (uvB es.length).length + (entsB es).length := by
    simp [headB]; omega
  have hsplit : bs = headB k es ++ (bigB 4 (crcS (headB k es)) ++ rest) := by rw [hbs]; simp only [idxB, List.append_assoc]
  have hcrc : crcS (headB k es) < 256 ^ 4 := by
    have := crcS_lt (headB_lt (k := k) (by omega) es)
    omega
  have hS : getS bs (5 + (uvB es.length).length + (entsB es).length) = .ok (5 + (uvB es.length).length + (entsB es).length + 4) := by
    rw [← hhead]
    unfold getS
    rw [if_neg (by omega)]
    have e1 : bs.take (headB k es).length = headB k es := head_take hsplit
    have e2 : bs.drop (headB k es).length = bigB 4 (crcS (headB k es)) ++ rest := by
      conv => lhs; rw [hsplit]
      rw [List.drop_left]
    rw [e1, e2, List.take_left' (bigB_length 4 _), numB_bigB 4 _ hcrc, if_pos rfl]
  have hback : (es.map rawOf).map progE = es := by
    rw [List.map_map]
    have : es.map (progE ∘ rawOf) = es.map id := List.map_congr_left fun e he => progE_of (hf e he) (hmE e he)
    rw [this, List.map_id]
  have hil : (idxB k es).length = 5 + (uvB es.length).length + (entsB es).length + 4 := by
    simp only [idxB, List.length_append, bigB_length, hhead]
  unfold getI
  rw [hK]
  simp only
  rw [hL]
  simp only
  rw [hS]
  simp only
  rw [hback, hil]
  by_cases hc : lensN es = rest.length
  · rw [if_pos hc, if_pos ⟨hm, by omega⟩]
  · rw [if_neg hc, if_neg (by omega)]

end Go.Proofs.Ytgmnhfkmneohcaa
