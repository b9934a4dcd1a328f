/-
  Plain facts on an index's bytes (no program): a number's bytes with the highest first, an index's bytes, what an index may be.
-/
import Derived.Test.YtkndoalnlldolaaDoorUv1
import Derived.Test.YtkndoalnlldolaaDoorCrc1
namespace Go.Proofs.YtkndoalnlldolaaDoor

/-- n bytes of a number, the highest first -/
def bigB : Nat → Nat → List Nat
  | 0, _ => []
  | n + 1, v => bigB n (v / 256) ++ [v % 256]
/-- the number of bytes, the highest first -/
def numB (bs : List Nat) : Nat := bs.foldl (fun v c => 256 * v + c) 0

theorem bigB_length (n : Nat) : ∀ v, (bigB n v).length = n := by
  induction n with
  | zero => intro v; rfl
  | succ n ih => intro v; simp [bigB, ih]
theorem bigB_lt (n : Nat) : ∀ v, ∀ x ∈ bigB n v, x < 256 := by
  induction n with
  | zero => intro v x hx; simp [bigB] at hx
  | succ n ih =>
    intro v x hx
    simp only [bigB, List.mem_append, List.mem_singleton] at hx
    rcases hx with hx | rfl
    · exact ih _ x hx
    · omega
/-- the other way: the highest one ahead -/
theorem bigB_cons (n : Nat) : ∀ v, bigB (n + 1) v = (v / 256 ^ n % 256) :: bigB n v := by
  induction n with
  | zero => intro v; simp [bigB]
  | succ n ih =>
    intro v
    rw [bigB, ih, bigB]
    have : v / 256 / 256 ^ n = v / 256 ^ (n + 1) := by rw [Nat.div_div_eq_div_mul, Nat.pow_succ, Nat.mul_comm]
    rw [this]
    rfl
theorem numB_nil : numB [] = 0 := rfl
theorem numB_last (p : List Nat) (c : Nat) : numB (p ++ [c]) = 256 * numB p + c := by simp [numB]
theorem numB_take {bs : List Nat} {k : Nat} (h : k < bs.length) : numB (bs.take (k + 1)) = 256 * numB (bs.take k) + bs.getD k 0 := by
  rw [List.take_succ_eq_append_getElem h, numB_last, List.getD_eq_getElem?_getD, List.getElem?_eq_getElem h]
  rfl
theorem rev_ind {P : List Nat → Prop} (h0 : P []) (h1 : ∀ p c, P p → P (p ++ [c])) (l : List Nat) : P l := by
  have key : ∀ n, ∀ l : List Nat, l.length = n → P l := by
    intro n
    induction n with
    | zero => intro l hl; rw [List.eq_nil_of_length_eq_zero hl]; exact h0
    | succ n ih =>
      intro l hl
      have hne : l ≠ [] := by intro h; rw [h] at hl; simp at hl
      rw [← List.dropLast_concat_getLast hne]
      exact h1 _ _ (ih _ (by rw [List.length_dropLast]; omega))
  exact key _ l rfl
theorem numB_lt (bs : List Nat) : (∀ x ∈ bs, x < 256) → numB bs < 256 ^ bs.length := by
  refine rev_ind (P := fun bs => (∀ x ∈ bs, x < 256) → numB bs < 256 ^ bs.length) (by simp [numB]) ?_ bs
  intro p c ih h
  have h1 := ih (fun x hx => h x (by simp [hx]))
  have h2 := h c (by simp)
  rw [numB_last, List.length_append, List.length_singleton, Nat.pow_succ]
  omega
theorem bigB_numB (bs : List Nat) : (∀ x ∈ bs, x < 256) → bigB bs.length (numB bs) = bs := by
  refine rev_ind (P := fun bs => (∀ x ∈ bs, x < 256) → bigB bs.length (numB bs) = bs) (by simp [bigB]) ?_ bs
  intro p c ih h
  have h1 := ih (fun x hx => h x (by simp [hx]))
  have h2 := h c (by simp)
  rw [numB_last, List.length_append, List.length_singleton, bigB, show (256 * numB p + c) / 256 = numB p by omega, show (256 * numB p + c) % 256 = c by omega, h1]
theorem numB_bigB (n : Nat) : ∀ v, v < 256 ^ n → numB (bigB n v) = v := by
  induction n with
  | zero => intro v hv; simp at hv; simp [bigB, numB, hv]
  | succ n ih =>
    intro v hv
    rw [Nat.pow_succ] at hv
    rw [bigB, numB_last, ih _ (by omega)]
    omega

/-- a chunk's entry -/
structure Ent where
  mn : Int
  mx : Int
  ct : Int
  ln : Int
def ent0 : Ent := ⟨0, 0, 0, 0⟩
/-- an entry's four numbers fit their types -/
def FitE (e : Ent) : Prop := (-9223372036854775808 ≤ e.mn ∧ e.mn ≤ 9223372036854775807) ∧ (-9223372036854775808 ≤ e.mx ∧ e.mx ≤ 9223372036854775807) ∧
  (-9223372036854775808 ≤ e.ct ∧ e.ct ≤ 9223372036854775807) ∧ (-9223372036854775808 ≤ e.ln ∧ e.ln ≤ 9223372036854775807)
/-- a number of 64 bits as one without a sign, and back -/
def u64n (x : Int) : Nat := (x % 18446744073709551616).toNat
def s64n (n : Nat) : Int := if n < 9223372036854775808 then (n : Int) else (n : Int) - 18446744073709551616
theorem u64n_le (x : Int) : u64n x ≤ 18446744073709551615 := by unfold u64n; omega
theorem u64n_is (x : Int) : ((u64n x : Nat) : Int) = x % 18446744073709551616 := by unfold u64n; omega
theorem s64n_fit {n : Nat} (h : n ≤ 18446744073709551615) : -9223372036854775808 ≤ s64n n ∧ s64n n ≤ 9223372036854775807 := by unfold s64n; split <;> omega
theorem u64n_s64n {n : Nat} (h : n ≤ 18446744073709551615) : u64n (s64n n) = n := by unfold u64n s64n; split <;> omega
theorem s64n_u64n {x : Int} (h : -9223372036854775808 ≤ x ∧ x ≤ 9223372036854775807) : s64n (u64n x) = x := by unfold u64n s64n; split <;> omega
theorem u64n_nat {x : Int} (h : 0 ≤ x ∧ x ≤ 9223372036854775807) : u64n x = x.toNat := by unfold u64n; omega

/-- an entry's bytes -/
def entB (e : Ent) : List Nat := bigB 8 (u64n e.mn) ++ (uvB (u64n (e.mx - e.mn)) ++ (uvB (u64n e.ct) ++ uvB (u64n e.ln)))
/-- the bytes of some entries -/
def entsB (es : List Ent) : List Nat := (es.map entB).flatten
/-- an index's bytes ahead of the sum, and all of them -/
def headB (k : Nat) (es : List Ent) : List Nat := [71, 84, 83, 49, k] ++ uvB es.length ++ entsB es
def idxB (k : Nat) (es : List Ent) : List Nat := headB k es ++ bigB 4 (crcS (headB k es))

theorem entB_lt (e : Ent) : ∀ x ∈ entB e, x < 256 := by
  intro x hx
  simp only [entB, List.mem_append] at hx
  rcases hx with h | h | h | h
  · exact bigB_lt _ _ x h
  · exact uvB_lt _ x h
  · exact uvB_lt _ x h
  · exact uvB_lt _ x h
theorem entB_len (e : Ent) : (entB e).length ≤ 38 ∧ 11 ≤ (entB e).length := by
  have h1 := uvB_ten (u64n (e.mx - e.mn)) (u64n_le _)
  have h2 := uvB_ten (u64n e.ct) (u64n_le _)
  have h3 := uvB_ten (u64n e.ln) (u64n_le _)
  have g1 := uvB_pos (u64n (e.mx - e.mn))
  have g2 := uvB_pos (u64n e.ct)
  have g3 := uvB_pos (u64n e.ln)
  simp only [entB, List.length_append, bigB_length]
  omega
theorem entsB_nil : entsB [] = [] := rfl
theorem entsB_cons (e : Ent) (r : List Ent) : entsB (e :: r) = entB e ++ entsB r := by simp [entsB]
theorem entsB_app (p q : List Ent) : entsB (p ++ q) = entsB p ++ entsB q := by simp [entsB]
theorem entsB_lt (es : List Ent) : ∀ x ∈ entsB es, x < 256 := by
  intro x hx
  simp only [entsB, List.mem_flatten, List.mem_map] at hx
  obtain ⟨l, ⟨e, _, rfl⟩, h⟩ := hx
  exact entB_lt e x h
theorem entsB_len (es : List Ent) : (entsB es).length ≤ 38 * es.length ∧ 11 * es.length ≤ (entsB es).length := by
  induction es with
  | nil => simp [entsB]
  | cons e r ih =>
    have := entB_len e
    rw [entsB_cons, List.length_append, List.length_cons]
    omega
theorem take_getD {es : List Ent} {k : Nat} (h : k < es.length) : es.take (k + 1) = es.take k ++ [es.getD k ent0] := by
  rw [List.take_succ_eq_append_getElem h, List.getD_eq_getElem?_getD, List.getElem?_eq_getElem h]
  rfl
theorem entsB_take {es : List Ent} {k : Nat} (h : k < es.length) : entsB (es.take (k + 1)) = entsB (es.take k) ++ entB (es.getD k ent0) := by
  rw [take_getD h, entsB_app, entsB_cons, entsB_nil, List.append_nil]
theorem headB_lt {k : Nat} (hk : k < 256) (es : List Ent) : ∀ x ∈ headB k es, x < 256 := by
  intro x hx
  simp only [headB, List.mem_append] at hx
  rcases hx with (h | h) | h
  · simp at h; omega
  · exact uvB_lt _ x h
  · exact entsB_lt _ x h
theorem headB_len (k : Nat) (es : List Ent) (h : es.length ≤ 18446744073709551615) : (headB k es).length ≤ 15 + 38 * es.length := by
  have := entsB_len es
  have := uvB_ten es.length h
  simp only [headB, List.length_append, List.length_cons, List.length_nil]
  omega

/-- what an entry may be, whatever is ahead of it -/
def MayE (e : Ent) : Prop := (1 ≤ e.ct ∧ e.ct ≤ 65535) ∧ (4 ≤ e.ln ∧ e.ln ≤ 2147483647) ∧ e.mn ≤ e.mx
/-- so may be the first i entries -/
def MayTo (es : List Ent) (i : Nat) : Prop := ∀ j, j < i → MayE (es.getD j ent0) ∧ (0 < j → (es.getD (j - 1) ent0).mx < (es.getD j ent0).mn)
theorem MayTo.zero (es : List Ent) : MayTo es 0 := fun j h => absurd h (by omega)
theorem MayTo.succ {es : List Ent} {i : Nat} (h : MayTo es i) (h1 : MayE (es.getD i ent0)) (h2 : 0 < i → (es.getD (i - 1) ent0).mx < (es.getD i ent0).mn) : MayTo es (i + 1) := by
  intro j hj
  by_cases e : j = i
  · subst e; exact ⟨h1, h2⟩
  · exact h j (by omega)
/-- what an index may be -/
def May (k : Int) (es : List Ent) : Prop := (k = 1 ∨ k = 2) ∧ es.length ≤ 65535 ∧ MayTo es es.length
/-- all Lens together -/
def lensN (es : List Ent) : Nat := (es.map (fun e => e.ln.toNat)).sum
theorem lensN_app (p q : List Ent) : lensN (p ++ q) = lensN p + lensN q := by simp [lensN]
theorem lensN_take {es : List Ent} {k : Nat} (h : k < es.length) : lensN (es.take (k + 1)) = lensN (es.take k) + (es.getD k ent0).ln.toNat := by
  rw [take_getD h, lensN_app]
  simp [lensN]

/-- one step behind another: what steps tell, and the place behind them -/
def reps {α : Type} (f : Nat → Except Nat (α × Nat)) : Nat → Nat → Except Nat (List α × Nat)
  | 0, a => .ok ([], a)
  | n + 1, a =>
    match f a with
    | .error e => .error e
    | .ok (x, a1) =>
      match reps f n a1 with
      | .error e => .error e
      | .ok (xs, a2) => .ok (x :: xs, a2)
/-- ahead of what is still to come -/
def cont {α : Type} (xs : List α) : Except Nat (List α × Nat) → Except Nat (List α × Nat)
  | .error e => .error e
  | .ok (ys, a) => .ok (xs ++ ys, a)
section
variable {α β : Type} {f : Nat → Except Nat (α × Nat)}
/-- N steps from a0 on have come to xs, and to the place a: what the rest comes to, the whole comes to -/
def AtReps (f : Nat → Except Nat (α × Nat)) (N a0 : Nat) (xs : List α) (a : Nat) : Prop := xs.length ≤ N ∧ reps f N a0 = cont xs (reps f (N - xs.length) a)
theorem AtReps.zero (N a0 : Nat) : AtReps f N a0 [] a0 := by
  refine ⟨by simp, ?_⟩
  simp only [List.length_nil, Nat.sub_zero]
  cases reps f N a0 with
  | error e => rfl
  | ok p => rfl
theorem AtReps.succ {N a0 a a1 : Nat} {xs : List α} {x : α} (h : AtReps f N a0 xs a) (hlt : xs.length < N) (hx : f a = .ok (x, a1)) : AtReps f N a0 (xs ++ [x]) a1 := by
  obtain ⟨_, h2⟩ := h
  refine ⟨by simp; omega, ?_⟩
  rw [h2]
  obtain ⟨m, hm⟩ : ∃ m, N - xs.length = m + 1 := ⟨N - xs.length - 1, by omega⟩
  have hm2 : N - (xs ++ [x]).length = m := by simp; omega
  rw [hm, hm2]
  simp only [reps, hx]
  cases reps f m a1 with
  | error e => rfl
  | ok p => simp [cont]
theorem AtReps.bad {N a0 a e : Nat} {xs : List α} (h : AtReps f N a0 xs a) (hlt : xs.length < N) (hx : f a = .error e) : reps f N a0 = .error e := by
  obtain ⟨_, h2⟩ := h
  rw [h2]
  obtain ⟨m, hm⟩ : ∃ m, N - xs.length = m + 1 := ⟨N - xs.length - 1, by omega⟩
  rw [hm]
  simp only [reps, hx, cont]
theorem AtReps.done {N a0 a : Nat} {xs : List α} (h : AtReps f N a0 xs a) (hlt : ¬ xs.length < N) : reps f N a0 = .ok (xs, a) := by
  obtain ⟨h1, h2⟩ := h
  rw [h2, show N - xs.length = 0 by omega]
  simp [reps, cont]
/-- what was laid is read -/
theorem reps_put {bs : List Nat} {E : α → List Nat} {g : α → β} {f : Nat → Except Nat (β × Nat)} {P : α → Prop}
    (hf : ∀ x a rest, P x → bs.drop a = E x ++ rest → f a = .ok (g x, a + (E x).length)) :
    ∀ (xs : List α) (a : Nat) (rest : List Nat), (∀ x ∈ xs, P x) → bs.drop a = (xs.map E).flatten ++ rest → reps f xs.length a = .ok (xs.map g, a + ((xs.map E).flatten).length) := by
  intro xs
  induction xs with
  | nil => intro a rest _ _; simp [reps]
  | cons x r ih =>
    intro a rest hP hd
    simp only [List.map_cons, List.flatten_cons, List.append_assoc] at hd
    have h1 := hf x a _ (hP x (by simp)) hd
    have hd2 : bs.drop (a + (E x).length) = (r.map E).flatten ++ rest := by
      rw [← List.drop_drop, hd, List.drop_left]
    have h2 := ih (a + (E x).length) rest (fun y hy => hP y (by simp [hy])) hd2
    simp only [List.length_cons, reps, h1, h2, List.map_cons, List.flatten_cons, List.length_append, Nat.add_assoc]
/-- what was read, laid, is those bytes -/
theorem reps_back {bs : List Nat} {E : α → List Nat} {P : α → Prop}
    (hf : ∀ a x a1, f a = .ok (x, a1) → P x ∧ a1 = a + (E x).length ∧ (a ≤ bs.length → a1 ≤ bs.length ∧ ∃ rest, bs.drop a = E x ++ rest)) :
    ∀ (n a : Nat) (xs : List α) (a1 : Nat), reps f n a = .ok (xs, a1) → a ≤ bs.length → xs.length = n ∧ (∀ x ∈ xs, P x) ∧ a1 = a + ((xs.map E).flatten).length ∧ a1 ≤ bs.length ∧ ∃ rest, bs.drop a = (xs.map E).flatten ++ rest := by
  intro n
  induction n with
  | zero =>
    intro a xs a1 h ha
    simp only [reps, Except.ok.injEq, Prod.mk.injEq] at h
    obtain ⟨rfl, rfl⟩ := h
    exact ⟨rfl, by simp, by simp, ha, bs.drop a, by simp⟩
  | succ n ih =>
    intro a xs a1 h ha
    simp only [reps] at h
    cases hx : f a with
    | error e => rw [hx] at h; cases h
    | ok p =>
      obtain ⟨x, a'⟩ := p
      rw [hx] at h
      simp only at h
      cases hr : reps f n a' with
      | error e => rw [hr] at h; cases h
      | ok q =>
        obtain ⟨ys, a''⟩ := q
        rw [hr] at h
        simp only [Except.ok.injEq, Prod.mk.injEq] at h
        obtain ⟨rfl, rfl⟩ := h
        obtain ⟨g1, g2, g3⟩ := hf a x a' hx
        obtain ⟨g4, rest, g5⟩ := g3 ha
        obtain ⟨k1, k2, k3, k4, rest2, k5⟩ := ih a' ys a'' hr g4
        refine ⟨by simp [k1], ?_, ?_, k4, rest2, ?_⟩
        · intro y hy
          rcases List.mem_cons.1 hy with rfl | hy
          · exact g1
          · exact k2 y hy
        · simp only [List.map_cons, List.flatten_cons, List.length_append]
          omega
        · simp only [List.map_cons, List.flatten_cons, List.append_assoc]
          rw [g5]
          congr 1
          have : bs.drop a' = rest := by rw [g2, ← List.drop_drop, g5, List.drop_left]
          rw [← this]
          exact k5
end

end Go.Proofs.YtkndoalnlldolaaDoor
