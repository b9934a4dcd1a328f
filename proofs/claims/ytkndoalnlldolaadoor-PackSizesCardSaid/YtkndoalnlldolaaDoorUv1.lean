/-
  Plain facts on numbers of some bytes (no program): a number's bytes, the bytes' number, what bytes begin with.
-/
import Derived.KernelRfl
namespace Go.Proofs.YtkndoalnlldolaaDoor

/-- the number of bytes, seven bits each, the lowest first -/
def uval : List Nat → Nat
  | [] => 0
  | x :: r => x % 128 + 128 * uval r
/-- a number's bytes -/
def uvB (v : Nat) : List Nat := if 127 < v then (v % 128 + 128) :: uvB (v / 128) else [v]
termination_by v

theorem uvB_more {v : Nat} (h : 127 < v) : uvB v = (v % 128 + 128) :: uvB (v / 128) := by rw [uvB, if_pos h]
theorem uvB_last {v : Nat} (h : ¬ 127 < v) : uvB v = [v] := by rw [uvB, if_neg h]
theorem uval_app (p q : List Nat) : uval (p ++ q) = uval p + 128 ^ p.length * uval q := by
  induction p with
  | nil => simp [uval]
  | cons x r ih =>
    simp only [List.cons_append, uval, ih, List.length_cons, Nat.pow_succ, Nat.mul_add]
    have : 128 ^ r.length * 128 * uval q = 128 * (128 ^ r.length * uval q) := by
      rw [Nat.mul_comm (128 ^ r.length) 128, Nat.mul_assoc]
    omega
theorem uval_lt (p : List Nat) : uval p < 128 ^ p.length := by
  induction p with
  | nil => simp [uval]
  | cons x r ih =>
    simp only [uval, List.length_cons, Nat.pow_succ]
    omega
theorem uval_uvB (v : Nat) : uval (uvB v) = v := by
  induction v using Nat.strongRecOn with
  | _ v ih =>
    by_cases h : 127 < v
    · rw [uvB_more h, uval, ih (v / 128) (by omega)]
      omega
    · rw [uvB_last h]
      simp [uval]
      omega
theorem uvB_form (v : Nat) : ∃ p c, uvB v = p ++ [c] ∧ (∀ x ∈ p, 128 ≤ x ∧ x < 256) ∧ c < 128 ∧ (p ≠ [] → c ≠ 0) := by
  induction v using Nat.strongRecOn with
  | _ v ih =>
    by_cases h : 127 < v
    · obtain ⟨p, c, e, hp, hc, hz⟩ := ih (v / 128) (by omega)
      refine ⟨(v % 128 + 128) :: p, c, by rw [uvB_more h, e]; rfl, ?_, hc, fun _ => ?_⟩
      · intro x hx
        rcases List.mem_cons.1 hx with rfl | hx
        · omega
        · exact hp x hx
      · by_cases hn : p = []
        · subst hn
          have h1 := uval_uvB (v / 128)
          rw [e] at h1
          simp [uval] at h1
          omega
        · exact hz hn
    · exact ⟨[], v, uvB_last h, by simp, by omega, fun h => absurd rfl h⟩
theorem uvB_len (k : Nat) : ∀ v, v < 128 ^ (k + 1) → (uvB v).length ≤ k + 1 := by
  induction k with
  | zero =>
    intro v hv
    rw [uvB_last (by omega)]
    simp
  | succ k ih =>
    intro v hv
    by_cases h : 127 < v
    · rw [uvB_more h, List.length_cons]
      have := ih (v / 128) (by rw [Nat.pow_succ] at hv; omega)
      omega
    · rw [uvB_last h]
      simp
theorem uvB_pos (v : Nat) : 0 < (uvB v).length := by
  obtain ⟨p, c, e, _⟩ := uvB_form v
  rw [e]; simp
theorem uvB_ten (v : Nat) (hv : v ≤ 18446744073709551615) : (uvB v).length ≤ 10 := uvB_len 9 v (by omega)
theorem uvB_lt (v : Nat) : ∀ x ∈ uvB v, x < 256 := by
  obtain ⟨p, c, e, hp, hc, _⟩ := uvB_form v
  rw [e]
  intro x hx
  rcases List.mem_append.1 hx with h | h
  · exact (hp x h).2
  · rw [List.mem_singleton.1 h]; omega
theorem uvB_uval (p : List Nat) : ∀ c, (∀ x ∈ p, 128 ≤ x ∧ x < 256) → c < 128 → (p ≠ [] → c ≠ 0) → uvB (uval (p ++ [c])) = p ++ [c] := by
  induction p with
  | nil =>
    intro c _ hc _
    have e : uval ([] ++ [c]) = c := by simp [uval]; omega
    rw [e, uvB_last (by omega)]
    rfl
  | cons x r ih =>
    intro c hp hc hz
    have h1 := ih c (fun y hy => hp y (List.mem_cons_of_mem _ hy)) hc (fun _ => hz (by simp))
    have hx := hp x (by simp)
    have hpos : 0 < uval (r ++ [c]) := by
      have h2 := hz (by simp)
      rcases Nat.eq_zero_or_pos (uval (r ++ [c])) with h0 | h0
      · exfalso
        rw [h0, uvB_last (by omega)] at h1
        cases r with
        | nil => simp at h1; omega
        | cons y s =>
          have h3 : (1 : Nat) = ((y :: s) ++ [c]).length := by rw [← h1]; rfl
          simp at h3
      · exact h0
    simp only [List.cons_append, uval]
    rw [uvB_more (by omega)]
    have e1 : (x % 128 + 128 * uval (r ++ [c])) % 128 + 128 = x := by omega
    have e2 : (x % 128 + 128 * uval (r ++ [c])) / 128 = uval (r ++ [c]) := by omega
    rw [e1, e2, h1]

/-- the first i bytes have their highest bits 1 -/
def Lead (l : List Nat) (i : Nat) : Prop := ∀ j, j < i → 128 ≤ l.getD j 0
theorem Lead.zero (l : List Nat) : Lead l 0 := fun j h => absurd h (by omega)
theorem Lead.succ {l : List Nat} {i : Nat} (h : Lead l i) (hi : 128 ≤ l.getD i 0) : Lead l (i + 1) := by
  intro j hj
  by_cases e : j = i
  · subst e; exact hi
  · exact h j (by omega)
theorem Lead.low {l : List Nat} {i j : Nat} (h : Lead l i) (hj : l.getD j 0 < 128) : i ≤ j := by
  rcases Nat.lt_or_ge j i with h1 | h1
  · have := h j h1; omega
  · exact h1
/-- what bytes begin with: a number, of how many bytes, what is amiss -/
inductive UGets (l : List Nat) : Nat → Nat → Nat → Prop
  | short (i : Nat) : i ≤ 9 → i = l.length → Lead l i → UGets l 0 0 2
  | ten : 9 < l.length → Lead l 9 → 1 < l.getD 9 0 → UGets l 0 0 3
  | zero (i : Nat) : 0 < i → i ≤ 9 → i < l.length → Lead l i → l.getD i 0 = 0 → UGets l 0 0 3
  | ok (i : Nat) : i ≤ 9 → i < l.length → Lead l i → l.getD i 0 < 128 → (i = 9 → l.getD 9 0 ≤ 1) → (0 < i → l.getD i 0 ≠ 0) → UGets l (uval (l.take (i + 1))) (i + 1) 0

theorem UGets.same {l : List Nat} {v n e v' n' e' : Nat} (h : UGets l v n e) (h' : UGets l v' n' e') : v = v' ∧ n = n' ∧ e = e' := by
  cases h with
  | short i h1 h2 h3 =>
    cases h' with
    | short => exact ⟨rfl, rfl, rfl⟩
    | ten => omega
    | zero j _ _ _ k3 k4 => have := h3.low (j := j) (by omega); omega
    | ok j _ _ k2 k3 => have := h3.low (j := j) (by omega); omega
  | ten h1 h2 h3 =>
    cases h' with
    | short => omega
    | ten => exact ⟨rfl, rfl, rfl⟩
    | zero => exact ⟨rfl, rfl, rfl⟩
    | ok j k0 _ k2 k3 k4 =>
      have := h2.low (j := j) (by omega)
      have e : j = 9 := by omega
      have := k4 e
      omega
  | zero i h0 h1 h2 h3 h4 =>
    cases h' with
    | short j _ _ k3 => have := k3.low (j := i) (by omega); omega
    | ten => exact ⟨rfl, rfl, rfl⟩
    | zero => exact ⟨rfl, rfl, rfl⟩
    | ok j k0 k1 k2 k3 k4 k5 =>
      have a := h3.low (j := j) (by omega)
      have b := k2.low (j := i) (by omega)
      have e : j = i := by omega
      subst e
      exact absurd h4 (k5 h0)
  | ok i h0 h1 h2 h3 h4 h5 =>
    cases h' with
    | short j _ _ k3 => have := k3.low (j := i) (by omega); omega
    | ten _ k2 _ =>
      have := k2.low (j := i) (by omega)
      have e : i = 9 := by omega
      have := h4 e
      omega
    | zero j k0 _ _ k3 k4 =>
      have a := h2.low (j := j) (by omega)
      have b := k3.low (j := i) (by omega)
      have e : j = i := by omega
      subst e
      exact absurd k4 (h5 k0)
    | ok j _ _ k2 k3 =>
      have a := h2.low (j := j) (by omega)
      have b := k2.low (j := i) (by omega)
      have e : j = i := by omega
      subst e
      exact ⟨rfl, rfl, rfl⟩

theorem getD_app_left {p q : List Nat} {j : Nat} (h : j < p.length) : (p ++ q).getD j 0 = p.getD j 0 := by
  simp [List.getD_eq_getElem?_getD, List.getElem?_append_left h]
theorem getD_mem {p : List Nat} {j : Nat} (h : j < p.length) : p.getD j 0 ∈ p := by
  simp [List.getD_eq_getElem?_getD, h]
theorem uval_last (p : List Nat) (c : Nat) : uval (p ++ [c]) = uval p + 128 ^ p.length * (c % 128) := by
  rw [uval_app]; simp [uval]

/-- a number's bytes are got, whatever stands behind them -/
theorem gets_put (v : Nat) (rest : List Nat) (hv : v ≤ 18446744073709551615) : UGets (uvB v ++ rest) v (uvB v).length 0 := by
  have ht := uvB_ten v hv
  have hu := uval_uvB v
  obtain ⟨p, c, e, hp, hc, hz⟩ := uvB_form v
  rw [e] at ht hu ⊢
  have hpl : p.length ≤ 9 := by simpa using ht
  have hat : (p ++ [c] ++ rest).getD p.length 0 = c := by simp [List.getD_eq_getElem?_getD]
  have htk : (p ++ [c] ++ rest).take (p.length + 1) = p ++ [c] := by
    have : p.length + 1 = (p ++ [c]).length := by simp
    rw [this, List.take_left]
  have h9 : p.length = 9 → c ≤ 1 := by
    intro h
    rw [uval_last, h] at hu
    have := Nat.mod_eq_of_lt hc
    rw [this] at hu
    omega
  have := UGets.ok (l := p ++ [c] ++ rest) p.length hpl (by simp) (fun j hj => by
    rw [List.append_assoc, getD_app_left hj]
    exact (hp _ (getD_mem hj)).1) (by rw [hat]; exact hc) (fun h => by rw [← h, hat]; exact h9 h) (fun h => by rw [hat]; exact hz (by intro h0; rw [h0] at h; simp at h))
  rw [htk, hu] at this
  simpa using this
/-- cut off they end too early -/
theorem gets_cut (v k : Nat) (hv : v ≤ 18446744073709551615) (hk : k < (uvB v).length) : UGets ((uvB v).take k) 0 0 2 := by
  have ht := uvB_ten v hv
  obtain ⟨p, c, e, hp, hc, hz⟩ := uvB_form v
  rw [e] at ht hk ⊢
  have hkp : k ≤ p.length := by simp at hk; omega
  refine .short k (by simp at ht; omega) (by simp at hk ⊢; omega) (fun j hj => ?_)
  rw [List.take_append_of_le_length hkp, List.getD_eq_getElem?_getD, List.getElem?_take_of_lt hj, ← List.getD_eq_getElem?_getD]
  exact (hp _ (getD_mem (by omega))).1
/-- what is got, put, is those bytes -/
theorem gets_back {l : List Nat} (hl : ∀ x ∈ l, x < 256) {v n e : Nat} (h : UGets l v n e) (he : e = 0) : n ≤ l.length ∧ uvB v = l.take n := by
  cases h with
  | short => cases he
  | ten => cases he
  | zero => cases he
  | ok i h0 h1 h2 h3 h4 h5 =>
    refine ⟨by omega, ?_⟩
    have e1 : l.take (i + 1) = l.take i ++ [l.getD i 0] := by
      rw [List.take_succ_eq_append_getElem h1]
      simp [List.getD_eq_getElem?_getD, h1]
    rw [e1]
    refine uvB_uval _ _ (fun x hx => ⟨?_, hl x (List.mem_of_mem_take hx)⟩) h3 (fun hn => h5 ?_)
    · obtain ⟨j, hj, rfl⟩ := List.getElem_of_mem hx
      rw [List.length_take] at hj
      have := h2 j (by omega)
      rw [List.getElem_take]
      rwa [List.getD_eq_getElem?_getD, List.getElem?_eq_getElem (by omega), Option.getD_some] at this
    · rcases Nat.eq_zero_or_pos i with h | h
      · subst h; simp at hn
      · exact h
/-- the next byte's seven bits are laid above -/
theorem uval_step {l : List Nat} {i : Nat} (h : i < l.length) : uval (l.take (i + 1)) = uval (l.take i) + 128 ^ i * (l.getD i 0 % 128) := by
  have e1 : l.take (i + 1) = l.take i ++ [l.getD i 0] := by
    rw [List.take_succ_eq_append_getElem h]
    simp [List.getD_eq_getElem?_getD, h]
  rw [e1, uval_last, List.length_take, Nat.min_eq_left (by omega)]
theorem uval_take_lt (l : List Nat) (i : Nat) : uval (l.take i) < 128 ^ i := by
  refine Nat.lt_of_lt_of_le (uval_lt _) (Nat.pow_le_pow_right (by omega) ?_)
  rw [List.length_take]; omega
theorem gets_le {l : List Nat} {v n e : Nat} (h : UGets l v n e) : v ≤ 18446744073709551615 ∧ n ≤ 10 ∧ (e = 0 ∨ e = 2 ∨ e = 3) := by
  cases h with
  | short => omega
  | ten => omega
  | zero => omega
  | ok i h0 h1 h2 h3 h4 h5 =>
    refine ⟨?_, by omega, .inl rfl⟩
    by_cases h9 : i = 9
    · subst h9
      rw [uval_step h1]
      have := uval_take_lt l 9
      have := h4 rfl
      have h6 : l.getD 9 0 % 128 ≤ 1 := by omega
      have h7 : 128 ^ 9 * (l.getD 9 0 % 128) ≤ 128 ^ 9 * 1 := Nat.mul_le_mul (Nat.le_refl _) h6
      omega
    · have h6 := uval_take_lt l (i + 1)
      have h7 : 128 ^ (i + 1) ≤ 128 ^ 9 := Nat.pow_le_pow_right (by omega) (by omega)
      omega

end Go.Proofs.YtkndoalnlldolaaDoor
