/-
  Texts of this proof, one behind the other: Uv1, Crc1, Idx1.
-/
import Derived.Test.YtaebljoacffghaaGreatDoorRows
import Derived.KernelRfl

/-
  Plain facts on numbers of some bytes (no program): a number's bytes, the bytes' number, what bytes begin with.
-/
namespace Go.Proofs.YtaebljoacffghaaGreatDoor

/-- the number of bytes, seven bits each, the lowest first -/
def uval : List Nat → Nat
  | [] => 0
  | x :: r => x % 128 + 128 * uval r
/-- a number's bytes -/
def uvB (v : Nat) : List Nat := if 127 < v then (v % 128 + 128) :: uvB (v / 128) else [v]
termination_by v

theorem uvB_more {v : Nat} (h : 127 < v) : uvB v = (v % 128 + 128) :: uvB (v / 128) := by rw [uvB, if_pos h]
theorem uvB_last {v : Nat} (h : ¬ 127 < v) : uvB v = [v] := by rw [uvB, if_neg h]
theorem uval_app (p q : List Nat) : uval (p ++ q) = uval p + 128 ^ p.length * uval q := by
  induction p with
  | nil => simp [uval]
  | cons x r ih =>
    simp only [List.cons_append, uval, ih, List.length_cons, Nat.pow_succ, Nat.mul_add]
    have : 128 ^ r.length * 128 * uval q = 128 * (128 ^ r.length * uval q) := by
      rw [Nat.mul_comm (128 ^ r.length) 128, Nat.mul_assoc]
    omega
theorem uval_lt (p : List Nat) : uval p < 128 ^ p.length := by
  induction p with
  | nil => simp [uval]
  | cons x r ih =>
    simp only [uval, List.length_cons, Nat.pow_succ]
    omega
theorem uval_uvB (v : Nat) : uval (uvB v) = v := by
  induction v using Nat.strongRecOn with
  | _ v ih =>
    by_cases h : 127 < v
    · rw [uvB_more h, uval, ih (v / 128) (by omega)]
      omega
    · rw [uvB_last h]
      simp [uval]
      omega
theorem uvB_form (v : Nat) : ∃ p c, uvB v = p ++ [c] ∧ (∀ x ∈ p, 128 ≤ x ∧ x < 256) ∧ c < 128 ∧ (p ≠ [] → c ≠ 0) := by
  induction v using Nat.strongRecOn with
  | _ v ih =>
    by_cases h : 127 < v
    · obtain ⟨p, c, e, hp, hc, hz⟩ := ih (v / 128) (by omega)
      refine ⟨(v % 128 + 128) :: p, c, by rw [uvB_more h, e]; rfl, ?_, hc, fun _ => ?_⟩
      · intro x hx
        rcases List.mem_cons.1 hx with rfl | hx
        · omega
        · exact hp x hx
      · by_cases hn : p = []
        · subst hn
          have h1 := uval_uvB (v / 128)
          rw [e] at h1
          simp [uval] at h1
          omega
        · exact hz hn
    · exact ⟨[], v, uvB_last h, by simp, by omega, fun h => absurd rfl h⟩
theorem uvB_len (k : Nat) : ∀ v, v < 128 ^ (k + 1) → (uvB v).length ≤ k + 1 := by
  induction k with
  | zero =>
    intro v hv
    rw [uvB_last (by omega)]
    simp
  | succ k ih =>
    intro v hv
    by_cases h : 127 < v
    · rw [uvB_more h, List.length_cons]
      have := ih (v / 128) (by rw [Nat.pow_succ] at hv; omega)
      omega
    · rw [uvB_last h]
      simp
theorem uvB_pos (v : Nat) : 0 < (uvB v).length := by
  obtain ⟨p, c, e, _⟩ := uvB_form v
  rw [e]; simp
theorem uvB_ten (v : Nat) (hv : v ≤ 18446744073709551615) : (uvB v).length ≤ 10 := uvB_len 9 v (by omega)
theorem uvB_lt (v : Nat) : ∀ x ∈ uvB v, x < 256 := by
  obtain ⟨p, c, e, hp, hc, _⟩ := uvB_form v
  rw [e]
  intro x hx
  rcases List.mem_append.1 hx with h | h
  · exact (hp x h).2
  · rw [List.mem_singleton.1 h]; omega
theorem uvB_uval (p : List Nat) : ∀ c, (∀ x ∈ p, 128 ≤ x ∧ x < 256) → c < 128 → (p ≠ [] → c ≠ 0) → uvB (uval (p ++ [c])) = p ++ [c] := by
  induction p with
  | nil =>
    intro c _ hc _
    have e : uval ([] ++ [c]) = c := by simp [uval]; omega
    rw [e, uvB_last (by omega)]
    rfl
  | cons x r ih =>
    intro c hp hc hz
    have h1 := ih c (fun y hy => hp y (List.mem_cons_of_mem _ hy)) hc (fun _ => hz (by simp))
    have hx := hp x (by simp)
    have hpos : 0 < uval (r ++ [c]) := by
      have h2 := hz (by simp)
      rcases Nat.eq_zero_or_pos (uval (r ++ [c])) with h0 | h0
      · exfalso
        rw [h0, uvB_last (by omega)] at h1
        cases r with
        | nil => simp at h1; omega
        | cons y s =>
          have h3 : (1 : Nat) = ((y :: s) ++ [c]).length := by rw [← h1]; rfl
          simp at h3
      · exact h0
    simp only [List.cons_append, uval]
    rw [uvB_more (by omega)]
    have e1 : (x % 128 + 128 * uval (r ++ [c])) % 128 + 128 = x := by omega
    have e2 : (x % 128 + 128 * uval (r ++ [c])) / 128 = uval (r ++ [c]) := by omega
    rw [e1, e2, h1]

/-- the first i bytes have their highest bits 1 -/
def Lead (l : List Nat) (i : Nat) : Prop := ∀ j, j < i → 128 ≤ l.getD j 0
theorem Lead.zero (l : List Nat) : Lead l 0 := fun j h => absurd h (by omega)
theorem Lead.succ {l : List Nat} {i : Nat} (h : Lead l i) (hi : 128 ≤ l.getD i 0) : Lead l (i + 1) := by
  intro j hj
  by_cases e : j = i
  · subst e; exact hi
  · exact h j (by omega)
theorem Lead.low {l : List Nat} {i j : Nat} (h : Lead l i) (hj : l.getD j 0 < 128) : i ≤ j := by
  rcases Nat.lt_or_ge j i with h1 | h1
  · have := h j h1; omega
  · exact h1
/-- what bytes begin with: a number, of how many bytes, what is amiss -/
inductive UGets (l : List Nat) : Nat → Nat → Nat → Prop
  | short (i : Nat) : i ≤ 9 → i = l.length → Lead l i → UGets l 0 0 2
  | ten : 9 < l.length → Lead l 9 → 1 < l.getD 9 0 → UGets l 0 0 3
  | zero (i : Nat) : 0 < i → i ≤ 9 → i < l.length → Lead l i → l.getD i 0 = 0 → UGets l 0 0 3
  | ok (i : Nat) : i ≤ 9 → i < l.length → Lead l i → l.getD i 0 < 128 → (i = 9 → l.getD 9 0 ≤ 1) → (0 < i → l.getD i 0 ≠ 0) → UGets l (uval (l.take (i + 1))) (i + 1) 0

theorem UGets.same {l : List Nat} {v n e v' n' e' : Nat} (h : UGets l v n e) (h' : UGets l v' n' e') : v = v' ∧ n = n' ∧ e = e' := by
  cases h with
  | short i h1 h2 h3 =>
    cases h' with
    | short => exact ⟨rfl, rfl, rfl⟩
    | ten => omega
    | zero j _ _ _ k3 k4 => have := h3.low (j := j) (by omega); omega
    | ok j _ _ k2 k3 => have := h3.low (j := j) (by omega); omega
  | ten h1 h2 h3 =>
    cases h' with
    | short => omega
    | ten => exact ⟨rfl, rfl, rfl⟩
    | zero => exact ⟨rfl, rfl, rfl⟩
    | ok j k0 _ k2 k3 k4 =>
      have := h2.low (j := j) (by omega)
      have e : j = 9 := by omega
      have := k4 e
      omega
  | zero i h0 h1 h2 h3 h4 =>
    cases h' with
    | short j _ _ k3 => have := k3.low (j := i) (by omega); omega
    | ten => exact ⟨rfl, rfl, rfl⟩
    | zero => exact ⟨rfl, rfl, rfl⟩
    | ok j k0 k1 k2 k3 k4 k5 =>
      have a := h3.low (j := j) (by omega)
      have b := k2.low (j := i) (by omega)
      have e : j = i := by omega
      subst e
      exact absurd h4 (k5 h0)
  | ok i h0 h1 h2 h3 h4 h5 =>
    cases h' with
    | short j _ _ k3 => have := k3.low (j := i) (by omega); omega
    | ten _ k2 _ =>
      have := k2.low (j := i) (by omega)
      have e : i = 9 := by omega
      have := h4 e
      omega
    | zero j k0 _ _ k3 k4 =>
      have a := h2.low (j := j) (by omega)
      have b := k3.low (j := i) (by omega)
      have e : j = i := by omega
      subst e
      exact absurd k4 (h5 k0)
    | ok j _ _ k2 k3 =>
      have a := h2.low (j := j) (by omega)
      have b := k2.low (j := i) (by omega)
      have e : j = i := by omega
      subst e
      exact ⟨rfl, rfl, rfl⟩

theorem getD_app_left {p q : List Nat} {j : Nat} (h : j < p.length) : (p ++ q).getD j 0 = p.getD j 0 := by
  simp [List.getD_eq_getElem?_getD, List.getElem?_append_left h]
theorem getD_mem {p : List Nat} {j : Nat} (h : j < p.length) : p.getD j 0 ∈ p := by
  simp [List.getD_eq_getElem?_getD, h]
theorem uval_last (p : List Nat) (c : Nat) : uval (p ++ [c]) = uval p + 128 ^ p.length * (c % 128) := by
  rw [uval_app]; simp [uval]

/-- a number's bytes are got, whatever stands behind them -/
theorem gets_put (v : Nat) (rest : List Nat) (hv : v ≤ 18446744073709551615) : UGets (uvB v ++ rest) v (uvB v).length 0 := by
  have ht := uvB_ten v hv
  have hu := uval_uvB v
  obtain ⟨p, c, e, hp, hc, hz⟩ := uvB_form v
  rw [e] at ht hu ⊢
  have hpl : p.length ≤ 9 := by simpa using ht
  have hat : (p ++ [c] ++ rest).getD p.length 0 = c := by simp [List.getD_eq_getElem?_getD]
  have htk : (p ++ [c] ++ rest).take (p.length + 1) = p ++ [c] := by
    have : p.length + 1 = (p ++ [c]).length := by simp
    rw [this, List.take_left]
  have h9 : p.length = 9 → c ≤ 1 := by
    intro h
    rw [uval_last, h] at hu
    have := Nat.mod_eq_of_lt hc
    rw [this] at hu
    omega
  have := UGets.ok (l := p ++ [c] ++ rest) p.length hpl (by simp) (fun j hj => by
    rw [List.append_assoc, getD_app_left hj]
    exact (hp _ (getD_mem hj)).1) (by rw [hat]; exact hc) (fun h => by rw [← h, hat]; exact h9 h) (fun h => by rw [hat]; exact hz (by intro h0; rw [h0] at h; simp at h))
  rw [htk, hu] at this
  simpa using this
/-- cut off they end too early -/
theorem gets_cut (v k : Nat) (hv : v ≤ 18446744073709551615) (hk : k < (uvB v).length) : UGets ((uvB v).take k) 0 0 2 := by
  have ht := uvB_ten v hv
  obtain ⟨p, c, e, hp, hc, hz⟩ := uvB_form v
  rw [e] at ht hk ⊢
  have hkp : k ≤ p.length := by simp at hk; omega
  refine .short k (by simp at ht; omega) (by simp at hk ⊢; omega) (fun j hj => ?_)
  rw [List.take_append_of_le_length hkp, List.getD_eq_getElem?_getD, List.getElem?_take_of_lt hj, ← List.getD_eq_getElem?_getD]
  exact (hp _ (getD_mem (by omega))).1
/-- what is got, put, is those bytes -/
theorem gets_back {l : List Nat} (hl : ∀ x ∈ l, x < 256) {v n e : Nat} (h : UGets l v n e) (he : e = 0) : n ≤ l.length ∧ uvB v = l.take n := by
  cases h with
  | short => cases he
  | ten => cases he
  | zero => cases he
  | ok i h0 h1 h2 h3 h4 h5 =>
    refine ⟨by omega, ?_⟩
    have e1 : l.take (i + 1) = l.take i ++ [l.getD i 0] := by
      rw [List.take_succ_eq_append_getElem h1]
      simp [List.getD_eq_getElem?_getD, h1]
    rw [e1]
    refine uvB_uval _ _ (fun x hx => ⟨?_, hl x (List.mem_of_mem_take hx)⟩) h3 (fun hn => h5 ?_)
    · obtain ⟨j, hj, rfl⟩ := List.getElem_of_mem hx
      rw [List.length_take] at hj
      have := h2 j (by omega)
      rw [List.getElem_take]
      rwa [List.getD_eq_getElem?_getD, List.getElem?_eq_getElem (by omega), Option.getD_some] at this
    · rcases Nat.eq_zero_or_pos i with h | h
      · subst h; simp at hn
      · exact h
/-- the next byte's seven bits are laid above -/
theorem uval_step {l : List Nat} {i : Nat} (h : i < l.length) : uval (l.take (i + 1)) = uval (l.take i) + 128 ^ i * (l.getD i 0 % 128) := by
  have e1 : l.take (i + 1) = l.take i ++ [l.getD i 0] := by
    rw [List.take_succ_eq_append_getElem h]
    simp [List.getD_eq_getElem?_getD, h]
  rw [e1, uval_last, List.length_take, Nat.min_eq_left (by omega)]
theorem uval_take_lt (l : List Nat) (i : Nat) : uval (l.take i) < 128 ^ i := by
  refine Nat.lt_of_lt_of_le (uval_lt _) (Nat.pow_le_pow_right (by omega) ?_)
  rw [List.length_take]; omega
theorem gets_le {l : List Nat} {v n e : Nat} (h : UGets l v n e) : v ≤ 18446744073709551615 ∧ n ≤ 10 ∧ (e = 0 ∨ e = 2 ∨ e = 3) := by
  cases h with
  | short => omega
  | ten => omega
  | zero => omega
  | ok i h0 h1 h2 h3 h4 h5 =>
    refine ⟨?_, by omega, .inl rfl⟩
    by_cases h9 : i = 9
    · subst h9
      rw [uval_step h1]
      have := uval_take_lt l 9
      have := h4 rfl
      have h6 : l.getD 9 0 % 128 ≤ 1 := by omega
      have h7 : 128 ^ 9 * (l.getD 9 0 % 128) ≤ 128 ^ 9 * 1 := Nat.mul_le_mul (Nat.le_refl _) h6
      omega
    · have h6 := uval_take_lt l (i + 1)
      have h7 : 128 ^ (i + 1) ≤ 128 ^ 9 := Nat.pow_le_pow_right (by omega) (by omega)
      omega

end Go.Proofs.YtaebljoacffghaaGreatDoor

/-
  Plain: the register of a sum of bytes: a bit that goes out of it, some bits, some bytes. It is the same of unlike bytes on both sides, bit by bit; so unlike four bytes make unlike registers.
-/
namespace Go.Proofs.YtaebljoacffghaaGreatDoor

/-- what the register is turned by where a 1 goes out -/
def crcP : Nat := 3988292384
/-- one bit goes out -/
def out1 (r : Nat) : Nat := if r % 2 = 1 then (r / 2) ^^^ crcP else r / 2
/-- k bits go out -/
def outN : Nat → Nat → Nat
  | 0, r => r
  | k + 1, r => outN k (out1 r)
/-- the register behind bytes -/
def crcR : Nat → List Nat → Nat
  | r, [] => r
  | r, c :: cs => crcR (outN 8 (r ^^^ c)) cs
/-- the sum of bytes -/
def crcS (bs : List Nat) : Nat := 4294967295 ^^^ crcR 4294967295 bs
/-- bytes as one number, the lowest first -/
def leN : List Nat → Nat
  | [] => 0
  | c :: cs => c ^^^ (256 * leN cs)

theorem out1_lt {r : Nat} (h : r < 4294967296) : out1 r < 4294967296 := by
  unfold out1
  split
  · exact Nat.xor_lt_two_pow (n := 32) (by omega) (by decide)
  · omega
theorem outN_lt : ∀ (k : Nat) {r : Nat}, r < 4294967296 → outN k r < 4294967296
  | 0, _, h => h
  | k + 1, _, h => outN_lt k (out1_lt h)
theorem outN_succ : ∀ (k r : Nat), outN (k + 1) r = out1 (outN k r)
  | 0, _ => rfl
  | k + 1, r => outN_succ k (out1 r)
theorem outN_add : ∀ (k j r : Nat), outN (k + j) r = outN j (outN k r)
  | 0, j, r => by rw [Nat.zero_add]; rfl
  | k + 1, j, r => by rw [Nat.succ_add]; exact outN_add k j (out1 r)

theorem xor_mod2 (a b : Nat) : (a ^^^ b) % 2 = if a % 2 = b % 2 then 0 else 1 := by
  have h : (a ^^^ b).testBit 0 = (a.testBit 0 ^^ b.testBit 0) := Nat.testBit_xor ..
  simp only [Nat.testBit_zero] at h
  rcases Nat.mod_two_eq_zero_or_one a with ha | ha <;> rcases Nat.mod_two_eq_zero_or_one b with hb | hb <;> rcases Nat.mod_two_eq_zero_or_one (a ^^^ b) with hc | hc <;> simp_all
theorem xor_div2 (a b : Nat) : (a ^^^ b) / 2 = (a / 2) ^^^ (b / 2) := by
  apply Nat.eq_of_testBit_eq
  intro i
  simp only [Nat.testBit_div_two, Nat.testBit_xor]
theorem xor_xor_mid (a b c : Nat) : (a ^^^ c) ^^^ (b ^^^ c) = a ^^^ b := by
  apply Nat.eq_of_testBit_eq
  intro i
  simp only [Nat.testBit_xor]
  cases a.testBit i <;> cases b.testBit i <;> cases c.testBit i <;> rfl
theorem xor_swap4 (a b c d : Nat) : (a ^^^ b) ^^^ (c ^^^ d) = (a ^^^ c) ^^^ (b ^^^ d) := by
  apply Nat.eq_of_testBit_eq
  intro i
  simp only [Nat.testBit_xor]
  cases a.testBit i <;> cases b.testBit i <;> cases c.testBit i <;> cases d.testBit i <;> rfl
theorem xor_eq_zero' {a b : Nat} (h : a ^^^ b = 0) : a = b := by
  apply Nat.eq_of_testBit_eq
  intro i
  have h2 : (a ^^^ b).testBit i = false := by rw [h]; exact Nat.zero_testBit i
  rw [Nat.testBit_xor] at h2
  revert h2
  cases a.testBit i <;> cases b.testBit i <;> simp
theorem out1_xor (a b : Nat) : out1 (a ^^^ b) = out1 a ^^^ out1 b := by
  unfold out1
  rw [xor_mod2, xor_div2]
  rcases Nat.mod_two_eq_zero_or_one a with ha | ha <;> rcases Nat.mod_two_eq_zero_or_one b with hb | hb
  · simp [ha, hb]
  · simp only [ha, hb]
    simp [Nat.xor_assoc]
  · simp only [ha, hb]
    simp only [Nat.one_ne_zero, if_false, if_true, Nat.zero_ne_one]
    rw [Nat.xor_assoc, Nat.xor_assoc, Nat.xor_comm crcP]
  · simp only [ha, hb, if_true]
    rw [xor_xor_mid]
    simp
theorem outN_xor : ∀ (k a b : Nat), outN k (a ^^^ b) = outN k a ^^^ outN k b
  | 0, _, _ => rfl
  | k + 1, a, b => by
    show outN k (out1 (a ^^^ b)) = _
    rw [out1_xor]
    exact outN_xor k (out1 a) (out1 b)
theorem out1_zero {r : Nat} (h : r < 4294967296) (h0 : out1 r = 0) : r = 0 := by
  unfold out1 at h0
  split at h0
  · have := xor_eq_zero' h0
    unfold crcP at this
    omega
  · omega
theorem outN_of_zero : ∀ k : Nat, outN k 0 = 0
  | 0 => rfl
  | k + 1 => outN_of_zero k
theorem outN_zero : ∀ (k : Nat) {r : Nat}, r < 4294967296 → outN k r = 0 → r = 0
  | 0, _, _, h0 => h0
  | k + 1, _, h, h0 => out1_zero h (outN_zero k (out1_lt h) h0)
theorem out1_two (v : Nat) : out1 (2 * v) = v := by
  unfold out1
  rw [if_neg (by omega)]
  omega
theorem outN_eight (v : Nat) : outN 8 (256 * v) = v := by
  have e : 256 * v = 2 * (2 * (2 * (2 * (2 * (2 * (2 * (2 * v))))))) := by omega
  rw [e]
  simp only [outN, out1_two]

theorem crcR_nil (r : Nat) : crcR r [] = r := by unfold crcR; rfl
theorem crcR_cons (r c : Nat) (cs : List Nat) : crcR r (c :: cs) = crcR (outN 8 (r ^^^ c)) cs := by
  conv => lhs; unfold crcR
theorem crcR_lt : ∀ (bs : List Nat) {r : Nat}, r < 4294967296 → (∀ x ∈ bs, x < 256) → crcR r bs < 4294967296
  | [], _, h, _ => by rw [crcR_nil]; exact h
  | c :: cs, r, h, hb => by
    rw [crcR_cons]
    exact crcR_lt cs (outN_lt 8 (Nat.xor_lt_two_pow (n := 32) h (by have := hb c (by simp); omega))) fun x hx => hb x (by simp [hx])
theorem crcR_app : ∀ (p q : List Nat) (r : Nat), crcR r (p ++ q) = crcR (crcR r p) q
  | [], _, r => by rw [crcR_nil, List.nil_append]
  | c :: cs, q, r => by
    rw [List.cons_append, crcR_cons, crcR_cons]
    exact crcR_app cs q (outN 8 (r ^^^ c))
theorem crcR_le : ∀ (bs : List Nat) (r : Nat), crcR r bs = outN (8 * bs.length) (r ^^^ leN bs)
  | [], r => by rw [crcR_nil]; simp [leN, outN]
  | c :: cs, r => by
    rw [crcR_cons, crcR_le cs, List.length_cons, show 8 * (cs.length + 1) = 8 + 8 * cs.length by omega, outN_add]
    congr 1
    show _ = outN 8 (r ^^^ (c ^^^ 256 * leN cs))
    rw [← Nat.xor_assoc, outN_xor 8 (r ^^^ c), outN_eight]
theorem crcR_two (p q : List Nat) (r s : Nat) (h : p.length = q.length) : crcR r p ^^^ crcR s q = outN (8 * p.length) ((r ^^^ s) ^^^ (leN p ^^^ leN q)) := by
  rw [crcR_le, crcR_le, ← h, ← outN_xor, xor_swap4]

theorem le_app (c v : Nat) (h : c < 256) : c ^^^ (256 * v) = c + 256 * v := by
  have := Nat.two_pow_add_eq_or_of_lt (i := 8) h v
  rw [show (2 : Nat) ^ 8 * v + c = c + 256 * v by omega] at this
  rw [this]
  apply Nat.eq_of_testBit_eq
  intro i
  rw [Nat.testBit_xor, Nat.testBit_or, show (256 : Nat) * v = 2 ^ 8 * v by omega, Nat.testBit_two_pow_mul]
  by_cases hi : 8 ≤ i
  · have : c.testBit i = false := Nat.testBit_lt_two_pow (Nat.lt_of_lt_of_le h (Nat.pow_le_pow_right (n := 2) (by omega) hi))
    simp [this]
  · simp [hi]
theorem le_four {v : Nat} (h : v < 4294967296) : leN [v % 256, v / 256 % 256, v / 65536 % 256, v / 16777216 % 256] = v := by
  simp only [leN]
  rw [le_app _ _ (by omega), le_app _ _ (by omega), le_app _ _ (by omega), le_app _ _ (by omega)]
  omega
theorem mul256_xor (a b : Nat) : 256 * (a ^^^ b) = (256 * a) ^^^ (256 * b) := by
  apply Nat.eq_of_testBit_eq
  intro i
  rw [Nat.testBit_xor, show ∀ v : Nat, 256 * v = 2 ^ 8 * v from fun v => by omega]
  simp only [show ∀ v : Nat, 256 * v = 2 ^ 8 * v from fun v => by omega, Nat.testBit_two_pow_mul, Nat.testBit_xor]
  by_cases hi : 8 ≤ i <;> simp [hi]
/-- bytes that are turned by bytes -/
theorem le_xor : ∀ (p q : List Nat), p.length = q.length → leN (List.zipWith (fun x y => x ^^^ y) p q) = leN p ^^^ leN q
  | [], [], _ => rfl
  | [], _ :: _, h => by cases h
  | _ :: _, [], h => by cases h
  | x :: p, y :: q, h => by
    show (x ^^^ y) ^^^ 256 * leN (List.zipWith (fun x y => x ^^^ y) p q) = (x ^^^ 256 * leN p) ^^^ (y ^^^ 256 * leN q)
    rw [le_xor p q (by simpa using h), mul256_xor, xor_swap4]

/-- the four bytes of a number -/
def four (v : Nat) : List Nat := [v % 256, v / 256 % 256, v / 65536 % 256, v / 16777216 % 256]
theorem four_lt (v : Nat) : ∀ x ∈ four v, x < 256 := by
  intro x hx
  simp only [four, List.mem_cons, List.not_mem_nil, or_false] at hx
  omega
/-- four bytes turned by four others -/
def turned (v u : Nat) : List Nat := List.zipWith (fun x y => x ^^^ y) (four v) (four u)

/-- bytes of which four that stand together are turned have the same sum just if they are the same -/
theorem crcS_turned (a b : List Nat) (v u : Nat) (ha : ∀ x ∈ a, x < 256) (hu : u < 4294967296) :
    decide (crcS (a ++ four v ++ b) = crcS (a ++ turned v u ++ b)) = decide (u = 0) := by
  have hr : crcR 4294967295 a < 4294967296 := crcR_lt a (by omega) ha
  have e4 : crcR (crcR 4294967295 a) (four v) ^^^ crcR (crcR 4294967295 a) (turned v u) = outN 32 u := by
    rw [crcR_two (four v) (turned v u) _ _ rfl, Nat.xor_self, Nat.zero_xor, show 8 * (four v).length = 32 from rfl]
    unfold turned
    rw [le_xor (four v) (four u) rfl, ← Nat.xor_assoc, Nat.xor_self, Nat.zero_xor]
    exact congrArg _ (le_four hu)
  have e : crcR 4294967295 (a ++ four v ++ b) ^^^ crcR 4294967295 (a ++ turned v u ++ b) = outN (8 * b.length) (outN 32 u) := by
    rw [crcR_app, crcR_app, crcR_app, crcR_app, crcR_two b b _ _ rfl, e4, Nat.xor_self, Nat.xor_zero]
  have hlt : outN 32 u < 4294967296 := outN_lt 32 hu
  have : crcS (a ++ four v ++ b) = crcS (a ++ turned v u ++ b) ↔ u = 0 := by
    constructor
    · intro h
      unfold crcS at h
      have h2 : crcR 4294967295 (a ++ four v ++ b) = crcR 4294967295 (a ++ turned v u ++ b) := by
        have := congrArg (fun x => 4294967295 ^^^ x) h
        simpa only [← Nat.xor_assoc, Nat.xor_self, Nat.zero_xor] using this
      rw [h2, Nat.xor_self] at e
      exact outN_zero 32 hu (outN_zero _ hlt e.symm)
    · rintro rfl
      rw [outN_of_zero, outN_of_zero] at e
      unfold crcS
      rw [xor_eq_zero' e]
  simp only [this]

theorem crcS_lt {bs : List Nat} (h : ∀ x ∈ bs, x < 256) : crcS bs < 4294967296 := Nat.xor_lt_two_pow (n := 32) (by omega) (crcR_lt bs (by omega) h)
theorem not_is {r : Nat} (h : r < 4294967296) : 4294967295 - r = 4294967295 ^^^ r := by
  apply Nat.eq_of_testBit_eq
  intro i
  have h1 : (2 ^ 32 - (r + 1)).testBit i = (decide (i < 32) && !r.testBit i) := Nat.testBit_two_pow_sub_succ h i
  have h2 : (2 ^ 32 - 1).testBit i = decide (i < 32) := Nat.testBit_two_pow_sub_one 32 i
  rw [show 4294967295 - r = 2 ^ 32 - (r + 1) by omega, h1, Nat.testBit_xor, show 4294967295 = 2 ^ 32 - 1 from rfl, h2]
  by_cases hi : i < 32
  · simp [hi]
  · have : r.testBit i = false := Nat.testBit_lt_two_pow (Nat.lt_of_lt_of_le h (Nat.pow_le_pow_right (n := 2) (by omega) (by omega : 32 ≤ i)))
    simp [hi, this]
theorem crcS_nil : crcS [] = 0 := by decide +kernel
theorem crcS_one : crcS [49, 50, 51, 52, 53, 54, 55, 56, 57] = 3421780262 := by decide +kernel

end Go.Proofs.YtaebljoacffghaaGreatDoor

/-
  Plain facts on an index's bytes (no program): a number's bytes with the highest first, an index's bytes, what an index may be.
-/
namespace Go.Proofs.YtaebljoacffghaaGreatDoor

/-- n bytes of a number, the highest first -/
def bigB : Nat → Nat → List Nat
  | 0, _ => []
  | n + 1, v => bigB n (v / 256) ++ [v % 256]
/-- the number of bytes, the highest first -/
def numB (bs : List Nat) : Nat := bs.foldl (fun v c => 256 * v + c) 0

theorem bigB_length (n : Nat) : ∀ v, (bigB n v).length = n := by
  induction n with
  | zero => intro v; rfl
  | succ n ih => intro v; simp [bigB, ih]
theorem bigB_lt (n : Nat) : ∀ v, ∀ x ∈ bigB n v, x < 256 := by
  induction n with
  | zero => intro v x hx; simp [bigB] at hx
  | succ n ih =>
    intro v x hx
    simp only [bigB, List.mem_append, List.mem_singleton] at hx
    rcases hx with hx | rfl
    · exact ih _ x hx
    · omega
/-- the other way: the highest one ahead -/
theorem bigB_cons (n : Nat) : ∀ v, bigB (n + 1) v = (v / 256 ^ n % 256) :: bigB n v := by
  induction n with
  | zero => intro v; simp [bigB]
  | succ n ih =>
    intro v
    rw [bigB, ih, bigB]
    have : v / 256 / 256 ^ n = v / 256 ^ (n + 1) := by rw [Nat.div_div_eq_div_mul, Nat.pow_succ, Nat.mul_comm]
    rw [this]
    rfl
theorem numB_nil : numB [] = 0 := rfl
theorem numB_last (p : List Nat) (c : Nat) : numB (p ++ [c]) = 256 * numB p + c := by simp [numB]
theorem numB_take {bs : List Nat} {k : Nat} (h : k < bs.length) : numB (bs.take (k + 1)) = 256 * numB (bs.take k) + bs.getD k 0 := by
  rw [List.take_succ_eq_append_getElem h, numB_last, List.getD_eq_getElem?_getD, List.getElem?_eq_getElem h]
  rfl
theorem rev_ind {P : List Nat → Prop} (h0 : P []) (h1 : ∀ p c, P p → P (p ++ [c])) (l : List Nat) : P l := by
  have key : ∀ n, ∀ l : List Nat, l.length = n → P l := by
    intro n
    induction n with
    | zero => intro l hl; rw [List.eq_nil_of_length_eq_zero hl]; exact h0
    | succ n ih =>
      intro l hl
      have hne : l ≠ [] := by intro h; rw [h] at hl; simp at hl
      rw [← List.dropLast_concat_getLast hne]
      exact h1 _ _ (ih _ (by rw [List.length_dropLast]; omega))
  exact key _ l rfl
theorem numB_lt (bs : List Nat) : (∀ x ∈ bs, x < 256) → numB bs < 256 ^ bs.length := by
  refine rev_ind (P := fun bs => (∀ x ∈ bs, x < 256) → numB bs < 256 ^ bs.length) (by simp [numB]) ?_ bs
  intro p c ih h
  have h1 := ih (fun x hx => h x (by simp [hx]))
  have h2 := h c (by simp)
  rw [numB_last, List.length_append, List.length_singleton, Nat.pow_succ]
  omega
theorem bigB_numB (bs : List Nat) : (∀ x ∈ bs, x < 256) → bigB bs.length (numB bs) = bs := by
  refine rev_ind (P := fun bs => (∀ x ∈ bs, x < 256) → bigB bs.length (numB bs) = bs) (by simp [bigB]) ?_ bs
  intro p c ih h
  have h1 := ih (fun x hx => h x (by simp [hx]))
  have h2 := h c (by simp)
  rw [numB_last, List.length_append, List.length_singleton, bigB, show (256 * numB p + c) / 256 = numB p by omega, show (256 * numB p + c) % 256 = c by omega, h1]
theorem numB_bigB (n : Nat) : ∀ v, v < 256 ^ n → numB (bigB n v) = v := by
  induction n with
  | zero => intro v hv; simp at hv; simp [bigB, numB, hv]
  | succ n ih =>
    intro v hv
    rw [Nat.pow_succ] at hv
    rw [bigB, numB_last, ih _ (by omega)]
    omega

/-- a chunk's entry -/
structure Ent where
  mn : Int
  mx : Int
  ct : Int
  ln : Int
def ent0 : Ent := ⟨0, 0, 0, 0⟩
/-- an entry's four numbers fit their types -/
def FitE (e : Ent) : Prop := (-9223372036854775808 ≤ e.mn ∧ e.mn ≤ 9223372036854775807) ∧ (-9223372036854775808 ≤ e.mx ∧ e.mx ≤ 9223372036854775807) ∧
  (-9223372036854775808 ≤ e.ct ∧ e.ct ≤ 9223372036854775807) ∧ (-9223372036854775808 ≤ e.ln ∧ e.ln ≤ 9223372036854775807)
/-- a number of 64 bits as one without a sign, and back -/
def u64n (x : Int) : Nat := (x % 18446744073709551616).toNat
def s64n (n : Nat) : Int := if n < 9223372036854775808 then (n : Int) else (n : Int) - 18446744073709551616
theorem u64n_le (x : Int) : u64n x ≤ 18446744073709551615 := by unfold u64n; omega
theorem u64n_is (x : Int) : ((u64n x : Nat) : Int) = x % 18446744073709551616 := by unfold u64n; omega
theorem s64n_fit {n : Nat} (h : n ≤ 18446744073709551615) : -9223372036854775808 ≤ s64n n ∧ s64n n ≤ 9223372036854775807 := by unfold s64n; split <;> omega
theorem u64n_s64n {n : Nat} (h : n ≤ 18446744073709551615) : u64n (s64n n) = n := by unfold u64n s64n; split <;> omega
theorem s64n_u64n {x : Int} (h : -9223372036854775808 ≤ x ∧ x ≤ 9223372036854775807) : s64n (u64n x) = x := by unfold u64n s64n; split <;> omega
theorem u64n_nat {x : Int} (h : 0 ≤ x ∧ x ≤ 9223372036854775807) : u64n x = x.toNat := by unfold u64n; omega

/-- an entry's bytes -/
def entB (e : Ent) : List Nat := bigB 8 (u64n e.mn) ++ (uvB (u64n (e.mx - e.mn)) ++ (uvB (u64n e.ct) ++ uvB (u64n e.ln)))
/-- the bytes of some entries -/
def entsB (es : List Ent) : List Nat := (es.map entB).flatten
/-- an index's bytes ahead of the sum, and all of them -/
def headB (k : Nat) (es : List Ent) : List Nat := [71, 84, 83, 49, k] ++ uvB es.length ++ entsB es
def idxB (k : Nat) (es : List Ent) : List Nat := headB k es ++ bigB 4 (crcS (headB k es))

theorem entB_lt (e : Ent) : ∀ x ∈ entB e, x < 256 := by
  intro x hx
  simp only [entB, List.mem_append] at hx
  rcases hx with h | h | h | h
  · exact bigB_lt _ _ x h
  · exact uvB_lt _ x h
  · exact uvB_lt _ x h
  · exact uvB_lt _ x h
theorem entB_len (e : Ent) : (entB e).length ≤ 38 ∧ 11 ≤ (entB e).length := by
  have h1 := uvB_ten (u64n (e.mx - e.mn)) (u64n_le _)
  have h2 := uvB_ten (u64n e.ct) (u64n_le _)
  have h3 := uvB_ten (u64n e.ln) (u64n_le _)
  have g1 := uvB_pos (u64n (e.mx - e.mn))
  have g2 := uvB_pos (u64n e.ct)
  have g3 := uvB_pos (u64n e.ln)
  simp only [entB, List.length_append, bigB_length]
  omega
theorem entsB_nil : entsB [] = [] := rfl
theorem entsB_cons (e : Ent) (r : List Ent) : entsB (e :: r) = entB e ++ entsB r := by simp [entsB]
theorem entsB_app (p q : List Ent) : entsB (p ++ q) = entsB p ++ entsB q := by simp [entsB]
theorem entsB_lt (es : List Ent) : ∀ x ∈ entsB es, x < 256 := by
  intro x hx
  simp only [entsB, List.mem_flatten, List.mem_map] at hx
  obtain ⟨l, ⟨e, _, rfl⟩, h⟩ := hx
  exact entB_lt e x h
theorem entsB_len (es : List Ent) : (entsB es).length ≤ 38 * es.length ∧ 11 * es.length ≤ (entsB es).length := by
  induction es with
  | nil => simp [entsB]
  | cons e r ih =>
    have := entB_len e
    rw [entsB_cons, List.length_append, List.length_cons]
    omega
theorem take_getD {es : List Ent} {k : Nat} (h : k < es.length) : es.take (k + 1) = es.take k ++ [es.getD k ent0] := by
  rw [List.take_succ_eq_append_getElem h, List.getD_eq_getElem?_getD, List.getElem?_eq_getElem h]
  rfl
theorem entsB_take {es : List Ent} {k : Nat} (h : k < es.length) : entsB (es.take (k + 1)) = entsB (es.take k) ++ entB (es.getD k ent0) := by
  rw [take_getD h, entsB_app, entsB_cons, entsB_nil, List.append_nil]
theorem headB_lt {k : Nat} (hk : k < 256) (es : List Ent) : ∀ x ∈ headB k es, x < 256 := by
  intro x hx
  simp only [headB, List.mem_append] at hx
  rcases hx with (h | h) | h
  · simp at h; omega
  · exact uvB_lt _ x h
  · exact entsB_lt _ x h
theorem headB_len (k : Nat) (es : List Ent) (h : es.length ≤ 18446744073709551615) : (headB k es).length ≤ 15 + 38 * es.length := by
  have := entsB_len es
  have := uvB_ten es.length h
  simp only [headB, List.length_append, List.length_cons, List.length_nil]
  omega

/-- what an entry may be, whatever is ahead of it -/
def MayE (e : Ent) : Prop := (1 ≤ e.ct ∧ e.ct ≤ 65535) ∧ (4 ≤ e.ln ∧ e.ln ≤ 2147483647) ∧ e.mn ≤ e.mx
/-- so may be the first i entries -/
def MayTo (es : List Ent) (i : Nat) : Prop := ∀ j, j < i → MayE (es.getD j ent0) ∧ (0 < j → (es.getD (j - 1) ent0).mx < (es.getD j ent0).mn)
theorem MayTo.zero (es : List Ent) : MayTo es 0 := fun j h => absurd h (by omega)
theorem MayTo.succ {es : List Ent} {i : Nat} (h : MayTo es i) (h1 : MayE (es.getD i ent0)) (h2 : 0 < i → (es.getD (i - 1) ent0).mx < (es.getD i ent0).mn) : MayTo es (i + 1) := by
  intro j hj
  by_cases e : j = i
  · subst e; exact ⟨h1, h2⟩
  · exact h j (by omega)
/-- what an index may be -/
def May (k : Int) (es : List Ent) : Prop := (k = 1 ∨ k = 2) ∧ es.length ≤ 65535 ∧ MayTo es es.length
/-- all Lens together -/
def lensN (es : List Ent) : Nat := (es.map (fun e => e.ln.toNat)).sum
theorem lensN_app (p q : List Ent) : lensN (p ++ q) = lensN p + lensN q := by simp [lensN]
theorem lensN_take {es : List Ent} {k : Nat} (h : k < es.length) : lensN (es.take (k + 1)) = lensN (es.take k) + (es.getD k ent0).ln.toNat := by
  rw [take_getD h, lensN_app]
  simp [lensN]

/-- one step behind another: what steps tell, and the place behind them -/
def reps {α : Type} (f : Nat → Except Nat (α × Nat)) : Nat → Nat → Except Nat (List α × Nat)
  | 0, a => .ok ([], a)
  | n + 1, a =>
    match f a with
    | .error e => .error e
    | .ok (x, a1) =>
      match reps f n a1 with
      | .error e => .error e
      | .ok (xs, a2) => .ok (x :: xs, a2)
/-- ahead of what is still to come -/
def cont {α : Type} (xs : List α) : Except Nat (List α × Nat) → Except Nat (List α × Nat)
  | .error e => .error e
  | .ok (ys, a) => .ok (xs ++ ys, a)
section
variable {α β : Type} {f : Nat → Except Nat (α × Nat)}
/-- N steps from a0 on have come to xs, and to the place a: what the rest comes to, the whole comes to -/
def AtReps (f : Nat → Except Nat (α × Nat)) (N a0 : Nat) (xs : List α) (a : Nat) : Prop := xs.length ≤ N ∧ reps f N a0 = cont xs (reps f (N - xs.length) a)
theorem AtReps.zero (N a0 : Nat) : AtReps f N a0 [] a0 := by
  refine ⟨by simp, ?_⟩
  simp only [List.length_nil, Nat.sub_zero]
  cases reps f N a0 with
  | error e => rfl
  | ok p => rfl
theorem AtReps.succ {N a0 a a1 : Nat} {xs : List α} {x : α} (h : AtReps f N a0 xs a) (hlt : xs.length < N) (hx : f a = .ok (x, a1)) : AtReps f N a0 (xs ++ [x]) a1 := by
  obtain ⟨_, h2⟩ := h
  refine ⟨by simp; omega, ?_⟩
  rw [h2]
  obtain ⟨m, hm⟩ : ∃ m, N - xs.length = m + 1 := ⟨N - xs.length - 1, by omega⟩
  have hm2 : N - (xs ++ [x]).length = m := by simp; omega
  rw [hm, hm2]
  simp only [reps, hx]
  cases reps f m a1 with
  | error e => rfl
  | ok p => simp [cont]
theorem AtReps.bad {N a0 a e : Nat} {xs : List α} (h : AtReps f N a0 xs a) (hlt : xs.length < N) (hx : f a = .error e) : reps f N a0 = .error e := by
  obtain ⟨_, h2⟩ := h
  rw [h2]
  obtain ⟨m, hm⟩ : ∃ m, N - xs.length = m + 1 := ⟨N - xs.length - 1, by omega⟩
  rw [hm]
  simp only [reps, hx, cont]
theorem AtReps.done {N a0 a : Nat} {xs : List α} (h : AtReps f N a0 xs a) (hlt : ¬ xs.length < N) : reps f N a0 = .ok (xs, a) := by
  obtain ⟨h1, h2⟩ := h
  rw [h2, show N - xs.length = 0 by omega]
  simp [reps, cont]
/-- what was laid is read -/
theorem reps_put {bs : List Nat} {E : α → List Nat} {g : α → β} {f : Nat → Except Nat (β × Nat)} {P : α → Prop}
    (hf : ∀ x a rest, P x → bs.drop a = E x ++ rest → f a = .ok (g x, a + (E x).length)) :
    ∀ (xs : List α) (a : Nat) (rest : List Nat), (∀ x ∈ xs, P x) → bs.drop a = (xs.map E).flatten ++ rest → reps f xs.length a = .ok (xs.map g, a + ((xs.map E).flatten).length) := by
  intro xs
  induction xs with
  | nil => intro a rest _ _; simp [reps]
  | cons x r ih =>
    intro a rest hP hd
    simp only [List.map_cons, List.flatten_cons, List.append_assoc] at hd
    have h1 := hf x a _ (hP x (by simp)) hd
    have hd2 : bs.drop (a + (E x).length) = (r.map E).flatten ++ rest := by
      rw [← List.drop_drop, hd, List.drop_left]
    have h2 := ih (a + (E x).length) rest (fun y hy => hP y (by simp [hy])) hd2
    simp only [List.length_cons, reps, h1, h2, List.map_cons, List.flatten_cons, List.length_append, Nat.add_assoc]
/-- what was read, laid, is those bytes -/
theorem reps_back {bs : List Nat} {E : α → List Nat} {P : α → Prop}
    (hf : ∀ a x a1, f a = .ok (x, a1) → P x ∧ a1 = a + (E x).length ∧ (a ≤ bs.length → a1 ≤ bs.length ∧ ∃ rest, bs.drop a = E x ++ rest)) :
    ∀ (n a : Nat) (xs : List α) (a1 : Nat), reps f n a = .ok (xs, a1) → a ≤ bs.length → xs.length = n ∧ (∀ x ∈ xs, P x) ∧ a1 = a + ((xs.map E).flatten).length ∧ a1 ≤ bs.length ∧ ∃ rest, bs.drop a = (xs.map E).flatten ++ rest := by
  intro n
  induction n with
  | zero =>
    intro a xs a1 h ha
    simp only [reps, Except.ok.injEq, Prod.mk.injEq] at h
    obtain ⟨rfl, rfl⟩ := h
    exact ⟨rfl, by simp, by simp, ha, bs.drop a, by simp⟩
  | succ n ih =>
    intro a xs a1 h ha
    simp only [reps] at h
    cases hx : f a with
    | error e => rw [hx] at h; cases h
    | ok p =>
      obtain ⟨x, a'⟩ := p
      rw [hx] at h
      simp only at h
      cases hr : reps f n a' with
      | error e => rw [hr] at h; cases h
      | ok q =>
        obtain ⟨ys, a''⟩ := q
        rw [hr] at h
        simp only [Except.ok.injEq, Prod.mk.injEq] at h
        obtain ⟨rfl, rfl⟩ := h
        obtain ⟨g1, g2, g3⟩ := hf a x a' hx
        obtain ⟨g4, rest, g5⟩ := g3 ha
        obtain ⟨k1, k2, k3, k4, rest2, k5⟩ := ih a' ys a'' hr g4
        refine ⟨by simp [k1], ?_, ?_, k4, rest2, ?_⟩
        · intro y hy
          rcases List.mem_cons.1 hy with rfl | hy
          · exact g1
          · exact k2 y hy
        · simp only [List.map_cons, List.flatten_cons, List.length_append]
          omega
        · simp only [List.map_cons, List.flatten_cons, List.append_assoc]
          rw [g5]
          congr 1
          have : bs.drop a' = rest := by rw [g2, ← List.drop_drop, g5, List.drop_left]
          rw [← this]
          exact k5
end

end Go.Proofs.YtaebljoacffghaaGreatDoor
