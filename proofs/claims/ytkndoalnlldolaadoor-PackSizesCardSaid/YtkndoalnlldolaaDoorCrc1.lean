/-
  Plain: the register of a sum of bytes: a bit that goes out of it, some bits, some bytes. It is the same of unlike bytes on both sides, bit by bit; so unlike four bytes make unlike registers.
-/
import Derived.Test.YtkndoalnlldolaaDoorRows
namespace Go.Proofs.YtkndoalnlldolaaDoor

/-- what the register is turned by where a 1 goes out -/
def crcP : Nat := 3988292384
/-- one bit goes out -/
def out1 (r : Nat) : Nat := if r % 2 = 1 then (r / 2) ^^^ crcP else r / 2
/-- k bits go out -/
def outN : Nat → Nat → Nat
  | 0, r => r
  | k + 1, r => outN k (out1 r)
/-- the register behind bytes -/
def crcR : Nat → List Nat → Nat
  | r, [] => r
  | r, c :: cs => crcR (outN 8 (r ^^^ c)) cs
/-- the sum of bytes -/
def crcS (bs : List Nat) : Nat := 4294967295 ^^^ crcR 4294967295 bs
/-- bytes as one number, the lowest first -/
def leN : List Nat → Nat
  | [] => 0
  | c :: cs => c ^^^ (256 * leN cs)

theorem out1_lt {r : Nat} (h : r < 4294967296) : out1 r < 4294967296 := by
  unfold out1
  split
  · exact Nat.xor_lt_two_pow (n := 32) (by omega) (by decide)
  · omega
theorem outN_lt : ∀ (k : Nat) {r : Nat}, r < 4294967296 → outN k r < 4294967296
  | 0, _, h => h
  | k + 1, _, h => outN_lt k (out1_lt h)
theorem outN_succ : ∀ (k r : Nat), outN (k + 1) r = out1 (outN k r)
  | 0, _ => rfl
  | k + 1, r => outN_succ k (out1 r)
theorem outN_add : ∀ (k j r : Nat), outN (k + j) r = outN j (outN k r)
  | 0, j, r => by rw [Nat.zero_add]; rfl
  | k + 1, j, r => by rw [Nat.succ_add]; exact outN_add k j (out1 r)

theorem xor_mod2 (a b : Nat) : (a ^^^ b) % 2 = if a % 2 = b % 2 then 0 else 1 := by
  have h : (a ^^^ b).testBit 0 = (a.testBit 0 ^^ b.testBit 0) := Nat.testBit_xor ..
  simp only [Nat.testBit_zero] at h
  rcases Nat.mod_two_eq_zero_or_one a with ha | ha <;> rcases Nat.mod_two_eq_zero_or_one b with hb | hb <;> rcases Nat.mod_two_eq_zero_or_one (a ^^^ b) with hc | hc <;> simp_all
theorem xor_div2 (a b : Nat) : (a ^^^ b) / 2 = (a / 2) ^^^ (b / 2) := by
  apply Nat.eq_of_testBit_eq
  intro i
  simp only [Nat.testBit_div_two, Nat.testBit_xor]
theorem xor_xor_mid (a b c : Nat) : (a ^^^ c) ^^^ (b ^^^ c) = a ^^^ b := by
  apply Nat.eq_of_testBit_eq
  intro i
  simp only [Nat.testBit_xor]
  cases a.testBit i <;> cases b.testBit i <;> cases c.testBit i <;> rfl
theorem xor_swap4 (a b c d : Nat) : (a ^^^ b) ^^^ (c ^^^ d) = (a ^^^ c) ^^^ (b ^^^ d) := by
  apply Nat.eq_of_testBit_eq
  intro i
  simp only [Nat.testBit_xor]
  cases a.testBit i <;> cases b.testBit i <;> cases c.testBit i <;> cases d.testBit i <;> rfl
theorem xor_eq_zero' {a b : Nat} (h : a ^^^ b = 0) : a = b := by
  apply Nat.eq_of_testBit_eq
  intro i
  have h2 : (a ^^^ b).testBit i = false := by rw [h]; exact Nat.zero_testBit i
  rw [Nat.testBit_xor] at h2
  revert h2
  cases a.testBit i <;> cases b.testBit i <;> simp
theorem out1_xor (a b : Nat) : out1 (a ^^^ b) = out1 a ^^^ out1 b := by
  unfold out1
  rw [xor_mod2, xor_div2]
  rcases Nat.mod_two_eq_zero_or_one a with ha | ha <;> rcases Nat.mod_two_eq_zero_or_one b with hb | hb
  · simp [ha, hb]
  · simp only [ha, hb]
    simp [Nat.xor_assoc]
  · simp only [ha, hb]
    simp only [Nat.one_ne_zero, if_false, if_true, Nat.zero_ne_one]
    rw [Nat.xor_assoc, Nat.xor_assoc, Nat.xor_comm crcP]
  · simp only [ha, hb, if_true]
    rw [xor_xor_mid]
    simp
theorem outN_xor : ∀ (k a b : Nat), outN k (a ^^^ b) = outN k a ^^^ outN k b
  | 0, _, _ => rfl
  | k + 1, a, b => by
    show outN k (out1 (a ^^^ b)) = _
    rw [out1_xor]
    exact outN_xor k (out1 a) (out1 b)
theorem out1_zero {r : Nat} (h : r < 4294967296) (h0 : out1 r = 0) : r = 0 := by
  unfold out1 at h0
  split at h0
  · have := xor_eq_zero' h0
    unfold crcP at this
    omega
  · omega
theorem outN_of_zero : ∀ k : Nat, outN k 0 = 0
  | 0 => rfl
  | k + 1 => outN_of_zero k
theorem outN_zero : ∀ (k : Nat) {r : Nat}, r < 4294967296 → outN k r = 0 → r = 0
  | 0, _, _, h0 => h0
  | k + 1, _, h, h0 => out1_zero h (outN_zero k (out1_lt h) h0)
theorem out1_two (v : Nat) : out1 (2 * v) = v := by
  unfold out1
  rw [if_neg (by omega)]
  omega
theorem outN_eight (v : Nat) : outN 8 (256 * v) = v := by
  have e : 256 * v = 2 * (2 * (2 * (2 * (2 * (2 * (2 * (2 * v))))))) := by omega
  rw [e]
  simp only [outN, out1_two]

theorem crcR_nil (r : Nat) : crcR r [] = r := by unfold crcR; rfl
theorem crcR_cons (r c : Nat) (cs : List Nat) : crcR r (c :: cs) = crcR (outN 8 (r ^^^ c)) cs := by
  conv => lhs; unfold crcR
theorem crcR_lt : ∀ (bs : List Nat) {r : Nat}, r < 4294967296 → (∀ x ∈ bs, x < 256) → crcR r bs < 4294967296
  | [], _, h, _ => by rw [crcR_nil]; exact h
  | c :: cs, r, h, hb => by
    rw [crcR_cons]
    exact crcR_lt cs (outN_lt 8 (Nat.xor_lt_two_pow (n := 32) h (by have := hb c (by simp); omega))) fun x hx => hb x (by simp [hx])
theorem crcR_app : ∀ (p q : List Nat) (r : Nat), crcR r (p ++ q) = crcR (crcR r p) q
  | [], _, r => by rw [crcR_nil, List.nil_append]
  | c :: cs, q, r => by
    rw [List.cons_append, crcR_cons, crcR_cons]
    exact crcR_app cs q (outN 8 (r ^^^ c))
theorem crcR_le : ∀ (bs : List Nat) (r : Nat), crcR r bs = outN (8 * bs.length) (r ^^^ leN bs)
  | [], r => by rw [crcR_nil]; simp [leN, outN]
  | c :: cs, r => by
    rw [crcR_cons, crcR_le cs, List.length_cons, show 8 * (cs.length + 1) = 8 + 8 * cs.length by omega, outN_add]
    congr 1
    show _ = outN 8 (r ^^^ (c ^^^ 256 * leN cs))
    rw [← Nat.xor_assoc, outN_xor 8 (r ^^^ c), outN_eight]
theorem crcR_two (p q : List Nat) (r s : Nat) (h : p.length = q.length) : crcR r p ^^^ crcR s q = outN (8 * p.length) ((r ^^^ s) ^^^ (leN p ^^^ leN q)) := by
  rw [crcR_le, crcR_le, ← h, ← outN_xor, xor_swap4]

theorem le_app (c v : Nat) (h : c < 256) : c ^^^ (256 * v) = c + 256 * v := by
  have := Nat.two_pow_add_eq_or_of_lt (i := 8) h v
  rw [show (2 : Nat) ^ 8 * v + c = c + 256 * v by omega] at this
  rw [this]
  apply Nat.eq_of_testBit_eq
  intro i
  rw [Nat.testBit_xor, Nat.testBit_or, show (256 : Nat) * v = 2 ^ 8 * v by omega, Nat.testBit_two_pow_mul]
  by_cases hi : 8 ≤ i
  · have : c.testBit i = false := Nat.testBit_lt_two_pow (Nat.lt_of_lt_of_le h (Nat.pow_le_pow_right (n := 2) (by omega) hi))
    simp [this]
  · simp [hi]
theorem le_four {v : Nat} (h : v < 4294967296) : leN [v % 256, v / 256 % 256, v / 65536 % 256, v / 16777216 % 256] = v := by
  simp only [leN]
  rw [le_app _ _ (by omega), le_app _ _ (by omega), le_app _ _ (by omega), le_app _ _ (by omega)]
  omega
theorem mul256_xor (a b : Nat) : 256 * (a ^^^ b) = (256 * a) ^^^ (256 * b) := by
  apply Nat.eq_of_testBit_eq
  intro i
  rw [Nat.testBit_xor, show ∀ v : Nat, 256 * v = 2 ^ 8 * v from fun v => by omega]
  simp only [show ∀ v : Nat, 256 * v = 2 ^ 8 * v from fun v => by omega, Nat.testBit_two_pow_mul, Nat.testBit_xor]
  by_cases hi : 8 ≤ i <;> simp [hi]
/-- bytes that are turned by bytes -/
theorem le_xor : ∀ (p q : List Nat), p.length = q.length → leN (List.zipWith (fun x y => x ^^^ y) p q) = leN p ^^^ leN q
  | [], [], _ => rfl
  | [], _ :: _, h => by cases h
  | _ :: _, [], h => by cases h
  | x :: p, y :: q, h => by
    show (x ^^^ y) ^^^ 256 * leN (List.zipWith (fun x y => x ^^^ y) p q) = (x ^^^ 256 * leN p) ^^^ (y ^^^ 256 * leN q)
    rw [le_xor p q (by simpa using h), mul256_xor, xor_swap4]

/-- the four bytes of a number -/
def four (v : Nat) : List Nat := [v % 256, v / 256 % 256, v / 65536 % 256, v / 16777216 % 256]
theorem four_lt (v : Nat) : ∀ x ∈ four v, x < 256 := by
  intro x hx
  simp only [four, List.mem_cons, List.not_mem_nil, or_false] at hx
  omega
/-- four bytes turned by four others -/
def turned (v u : Nat) : List Nat := List.zipWith (fun x y => x ^^^ y) (four v) (four u)

/-- bytes of which four that stand together are turned have the same sum just if they are the same -/
theorem crcS_turned (a b : List Nat) (v u : Nat) (ha : ∀ x ∈ a, x < 256) (hu : u < 4294967296) :
    decide (crcS (a ++ four v ++ b) = crcS (a ++ turned v u ++ b)) = decide (u = 0) := by
  have hr : crcR 4294967295 a < 4294967296 := crcR_lt a (by omega) ha
  have e4 : crcR (crcR 4294967295 a) (four v) ^^^ crcR (crcR 4294967295 a) (turned v u) = outN 32 u := by
    rw [crcR_two (four v) (turned v u) _ _ rfl, Nat.xor_self, Nat.zero_xor, show 8 * (four v).length = 32 from rfl]
    unfold turned
    rw [le_xor (four v) (four u) rfl, ← Nat.xor_assoc, Nat.xor_self, Nat.zero_xor]
    exact congrArg _ (le_four hu)
  have e : crcR 4294967295 (a ++ four v ++ b) ^^^ crcR 4294967295 (a ++ turned v u ++ b) = outN (8 * b.length) (outN 32 u) := by
    rw [crcR_app, crcR_app, crcR_app, crcR_app, crcR_two b b _ _ rfl, e4, Nat.xor_self, Nat.xor_zero]
  have hlt : outN 32 u < 4294967296 := outN_lt 32 hu
  have : crcS (a ++ four v ++ b) = crcS (a ++ turned v u ++ b) ↔ u = 0 := by
    constructor
    · intro h
      unfold crcS at h
      have h2 : crcR 4294967295 (a ++ four v ++ b) = crcR 4294967295 (a ++ turned v u ++ b) := by
        have := congrArg (fun x => 4294967295 ^^^ x) h
        simpa only [← Nat.xor_assoc, Nat.xor_self, Nat.zero_xor] using this
      rw [h2, Nat.xor_self] at e
      exact outN_zero 32 hu (outN_zero _ hlt e.symm)
    · rintro rfl
      rw [outN_of_zero, outN_of_zero] at e
      unfold crcS
      rw [xor_eq_zero' e]
  simp only [this]

theorem crcS_lt {bs : List Nat} (h : ∀ x ∈ bs, x < 256) : crcS bs < 4294967296 := Nat.xor_lt_two_pow (n := 32) (by omega) (crcR_lt bs (by omega) h)
theorem not_is {r : Nat} (h : r < 4294967296) : 4294967295 - r = 4294967295 ^^^ r := by
  apply Nat.eq_of_testBit_eq
  intro i
  have h1 : (2 ^ 32 - (r + 1)).testBit i = (decide (i < 32) && !r.testBit i) := Nat.testBit_two_pow_sub_succ h i
  have h2 : (2 ^ 32 - 1).testBit i = decide (i < 32) := Nat.testBit_two_pow_sub_one 32 i
  rw [show 4294967295 - r = 2 ^ 32 - (r + 1) by omega, h1, Nat.testBit_xor, show 4294967295 = 2 ^ 32 - 1 from rfl, h2]
  by_cases hi : i < 32
  · simp [hi]
  · have : r.testBit i = false := Nat.testBit_lt_two_pow (Nat.lt_of_lt_of_le h (Nat.pow_le_pow_right (n := 2) (by omega) (by omega : 32 ≤ i)))
    simp [hi, this]
theorem crcS_nil : crcS [] = 0 := by decide +kernel
theorem crcS_one : crcS [49, 50, 51, 52, 53, 54, 55, 56, 57] = 3421780262 := by decide +kernel

end Go.Proofs.YtkndoalnlldolaaDoor
