/-
  Texts of this proof, one behind the other: Lowest, Join, Put, PutAs, Ways.
-/
import Derived.Test.YtaebljoacffghaaGreatDoorWords
import Derived.Deep.RegionWith

/-
  The contracts of the program's size and lowest: the bytes that bits need; the n lowest bits of a number as bits.
-/
namespace Go.Proofs.YtaebljoacffghaaGreatDoor
open Go.RowKit

theorem size_any (n : Nat) (w : World) (hn : n ≤ 100000000) :
    Calls Tryz.prog 104 #[.int .i64 (n : Int)] w fun e w' => e = .returned (.int .i64 (((n + 7) / 8 : Nat) : Int)) ∧ w = w' := by
  go_enter Tryz.func104, Tryz.ntmps104
  go_wp2
  go_ret
  exact ⟨rfl, rfl⟩

/-- what a function that makes bits comes to -/
def RetBits (w : World) (p : List Bool) (e : Ending) (w' : World) : Prop :=
  ∃ A c, e = .returned (.agg #[.slice A (pack p).length c, .int .i64 ((p.length : Nat) : Int)]) ∧ Own w w' (.slice A (pack p).length c) (pack p)

theorem RetBits.mk {w w' : World} {A : Option Addr} {m n c : Nat} {p : List Bool} (h : Own w w' (.slice A m c) (pack p)) (hn : p.length = n) : RetBits w p (.returned (.agg #[.slice A m c, .int .i64 (n : Int)])) w' := by
  have hl := h.rd.len
  subst hl hn
  exact ⟨A, c, rfl, h⟩

/-- the i-th byte of a number of 64 bits -/
def byteOf64 (V i : Nat) : Nat := V / 2 ^ (56 - 8 * i) % 256
def bytesTo (V m k : Nat) : List Nat := (List.range m).map fun i => if i < k then byteOf64 V i else 0
theorem bytesTo_zero (V m : Nat) : List.replicate m 0 = bytesTo V m 0 := by
  apply getD_extN (by simp [bytesTo])
  intro i hi
  have hi' : i < m := by simpa using hi
  simp [bytesTo, List.getD_eq_getElem?_getD, hi']
theorem bytesTo_succ (V m k : Nat) : (bytesTo V m k).set k (byteOf64 V k) = bytesTo V m (k + 1) := by
  apply getD_extN (by simp [bytesTo])
  intro i hi
  have hi' : i < m := by simpa [bytesTo] using hi
  by_cases e : k = i
  · subst e
    simp [bytesTo, List.getD_eq_getElem?_getD, hi']
  · have e3 : (i < k + 1) ↔ (i < k) := by omega
    simp [bytesTo, List.getD_eq_getElem?_getD, hi', e, e3]
theorem bytesTo_all (v n : Nat) (hn : n ≤ 64) : bytesTo (v * 2 ^ (64 - n) % 2 ^ 64) ((n + 7) / 8) ((n + 7) / 8) = pack (low v n) := by
  apply eq_pack
  · intro x hx
    simp only [bytesTo, List.mem_map, List.mem_range] at hx
    obtain ⟨i, hi, rfl⟩ := hx
    rw [if_pos hi]
    unfold byteOf64
    omega
  · simp [bytesTo, low_length]
  · intro i hi
    simp only [bytesTo, List.length_map, List.length_range] at hi
    have h8 : i / 8 < (n + 7) / 8 := by omega
    have e : (bytesTo (v * 2 ^ (64 - n) % 2 ^ 64) ((n + 7) / 8) ((n + 7) / 8)).getD (i / 8) 0 = byteOf64 (v * 2 ^ (64 - n) % 2 ^ 64) (i / 8) := by
      simp [bytesTo, List.getD_eq_getElem?_getD, h8]
    unfold bit
    rw [e]
    unfold byteOf64
    rw [show (256 : Nat) = 2 ^ 8 from rfl, Nat.testBit_mod_two_pow, Nat.testBit_div_two_pow, Nat.testBit_mod_two_pow, Nat.mul_comm v, Nat.testBit_two_pow_mul]
    have h7 : 7 - i % 8 < 8 := by omega
    have h64 : 7 - i % 8 + (56 - 8 * (i / 8)) < 64 := by omega
    by_cases h : i < n
    · rw [low_getD _ _ _ h]
      have h1 : 64 - n ≤ 7 - i % 8 + (56 - 8 * (i / 8)) := by omega
      have h2 : 7 - i % 8 + (56 - 8 * (i / 8)) - (64 - n) = n - 1 - i := by omega
      simp [h7, h64, h1, h2]
    · have h1 : ¬ 64 - n ≤ 7 - i % 8 + (56 - 8 * (i / 8)) := by omega
      rw [List.getD_eq_getElem?_getD, List.getElem?_eq_none (by rw [low_length]; omega)]
      simp [h1]
theorem shl_wrap (v s : Nat) : IntKind.u64.wrap ((v : Int) * 2 ^ s) = ((v * 2 ^ s % 2 ^ 64 : Nat) : Int) := by
  have e : ∀ x : Int, IntKind.u64.wrap x = x % 18446744073709551616 := by intro x; simp [IntKind.wrap, IntKind.bits, IntKind.signed]
  rw [e]
  simp

set_option maxRecDepth 20000 in
set_option maxHeartbeats 400000 in
theorem lowest_any (v n : Nat) (w : World) (hn : n ≤ 64) :
    Calls Tryz.prog 137 #[.int .u64 (v : Int), .int .i64 (n : Int)] w (RetBits w (low v n)) := by
  go_enter Tryz.func137, Tryz.ntmps137
  go_wp2_with (first
    | (go_at_call 104; refine (size_any _ _ (by omega)).mono ?_; rintro e w1 ⟨rfl, rfl⟩)
    | (at_make; (refine wpList_mk rfl (.tmp 12) (.tmp 12) rfl (Below.refl _ _) ((n + 7) / 8) rfl rfl rfl rfl (by omega) ?_; intro w1 hown hb1)))
  rw [shl_wrap]
  have hV : v * 2 ^ (64 - n) % 2 ^ 64 ≤ 18446744073709551615 := by omega
  have HA := Lib.hid (bytesTo_all v n hn)
  generalize v * 2 ^ (64 - n) % 2 ^ 64 = V at *
  rw [bytesTo_zero V] at hown
  have hown : Own (w.alloc (.cells #[.slice none 0 0, .int .i64 0] 148)) w1 (.slice (some ⟨w.heap.size + 1, 0, none⟩) ((n + 7) / 8) ((n + 7) / 8)) (bytesTo V ((n + 7) / 8) 0) := by simpa using hown
  go_loopw [16] (fun i wr => ∃ k : Nat, k ≤ (n + 7) / 8 ∧ i = .int .i64 k ∧ Own (w.alloc (.cells #[.slice none 0 0, .int .i64 0] 148)) wr (.slice (some ⟨w.heap.size + 1, 0, none⟩) ((n + 7) / 8) ((n + 7) / 8)) (bytesTo V ((n + 7) / 8) k)) (fun i _ => (n + 7) / 8 - (intOf i).toNat)
  case atStart => exact ⟨0, by omega, rfl, hown⟩
  case round =>
    clear hown
    obtain ⟨k, hk, rfl, hown⟩ := hrel
    by_cases hlt : k < (n + 7) / 8
    · have hc := hown.cell k hlt
      have hf := hown.free k
      have H1 := Lib.hid (bytesTo_succ V ((n + 7) / 8) k)
      generalize (bytesTo V ((n + 7) / 8) k).getD k 0 = y at *
      go_wp2
      go_roundw
      case rel =>
        have h3 := hown.set k (byteOf64 V k)
        rw [H1.out] at h3
        refine ⟨k + 1, by omega, by go_num, ?_⟩
        exact h3
      case measure => simp [intOf]; omega
    · obtain ⟨c0, c1, f0, f1⟩ := two_new hown.bel
      go_wp2
      have e : k = (n + 7) / 8 := by omega
      subst e
      rw [HA.out] at hown
      exact bodyPost_ret (v := .agg #[.slice (some ⟨w.heap.size + 1, 0, none⟩) ((n + 7) / 8) ((n + 7) / 8), .int .i64 (n : Int)]) (by simp [results, Tryz.results137, go_sem, c0, c1]) rfl
        (RetBits.mk (hown.past2 ((Below.refl _ _).alloc (Nat.le_refl _) _) (Nat.le_refl _) (by simp) (Nat.le_refl _) (by simp) _ _) (low_length v n))

end Go.Proofs.YtaebljoacffghaaGreatDoor

/-
  The contract of the program's Join: bits, and others behind them, in new memory.
-/
namespace Go.Proofs.YtaebljoacffghaaGreatDoor
open Go.RowKit

/-- m bytes of bits -/
def padTo (m : Nat) (r : List Bool) : List Nat := (List.range m).map fun t => byteAt r (8 * t)
theorem padTo_length (m : Nat) (r : List Bool) : (padTo m r).length = m := by simp [padTo]
theorem padTo_lt (m : Nat) (r : List Bool) : ∀ x ∈ padTo m r, x < 256 := by
  intro x hx
  simp only [padTo, List.mem_map] at hx
  obtain ⟨k, _, rfl⟩ := hx
  exact byteAt_lt _ _
theorem padTo_getD (m : Nat) (r : List Bool) (t : Nat) (h : t < m) : (padTo m r).getD t 0 = byteAt r (8 * t) := by simp [padTo, List.getD_eq_getElem?_getD, h]
theorem padTo_bit (m : Nat) (r : List Bool) (i : Nat) (h : i < 8 * m) : bit (padTo m r) i = r.getD i false := by
  unfold bit
  rw [padTo_getD _ _ _ (by omega), byteAt_testBit _ _ _ (by omega)]
  congr 1
  omega
theorem padTo_all (p q : List Bool) : padTo ((p.length + q.length + 7) / 8) (p ++ (flat (pack q)).take (8 * ((q.length + 7) / 8))) = pack (p ++ q) := by
  apply eq_pack (padTo_lt _ _)
  · rw [padTo_length, List.length_append]
  · intro i hi
    rw [padTo_length] at hi
    rw [padTo_bit _ _ _ hi, List.take_of_length_le (by rw [flat_length, pack_length]; omega), List.getD_eq_getElem?_getD, List.getD_eq_getElem?_getD]
    by_cases h : i < p.length
    · rw [List.getElem?_append_left h, List.getElem?_append_left h]
    · rw [List.getElem?_append_right (by omega), List.getElem?_append_right (by omega), ← List.getD_eq_getElem?_getD, flat_getD, bit_pack, List.getD_eq_getElem?_getD]
theorem padTo_start (p : List Bool) (m : Nat) (h : (p.length + 7) / 8 ≤ m) : pack p ++ List.replicate (m - (p.length + 7) / 8) 0 = padTo m p := by
  apply bytes_ext
  · intro x hx
    rcases List.mem_append.1 hx with h | h
    · exact pack_lt p x h
    · have := List.eq_of_mem_replicate h; omega
  · exact padTo_lt _ _
  · rw [List.length_append, pack_length, List.length_replicate, padTo_length]; omega
  · intro i hi
    rw [List.length_append, pack_length, List.length_replicate] at hi
    rw [padTo_bit _ _ _ (by omega), ← bit_pack]
    unfold bit
    congr 1
    rw [List.getD_eq_getElem?_getD, List.getD_eq_getElem?_getD]
    by_cases h2 : i / 8 < (pack p).length
    · rw [List.getElem?_append_left h2]
    · rw [List.getElem?_append_right (by omega), List.getElem?_eq_none (by omega : (pack p).length ≤ i / 8)]
      simp only [List.getElem?_replicate]
      split <;> rfl
theorem set_getD (l : List Nat) (k m x : Nat) (hm : m < l.length) : (l.set k x).getD m 0 = if k = m then x else l.getD m 0 := by
  rw [List.getD_eq_getElem?_getD, List.getElem?_set, List.getD_eq_getElem?_getD]
  split
  · subst k; simp [hm]
  · rfl
theorem getD_app (p r : List Bool) (i : Nat) : (p ++ r).getD i false = if i < p.length then p.getD i false else r.getD (i - p.length) false := by
  rw [List.getD_eq_getElem?_getD]
  split
  · rw [List.getElem?_append_left (by assumption), List.getD_eq_getElem?_getD]
  · rw [List.getElem?_append_right (by omega), List.getD_eq_getElem?_getD]
theorem getD_take (r : List Bool) (n i : Nat) : (r.take n).getD i false = if i < n then r.getD i false else false := by
  rw [List.getD_eq_getElem?_getD]
  split
  · rw [List.getElem?_take_of_lt (by assumption), List.getD_eq_getElem?_getD]
  · rw [List.getElem?_eq_none (by rw [List.length_take]; omega)]; rfl
theorem testBit_big {y j : Nat} (hy : y < 256) (hj : 8 ≤ j) : y.testBit j = false := by
  apply Nat.testBit_lt_two_pow
  have := Nat.pow_le_pow_right (n := 2) (by omega) hj
  omega
/-- one round -/
def joinRound (m a s k y : Nat) (l : List Nat) : List Nat :=
  let l1 := l.set (a + k) (l.getD (a + k) 0 ||| y / 2 ^ s)
  if a + k + 1 < m then l1.set (a + k + 1) (y * 2 ^ (8 - s) % 256) else l1
theorem join_step (m : Nat) (p : List Bool) (ys : List Nat) (hy : ∀ x ∈ ys, x < 256) (k : Nat) (hm : p.length / 8 + k < m) :
    joinRound m (p.length / 8) (p.length % 8) k (ys.getD k 0) (padTo m (p ++ (flat ys).take (8 * k))) = padTo m (p ++ (flat ys).take (8 * (k + 1))) := by
  have hlt := getD_lt hy k
  have hbit : ∀ r, r < 8 → bit ys (8 * k + r) = (ys.getD k 0).testBit (7 - r) := by
    intro r hr
    unfold bit
    have e1 : (8 * k + r) / 8 = k := by omega
    have e2 : (8 * k + r) % 8 = r := by omega
    rw [e1, e2]
  generalize hs : p.length % 8 = s at *
  generalize ha : p.length / 8 = a at *
  generalize ys.getD k 0 = y at *
  have hold : ∀ i, i < 8 * m → bit (padTo m (p ++ (flat ys).take (8 * k))) i = if i < 8 * (a + k) + s then (p ++ flat ys).getD i false else false := by
    intro i hi
    rw [padTo_bit _ _ _ hi, getD_app, getD_take, getD_app]
    split
    · rw [if_pos (by omega)]
    · split
      · rw [if_pos (by omega)]
      · rw [if_neg (by omega)]
  have hnew : ∀ i, i < 8 * m → bit (padTo m (p ++ (flat ys).take (8 * (k + 1)))) i = if i < 8 * (a + k + 1) + s then (p ++ flat ys).getD i false else false := by
    intro i hi
    rw [padTo_bit _ _ _ hi, getD_app, getD_take, getD_app]
    split
    · rw [if_pos (by omega)]
    · split
      · rw [if_pos (by omega)]
      · rw [if_neg (by omega)]
  have hmid : ∀ r, r < 8 → (p ++ flat ys).getD (8 * (a + k) + s + r) false = y.testBit (7 - r) := by
    intro r hr
    rw [getD_app, if_neg (by omega), flat_getD, ← hbit r hr]
    congr 1
    omega
  have hb0 := padTo_lt m (p ++ (flat ys).take (8 * k))
  have hl0 := padTo_length m (p ++ (flat ys).take (8 * k))
  generalize padTo m (p ++ (flat ys).take (8 * k)) = l at *
  have ho : l.getD (a + k) 0 ||| y / 2 ^ s < 256 := Nat.or_lt_two_pow (n := 8) (getD_lt hb0 _) (Nat.lt_of_le_of_lt (Nat.div_le_self _ _) hlt)
  unfold joinRound
  apply bytes_ext
  · intro x hx
    dsimp only at hx
    split at hx
    · rcases List.mem_or_eq_of_mem_set hx with h | h
      · rcases List.mem_or_eq_of_mem_set h with h | h
        · exact hb0 x h
        · omega
      · omega
    · rcases List.mem_or_eq_of_mem_set hx with h | h
      · exact hb0 x h
      · omega
  · exact padTo_lt _ _
  · dsimp only
    rw [padTo_length]
    split <;> simp [hl0]
  · intro i hi
    have hi : i < 8 * m := by
      dsimp only at hi
      split at hi <;> simpa [hl0] using hi
    rw [hnew i hi]
    have h1 : ∀ l' : List Nat, l' = l.set (a + k) (l.getD (a + k) 0 ||| y / 2 ^ s) → l'.getD (i / 8) 0 = if a + k = i / 8 then l.getD (a + k) 0 ||| y / 2 ^ s else l.getD (i / 8) 0 := by
      rintro l' rfl
      rw [set_getD _ _ _ _ (by omega)]
    have hob := hold i hi
    unfold bit at hob
    by_cases e1 : a + k = i / 8
    · -- the byte into which bits are put
      have e : (if a + k + 1 < m then (l.set (a + k) (l.getD (a + k) 0 ||| y / 2 ^ s)).set (a + k + 1) (y * 2 ^ (8 - s) % 256) else l.set (a + k) (l.getD (a + k) 0 ||| y / 2 ^ s)).getD (i / 8) 0 = l.getD (a + k) 0 ||| y / 2 ^ s := by
        split
        · rw [set_getD _ _ _ _ (by rw [List.length_set]; omega), if_neg (by omega), h1 _ rfl, if_pos e1]
        · rw [h1 _ rfl, if_pos e1]
      have hob' : (l.getD (a + k) 0).testBit (7 - i % 8) = if i < 8 * (a + k) + s then (p ++ flat ys).getD i false else false := by
        rw [← e1] at hob
        exact hob
      unfold bit
      rw [e, Nat.testBit_or, hob', Nat.testBit_div_two_pow]
      by_cases h2 : i < 8 * (a + k) + s
      · rw [if_pos h2, if_pos (by omega), testBit_big hlt (by omega)]
        simp
      · rw [if_neg h2, if_pos (by omega)]
        have := hmid (i - (8 * (a + k) + s)) (by omega)
        rw [show 8 * (a + k) + s + (i - (8 * (a + k) + s)) = i from by omega] at this
        rw [this, Bool.false_or]
        congr 1
        omega
    · by_cases e2 : a + k + 1 = i / 8
      · have e : (if a + k + 1 < m then (l.set (a + k) (l.getD (a + k) 0 ||| y / 2 ^ s)).set (a + k + 1) (y * 2 ^ (8 - s) % 256) else l.set (a + k) (l.getD (a + k) 0 ||| y / 2 ^ s)).getD (i / 8) 0 = y * 2 ^ (8 - s) % 256 := by
          rw [if_pos (by omega), set_getD _ _ _ _ (by rw [List.length_set]; omega), if_pos e2]
        unfold bit
        rw [e, show (256 : Nat) = 2 ^ 8 from rfl, Nat.testBit_mod_two_pow, Nat.mul_comm y, Nat.testBit_two_pow_mul]
        by_cases h2 : i < 8 * (a + k + 1) + s
        · rw [if_pos h2]
          have := hmid (i - (8 * (a + k) + s)) (by omega)
          rw [show 8 * (a + k) + s + (i - (8 * (a + k) + s)) = i from by omega] at this
          rw [this]
          have h3 : 7 - i % 8 < 8 := by omega
          have h4 : 8 - s ≤ 7 - i % 8 := by omega
          have h5 : 7 - i % 8 - (8 - s) = 7 - (i - (8 * (a + k) + s)) := by omega
          simp [h3, h4, h5]
        · rw [if_neg h2]
          have h4 : ¬ 8 - s ≤ 7 - i % 8 := by omega
          simp [h4]
      · have e : (if a + k + 1 < m then (l.set (a + k) (l.getD (a + k) 0 ||| y / 2 ^ s)).set (a + k + 1) (y * 2 ^ (8 - s) % 256) else l.set (a + k) (l.getD (a + k) 0 ||| y / 2 ^ s)).getD (i / 8) 0 = l.getD (i / 8) 0 := by
          split
          · rw [set_getD _ _ _ _ (by rw [List.length_set]; omega), if_neg e2, h1 _ rfl, if_neg e1]
          · rw [h1 _ rfl, if_neg e1]
        unfold bit
        rw [e, hob]
        by_cases h2 : i < 8 * (a + k) + s
        · rw [if_pos h2, if_pos (by omega)]
        · rw [if_neg h2, if_neg (by omega)]

theorem joinRound_big {m a s k y : Nat} {l : List Nat} (h : a + k + 1 < m) : joinRound m a s k y l = (l.set (a + k) (l.getD (a + k) 0 ||| y / 2 ^ s)).set (a + k + 1) (y * 2 ^ (8 - s) % 256) := by
  unfold joinRound
  exact if_pos h
theorem joinRound_end {m a s k y : Nat} {l : List Nat} (h : ¬ a + k + 1 < m) : joinRound m a s k y l = l.set (a + k) (l.getD (a + k) 0 ||| y / 2 ^ s) := by
  unfold joinRound
  exact if_neg h
theorem or8 (o y s : Nat) (ho : o < 256) (hy : y < 256) : bits .or .u8 (o : Int) ((y : Int) / 2 ^ s) = ((o ||| y / 2 ^ s : Nat) : Int) := by
  have e1 : ((y : Int) / 2 ^ s) = ((y / 2 ^ s : Nat) : Int) := by simp
  rw [e1, u8_or_nat _ _ ho (Nat.lt_of_le_of_lt (Nat.div_le_self _ _) hy)]

/-- the world behind two boxes and the result's place -/
def boxed (w : World) (a b c d : Value) : World := ((w.alloc (.cells #[a, b] 148)).alloc (.cells #[c, d] 148)).alloc (.cells #[.slice none 0 0, .int .i64 0] 148)
theorem boxed_size (w : World) (a b c d : Value) : (boxed w a b c d).heap.size = w.heap.size + 3 := by simp [boxed]
theorem boxed_below (w : World) (a b c d : Value) : Below w.heap.size w (boxed w a b c d) :=
  (((Below.refl _ _).alloc (Nat.le_refl _) _).alloc (by simp) _).alloc (by simp; omega) _
theorem boxed_heap (w : World) (a b c d : Value) : (boxed w a b c d).heap[w.heap.size]? = some (.cells #[a, b] 148 (0, 0)) ∧ (boxed w a b c d).heap[w.heap.size + 1]? = some (.cells #[c, d] 148 (0, 0)) ∧
    (boxed w a b c d).heap[w.heap.size + 2]? = some (.cells #[.slice none 0 0, .int .i64 0] 148 (0, 0)) := by
  unfold boxed
  refine ⟨?_, ?_, ?_⟩
  · rw [Below.heap_alloc _ _ _ (by simp; omega), Below.heap_alloc _ _ _ (by simp)]
    exact heap_alloc_new w _
  · rw [Below.heap_alloc _ _ _ (by simp)]
    have := heap_alloc_new (w.alloc (.cells #[a, b] 148)) (.cells #[c, d] 148)
    simpa using this
  · have := heap_alloc_new ((w.alloc (.cells #[a, b] 148)).alloc (.cells #[c, d] 148)) (.cells #[.slice none 0 0, .int .i64 0] 148)
    simpa using this
theorem boxed_cells {w wx : World} {a b c d : Value} (h : Below (boxed w a b c d).heap.size (boxed w a b c d) wx) :
    (wx.cell? ⟨w.heap.size, 0, none⟩ = some a ∧ wx.cell? ⟨w.heap.size, 1, none⟩ = some b) ∧ (wx.cell? ⟨w.heap.size + 1, 0, none⟩ = some c ∧ wx.cell? ⟨w.heap.size + 1, 1, none⟩ = some d) ∧
    (wx.cell? ⟨w.heap.size + 2, 0, none⟩ = some (.slice none 0 0) ∧ wx.cell? ⟨w.heap.size + 2, 1, none⟩ = some (.int .i64 0)) ∧ wx.frozen? ⟨w.heap.size + 2, 0, none⟩ = false ∧ wx.frozen? ⟨w.heap.size + 2, 1, none⟩ = false := by
  have hs := boxed_size w a b c d
  obtain ⟨e0, e1, e2⟩ := boxed_heap w a b c d
  rw [← h.block _ (by rw [hs]; omega)] at e0 e1 e2
  refine ⟨⟨cell_of_row _ _ _ _ _ _ e0, cell_of_row _ _ _ _ _ _ e0⟩, ⟨cell_of_row _ _ _ _ _ _ e1, cell_of_row _ _ _ _ _ _ e1⟩, ⟨cell_of_row _ _ _ _ _ _ e2, cell_of_row _ _ _ _ _ _ e2⟩, frozen_of_row _ _ _ _ _ e2, frozen_of_row _ _ _ _ _ e2⟩

set_option maxRecDepth 20000 in
set_option maxHeartbeats 400000 in
theorem join_any (A1 A2 : Option Addr) (m1 c1 m2 c2 : Nat) (p q : List Bool) (w : World) (h1 : Rd w w.heap.size A1 m1 c1 (pack p)) (h2 : Rd w w.heap.size A2 m2 c2 (pack q)) (hn1 : p.length ≤ 10000000) (hn2 : q.length ≤ 10000000) :
    Calls Tryz.prog 86 #[.agg #[.slice A1 m1 c1, .int .i64 ((p.length : Nat) : Int)], .agg #[.slice A2 m2 c2, .int .i64 ((q.length : Nat) : Int)]] w (RetBits w (p ++ q)) := by
  have hm1 := h1.len
  have hm2 := h2.len
  rw [pack_length] at hm1 hm2
  have HALL := Lib.hid (padTo_all p q)
  have HST := Lib.hid (padTo_start p)
  have HM1 := Lib.hid hm1
  have HM2 := Lib.hid hm2
  clear hm1 hm2
  generalize hn1' : p.length = n1 at *
  generalize hn2' : q.length = n2 at *
  have HN1 := Lib.hid hn1'
  have HN2 := Lib.hid hn2'
  clear hn1' hn2'
  go_enter Tryz.func86, Tryz.ntmps86
  go_wp2_with (first
    | (go_at_call 104; refine (size_any (n1 + n2) _ (by omega)).mono ?_; rintro e w1 ⟨rfl, rfl⟩)
    | (at_make; (refine wpList_mk rfl (.tmp 17) (.tmp 17) rfl (Below.refl _ (boxed w _ _ _ _)) ((n1 + n2 + 7) / 8) rfl rfl rfl rfl (by omega) ?_; intro w1 hown0 _; have hown : Own (boxed w (.slice A1 m1 c1) (.int .i64 (n1 : Int)) (.slice A2 m2 c2) (.int .i64 (n2 : Int))) w1 (.slice (some ⟨w.heap.size + 3, 0, none⟩) ((n1 + n2 + 7) / 8) ((n1 + n2 + 7) / 8)) (List.replicate ((n1 + n2 + 7) / 8) 0) := by simpa using hown0); clear hown0; obtain ⟨⟨cx0, cx1⟩, ⟨cy0, cy1⟩, ⟨cr0, cr1⟩, fr0, fr1⟩ := boxed_cells hown.bel)
    | ((with_reducible show wpList _ _ _ _ _ _); refine wpList_cp (o := ⟨some 22, _, _, _, _, _⟩) rfl (.tmp 19) (.tmp 21) rfl rfl rfl hown (h1.below ((boxed_below w _ _ _ _).trans (hown.bel.mono (by rw [boxed_size]; omega)))) (by rw [← HM1.out]; omega) (by omega) ?_; intro w2 hown2; clear cx0 cx1 cy0 cy1 cr0 cr1 fr0 fr1; obtain ⟨⟨cx0, cx1⟩, ⟨cy0, cy1⟩, ⟨cr0, cr1⟩, fr0, fr1⟩ := boxed_cells hown2.bel))
  clear hown
  go_quiet (fail)
  go_wp2
  have hown : Own (boxed w (.slice A1 m1 c1) (.int .i64 (n1 : Int)) (.slice A2 m2 c2) (.int .i64 (n2 : Int))) w2 (.slice (some ⟨w.heap.size + 1 + 1 + 1, 0, none⟩) ((n1 + n2 + 7) / 8) ((n1 + n2 + 7) / 8)) (padTo ((n1 + n2 + 7) / 8) (p ++ (flat (pack q)).take (8 * 0))) := by
    have e := HST.out ((n1 + n2 + 7) / 8) (by omega)
    have e2 := HM1.out
    have e3 : pack p ++ List.drop m1 (List.replicate ((n1 + n2 + 7) / 8) 0) = padTo ((n1 + n2 + 7) / 8) p := by rw [List.drop_replicate, ← e2, e]
    rw [e3] at hown2
    simpa using hown2
  clear hown2 cx0 cx1 cy0 cy1 cr0 cr1 fr0 fr1
  have hown := hown.drewN nq
  have e7 : IntKind.i64.wrap ((n1 : Int) / 8) = ((n1 / 8 : Nat) : Int) := by rw [IntWalk.i64_in _ (by omega)]; simp
  have e8 : (n1 : Int).tmod 8 = ((n1 % 8 : Nat) : Int) := by rw [Int.tmod_eq_emod_of_nonneg (by omega)]; simp
  rw [e7, e8]
  clear e7 e8
  go_loopw [32] (fun i wr => ∃ k : Nat, k ≤ m2 ∧ i = .int .i64 k ∧ Own (boxed w (.slice A1 m1 c1) (.int .i64 (n1 : Int)) (.slice A2 m2 c2) (.int .i64 (n2 : Int))) wr (.slice (some ⟨w.heap.size + 1 + 1 + 1, 0, none⟩) ((n1 + n2 + 7) / 8) ((n1 + n2 + 7) / 8)) (padTo ((n1 + n2 + 7) / 8) (p ++ (flat (pack q)).take (8 * k)))) (fun i _ => m2 - (intOf i).toNat)
  case atStart => exact ⟨0, by omega, rfl, hown⟩
  case round =>
    clear hown
    obtain ⟨k, hk, rfl, hown⟩ := hrel
    by_cases hlt : k < m2
    · have hmm : n1 / 8 + k < (n1 + n2 + 7) / 8 := by have := HM2.out; omega
      have hbw := (boxed_below w (.slice A1 m1 c1) (.int .i64 (n1 : Int)) (.slice A2 m2 c2) (.int .i64 (n2 : Int))).trans (hown.bel.mono (by rw [boxed_size]; omega))
      obtain ⟨ad, rfl, hbl, hc⟩ := (h2.below hbw).at_ hlt
      have hy := getD_lt (pack_lt q) k
      have H3 := Lib.hid (join_step ((n1 + n2 + 7) / 8) p (pack q) (pack_lt q) k (by rw [HN1.out]; exact hmm))
      rw [HN1.out] at H3
      generalize (pack q).getD k 0 = y at *
      have ho := getD_lt (padTo_lt ((n1 + n2 + 7) / 8) (p ++ (flat (pack q)).take (8 * k))) (n1 / 8 + k)
      have hco := hown.cell (n1 / 8 + k) hmm
      have hfo := hown.free (n1 / 8 + k)
      clear hbw
      have H4 := Lib.hid (fun (h : n1 / 8 + k + 1 < (n1 + n2 + 7) / 8) => (joinRound_big h).symm.trans H3.out)
      have H5 := Lib.hid (fun (h : ¬ n1 / 8 + k + 1 < (n1 + n2 + 7) / 8) => (joinRound_end h).symm.trans H3.out)
      clear H3
      generalize (padTo ((n1 + n2 + 7) / 8) (p ++ (flat (pack q)).take (8 * k))).getD (n1 / 8 + k) 0 = o at *
      have H6 := Lib.hid (or8 o y (n1 % 8) ho hy)
      by_cases hl2 : n1 / 8 + k + 1 < (n1 + n2 + 7) / 8
      · have hc2 := hown.cell (n1 / 8 + k + 1) hl2
        have hf2 := hown.free (n1 / 8 + k + 1)
        go_wp2
        go_region
        go_wp2
        go_roundw
        case rel =>
          refine ⟨k + 1, by omega, by go_num, ?_⟩
          have h3 := ((hown.set (n1 / 8 + k) (o ||| y / 2 ^ (n1 % 8))).set (n1 / 8 + k + 1) (y * 2 ^ (8 - n1 % 8) % 256)).drew
          rw [H4.out hl2] at h3
          rw [H6.out]
          simpa using h3
        case measure => simp [intOf]; omega
      · go_wp2
        go_region
        go_wp2
        go_roundw
        case rel =>
          refine ⟨k + 1, by omega, by go_num, ?_⟩
          have h3 := (hown.set (n1 / 8 + k) (o ||| y / 2 ^ (n1 % 8))).drew
          rw [H5.out hl2] at h3
          rw [H6.out]
          exact h3
        case measure => simp [intOf]; omega
    · obtain ⟨_, _, ⟨cr0, cr1⟩, fr0, fr1⟩ := boxed_cells hown.bel
      have e : k = (n2 + 7) / 8 := by have := HM2.out; omega
      subst e
      rw [HALL.out] at hown
      go_wp2
      exact bodyPost_ret (v := .agg #[.slice (some ⟨w.heap.size + 1 + 1 + 1, 0, none⟩) ((n1 + n2 + 7) / 8) ((n1 + n2 + 7) / 8), .int .i64 ((n1 + n2 : Nat) : Int)]) (by simp [results, Tryz.results86, go_sem, cr0, cr1]) rfl
        (RetBits.mk (hown.past2 (boxed_below w _ _ _ _) (by simp; omega) (by rw [boxed_size]; simp) (by simp; omega) (by rw [boxed_size]; simp) _ _) (by rw [List.length_append, HN1.out, HN2.out]))

end Go.Proofs.YtaebljoacffghaaGreatDoor

/-
  The contract of the program's Put: bits, and the n lowest bits of a number behind them, in new memory.
-/
namespace Go.Proofs.YtaebljoacffghaaGreatDoor
open Go.RowKit

/-- the world behind a box and the result's place -/
def boxed1 (w : World) (a b : Value) : World := (w.alloc (.cells #[a, b] 148)).alloc (.cells #[.slice none 0 0, .int .i64 0] 148)
theorem boxed1_size (w : World) (a b : Value) : (boxed1 w a b).heap.size = w.heap.size + 2 := by simp [boxed1]
theorem boxed1_below (w : World) (a b : Value) : Below w.heap.size w (boxed1 w a b) := ((Below.refl _ _).alloc (Nat.le_refl _) _).alloc (by simp) _
theorem boxed1_heap (w : World) (a b : Value) : (boxed1 w a b).heap[w.heap.size]? = some (.cells #[a, b] 148 (0, 0)) ∧
    (boxed1 w a b).heap[w.heap.size + 1]? = some (.cells #[.slice none 0 0, .int .i64 0] 148 (0, 0)) := by
  unfold boxed1
  refine ⟨?_, ?_⟩
  · rw [Below.heap_alloc _ _ _ (by simp)]
    exact heap_alloc_new w _
  · have := heap_alloc_new (w.alloc (.cells #[a, b] 148)) (.cells #[.slice none 0 0, .int .i64 0] 148)
    simpa using this
theorem boxed1_cells {w wx : World} {a b : Value} (h : Below (boxed1 w a b).heap.size (boxed1 w a b) wx) :
    (wx.cell? ⟨w.heap.size, 0, none⟩ = some a ∧ wx.cell? ⟨w.heap.size, 1, none⟩ = some b) ∧
    (wx.cell? ⟨w.heap.size + 1, 0, none⟩ = some (.slice none 0 0) ∧ wx.cell? ⟨w.heap.size + 1, 1, none⟩ = some (.int .i64 0)) ∧ wx.frozen? ⟨w.heap.size + 1, 0, none⟩ = false ∧ wx.frozen? ⟨w.heap.size + 1, 1, none⟩ = false := by
  have hs := boxed1_size w a b
  obtain ⟨e0, e1⟩ := boxed1_heap w a b
  rw [← h.block _ (by rw [hs]; omega)] at e0 e1
  exact ⟨⟨cell_of_row _ _ _ _ _ _ e0, cell_of_row _ _ _ _ _ _ e0⟩, ⟨cell_of_row _ _ _ _ _ _ e1, cell_of_row _ _ _ _ _ _ e1⟩, frozen_of_row _ _ _ _ _ e1, frozen_of_row _ _ _ _ _ e1⟩
set_option maxRecDepth 20000 in
set_option maxHeartbeats 400000 in
theorem put_yes (A : Option Addr) (m c : Nat) (p : List Bool) (v n : Nat) (w : World) (h1 : Rd w w.heap.size A m c (pack p)) (hp : p.length ≤ 1000000) (hn : n ≤ 64) :
    Calls Tryz.prog 125 #[.agg #[.slice A m c, .int .i64 ((p.length : Nat) : Int)], .int .u64 (v : Int), .int .i64 (n : Int)] w (RetBits w (p ++ low v n)) := by
  go_enter Tryz.func125, Tryz.ntmps125
  go_wp2
  go_region_with (first
    | (go_at_call 137; refine (lowest_any v n _ hn).mono ?_; rintro e w1 ⟨A2, c2, rfl, hown⟩; have hb1 : Below (boxed1 w (.slice A m c) (.int .i64 ((p.length : Nat) : Int))).heap.size (boxed1 w (.slice A m c) (.int .i64 ((p.length : Nat) : Int))) w1 := below_like hown.bel rfl rfl rfl rfl; have hw1 : Below w.heap.size w w1 := (boxed1_below w _ _).trans (hb1.mono (by rw [boxed1_size]; omega)); obtain ⟨⟨cx0, cx1⟩, _⟩ := boxed1_cells hb1)
    | (go_at_call 86; refine (join_any _ _ _ _ _ _ p (low v n) _ ((h1.below hw1).more hw1.size) hown.rd (by omega) (by rw [low_length]; omega)).mono ?_; rintro e w3 ⟨A3, c3, rfl, hown3⟩; obtain ⟨_, ⟨cr0, cr1⟩, fr0, fr1⟩ := boxed1_cells (hb1.trans (hown3.bel.mono hb1.size))))
  all_goals go_wp2
  all_goals
    have e : ((p.length : Nat) : Int) + (((low v n).length : Nat) : Int) = (((p ++ low v n).length : Nat) : Int) := by simp
    rw [e]
    refine bodyPost_ret (v := .agg #[.slice A3 (pack (p ++ low v n)).length c3, .int .i64 (((p ++ low v n).length : Nat) : Int)]) ?_ rfl ?_
    · simp [results, Tryz.results125, go_sem, cr0, cr1]
    · exact RetBits.mk (hown3.past2 hw1 (by simp) (by have := hb1.size; rw [boxed1_size] at this; exact this) (by simp) (by have := hb1.size; rw [boxed1_size] at this; exact this) _ _) rfl

set_option maxRecDepth 20000 in
set_option maxHeartbeats 400000 in
theorem put_no (A : Option Addr) (m c : Nat) (p : List Bool) (v : Nat) (n : Int) (w : World) (h1 : Rd w w.heap.size A m c (pack p)) (hp : p.length ≤ 1000000) (hn : n < 0 ∨ (0 ≤ n ∧ 64 < n)) :
    Calls Tryz.prog 125 #[.agg #[.slice A m c, .int .i64 ((p.length : Nat) : Int)], .int .u64 (v : Int), .int .i64 n] w (RetBits w p) := by
  have HE : Hid (p ++ low v 0 = p) := Lib.hid (by simp [low])
  rcases hn with hn | hn
  all_goals
    go_enter Tryz.func125, Tryz.ntmps125
    go_wp2
    go_region_with (first
      | (go_at_call 137; refine (lowest_any v 0 _ (by omega)).mono ?_; rintro e w1 ⟨A2, c2, rfl, hown⟩; have hb1 : Below (boxed1 w (.slice A m c) (.int .i64 ((p.length : Nat) : Int))).heap.size (boxed1 w (.slice A m c) (.int .i64 ((p.length : Nat) : Int))) w1 := below_like hown.bel rfl rfl rfl rfl; have hw1 : Below w.heap.size w w1 := (boxed1_below w _ _).trans (hb1.mono (by rw [boxed1_size]; omega)); obtain ⟨⟨cx0, cx1⟩, _⟩ := boxed1_cells hb1)
      | (go_at_call 86; refine (join_any _ _ _ _ _ _ p (low v 0) _ ((h1.below hw1).more hw1.size) hown.rd (by omega) (by rw [low_length]; omega)).mono ?_; rintro e w3 ⟨A3, c3, rfl, hown3⟩; obtain ⟨_, ⟨cr0, cr1⟩, fr0, fr1⟩ := boxed1_cells (hb1.trans (hown3.bel.mono hb1.size))))
    all_goals go_wp2
    all_goals
      have e : ((p.length : Nat) : Int) + (((low v 0).length : Nat) : Int) = (((p ++ low v 0).length : Nat) : Int) := by simp
      rw [e]
      rw [HE.out] at hown3 ⊢
      refine bodyPost_ret (v := .agg #[.slice A3 (pack p).length c3, .int .i64 ((p.length : Nat) : Int)]) ?_ rfl ?_
      · simp [results, Tryz.results125, go_sem, cr0, cr1]
      · exact RetBits.mk (hown3.past2 hw1 (by simp) (by have := hb1.size; rw [boxed1_size] at this; exact this) (by simp) (by have := hb1.size; rw [boxed1_size] at this; exact this) _ _) rfl

end Go.Proofs.YtaebljoacffghaaGreatDoor

/-
  The contract of bits.Put, its lists and numbers under names.
-/
namespace Go.Proofs.YtaebljoacffghaaGreatDoor
open Go.RowKit

/-- Put, its lists and numbers under names -/
theorem put_as (A : Option Addr) (m c : Nat) (p q : List Bool) (v n : Nat) (vz nz Lz : Int) (M : Nat) (w : World) (h1 : Rd w w.heap.size A m c (pack p)) (hL : Lz = ((p.length : Nat) : Int)) (hv : vz = (v : Int)) (hnz : nz = (n : Int)) (hq : q = p ++ low v n) (hM : q.length = M) (hp : p.length ≤ 1000000) (hn : n ≤ 64) :
    Calls Tryz.prog 125 #[.agg #[.slice A m c, .int .i64 Lz], .int .u64 vz, .int .i64 nz] w
      fun e w' => ∃ A c, e = .returned (.agg #[.slice A (pack q).length c, .int .i64 (M : Int)]) ∧ Own w w' (.slice A (pack q).length c) (pack q) := by
  subst hL hv hnz hM hq
  exact put_yes A m c p v n w h1 hp hn

end Go.Proofs.YtaebljoacffghaaGreatDoor

/-
  The contract of bits.Join, its lists and numbers under names.
-/
namespace Go.Proofs.YtaebljoacffghaaGreatDoor
open Go.RowKit

/-- Join, its lists and numbers under names -/
theorem join_as (A1 A2 : Option Addr) (m1 c1 m2 c2 : Nat) (p q r : List Bool) (L1 L2 : Int) (M : Nat) (w : World) (h1 : Rd w w.heap.size A1 m1 c1 (pack p)) (h2 : Rd w w.heap.size A2 m2 c2 (pack q)) (hL1 : L1 = ((p.length : Nat) : Int)) (hL2 : L2 = ((q.length : Nat) : Int)) (hr : r = p ++ q) (hM : r.length = M) (hp : p.length ≤ 100000) (hq : q.length ≤ 100000) :
    Calls Tryz.prog 86 #[.agg #[.slice A1 m1 c1, .int .i64 L1], .agg #[.slice A2 m2 c2, .int .i64 L2]] w
      fun e w' => ∃ A c, e = .returned (.agg #[.slice A (pack r).length c, .int .i64 (M : Int)]) ∧ Own w w' (.slice A (pack r).length c) (pack r) := by
  subst hL1 hL2 hM hr
  exact join_any A1 A2 m1 c1 m2 c2 p q w h1 h2 (by omega) (by omega)

end Go.Proofs.YtaebljoacffghaaGreatDoor
