/-
  Plain facts (no program): codes of numbers that are mostly near 0, and what bits begin with; that it is one answer.
-/
import Derived.Test.YtldodfdbaonmkaaDoorBits2
namespace Go.Proofs.YtldodfdbaonmkaaDoor

/-- of how many bits the number is behind k 1s -/
def roomN (k : Nat) : Nat := if k = 0 then 0 else if k = 1 then 7 else if k = 2 then 9 else if k = 3 then 12 else 64
/-- of how many bits the head is -/
def headN (k : Nat) : Nat := if k < 4 then k + 1 else 4
/-- with how many 1s a number's code begins -/
def onesN (v : Int) : Nat := if v = 0 then 0 else if -64 ≤ v ∧ v ≤ 63 then 1 else if -256 ≤ v ∧ v ≤ 255 then 2 else if -2048 ≤ v ∧ v ≤ 2047 then 3 else 4
/-- a number of 64 bits, as one from 0 on -/
def un64 (v : Int) : Nat := (v % 18446744073709551616).toNat
/-- the head -/
def headL (k : Nat) : List Bool := List.replicate k true ++ (if k < 4 then [false] else [])
/-- a number's code -/
def codeD (v : Int) : List Bool := headL (onesN v) ++ low (un64 v) (roomN (onesN v))
/-- the number of two's complement of the n lowest bits -/
def sgnN (x n : Nat) : Int := if n = 0 then 0 else if x % 2 ^ n < 2 ^ (n - 1) then ((x % 2 ^ n : Nat) : Int) else ((x % 2 ^ n : Nat) : Int) - ((2 ^ n : Nat) : Int)

theorem onesN_le (v : Int) : onesN v ≤ 4 := by unfold onesN; split; omega; split; omega; split; omega; split <;> omega
theorem headL_length {k : Nat} (h : k ≤ 4) : (headL k).length = headN k := by
  unfold headL headN
  split <;> simp; omega
theorem room_cases {k : Nat} (h : k ≤ 4) : (k = 0 ∧ roomN k = 0 ∧ headN k = 1) ∨ (k = 1 ∧ roomN k = 7 ∧ headN k = 2) ∨ (k = 2 ∧ roomN k = 9 ∧ headN k = 3) ∨ (k = 3 ∧ roomN k = 12 ∧ headN k = 4) ∨ (k = 4 ∧ roomN k = 64 ∧ headN k = 4) := by
  rcases (by omega : k = 0 ∨ k = 1 ∨ k = 2 ∨ k = 3 ∨ k = 4) with rfl | rfl | rfl | rfl | rfl <;> simp [roomN, headN]
theorem room_le (k : Nat) : roomN k ≤ 64 := by
  unfold roomN; split; omega; split; omega; split; omega; split <;> omega
theorem head_le (k : Nat) : headN k ≤ 4 := by unfold headN; split <;> omega
theorem codeD_length (v : Int) : (codeD v).length = headN (onesN v) + roomN (onesN v) := by
  unfold codeD
  rw [List.length_append, headL_length (onesN_le v), low_length]
theorem codeD_pos (v : Int) : 1 ≤ (codeD v).length ∧ (codeD v).length ≤ 68 := by
  rw [codeD_length]
  rcases room_cases (onesN_le v) with ⟨_, h, h'⟩ | ⟨_, h, h'⟩ | ⟨_, h, h'⟩ | ⟨_, h, h'⟩ | ⟨_, h, h'⟩ <;> omega
/-- codes of unlike heads are of unlike length -/
theorem codeD_unlike {v : Int} {k : Nat} (hk : k ≤ 4) (h : onesN v ≠ k) : (codeD v).length ≠ headN k + roomN k := by
  rw [codeD_length]
  rcases room_cases (onesN_le v) with ⟨a, h1, h2⟩ | ⟨a, h1, h2⟩ | ⟨a, h1, h2⟩ | ⟨a, h1, h2⟩ | ⟨a, h1, h2⟩ <;>
    rcases room_cases hk with ⟨b, g1, g2⟩ | ⟨b, g1, g2⟩ | ⟨b, g1, g2⟩ | ⟨b, g1, g2⟩ | ⟨b, g1, g2⟩ <;> omega

theorem un64_lt (v : Int) : un64 v ≤ 18446744073709551615 := by unfold un64; omega
theorem un64_cast (v : Int) : ((un64 v : Nat) : Int) = v % 18446744073709551616 := by unfold un64; omega
theorem ones_fit (v : Int) : (onesN v ≤ 0 ↔ v = 0) ∧ (onesN v ≤ 1 ↔ -64 ≤ v ∧ v ≤ 63) ∧ (onesN v ≤ 2 ↔ -256 ≤ v ∧ v ≤ 255) ∧ (onesN v ≤ 3 ↔ -2048 ≤ v ∧ v ≤ 2047) := by
  unfold onesN
  split
  · omega
  · split
    · omega
    · split
      · omega
      · split <;> omega
theorem sgn_zero (x : Nat) : sgnN x 0 = 0 := rfl
theorem sgn_7 (x : Nat) : sgnN x 7 = if x % 128 < 64 then ((x % 128 : Nat) : Int) else ((x % 128 : Nat) : Int) - 128 := rfl
theorem sgn_9 (x : Nat) : sgnN x 9 = if x % 512 < 256 then ((x % 512 : Nat) : Int) else ((x % 512 : Nat) : Int) - 512 := rfl
theorem sgn_12 (x : Nat) : sgnN x 12 = if x % 4096 < 2048 then ((x % 4096 : Nat) : Int) else ((x % 4096 : Nat) : Int) - 4096 := rfl
theorem sgn_64 (x : Nat) : sgnN x 64 = if x % 18446744073709551616 < 9223372036854775808 then ((x % 18446744073709551616 : Nat) : Int) else ((x % 18446744073709551616 : Nat) : Int) - 18446744073709551616 := rfl
/-- what the bits of two's complement tell is the number just where there is room for it -/
theorem sgn_room {v : Int} (hv : -9223372036854775808 ≤ v ∧ v ≤ 9223372036854775807) {k : Nat} (hk : k ≤ 4) : sgnN (un64 v) (roomN k) = v ↔ onesN v ≤ k := by
  have hu := un64_cast v
  obtain ⟨f0, f1, f2, f3⟩ := ones_fit v
  generalize un64 v = x at *
  rcases room_cases hk with ⟨rfl, h1, _⟩ | ⟨rfl, h1, _⟩ | ⟨rfl, h1, _⟩ | ⟨rfl, h1, _⟩ | ⟨rfl, h1, _⟩ <;> rw [h1]
  · rw [sgn_zero, f0]; omega
  · rw [sgn_7, f1]; split <;> omega
  · rw [sgn_9, f2]; split <;> omega
  · rw [sgn_12, f3]; split <;> omega
  · have := onesN_le v
    rw [sgn_64]; split <;> omega
/-- what bits of two's complement tell has those bits -/
theorem un64_sgn (x : Nat) {k : Nat} (hk : k ≤ 4) : un64 (sgnN x (roomN k)) % 2 ^ roomN k = x % 2 ^ roomN k := by
  have hu := un64_cast (sgnN x (roomN k))
  generalize un64 (sgnN x (roomN k)) = y at *
  rcases room_cases hk with ⟨rfl, h1, _⟩ | ⟨rfl, h1, _⟩ | ⟨rfl, h1, _⟩ | ⟨rfl, h1, _⟩ | ⟨rfl, h1, _⟩ <;> rw [h1] at hu ⊢
  · omega
  · rw [sgn_7] at hu; split at hu <;> omega
  · rw [sgn_9] at hu; split at hu <;> omega
  · rw [sgn_12] at hu; split at hu <;> omega
  · rw [sgn_64] at hu; split at hu <;> omega
theorem sgn_mod (x : Nat) (n : Nat) : sgnN (x % 2 ^ n) n = sgnN x n := by unfold sgnN; rw [Nat.mod_mod]
theorem sgn_in (x : Nat) {k : Nat} (hk : k ≤ 4) : -9223372036854775808 ≤ sgnN x (roomN k) ∧ sgnN x (roomN k) ≤ 9223372036854775807 := by
  rcases room_cases hk with ⟨rfl, h1, _⟩ | ⟨rfl, h1, _⟩ | ⟨rfl, h1, _⟩ | ⟨rfl, h1, _⟩ | ⟨rfl, h1, _⟩ <;> rw [h1]
  · rw [sgn_zero]; omega
  · rw [sgn_7]; split <;> omega
  · rw [sgn_9]; split <;> omega
  · rw [sgn_12]; split <;> omega
  · rw [sgn_64]; split <;> omega

/-- bits begin with k 1s, up to four -/
structure Ones (p : List Bool) (k : Nat) : Prop where
  le4 : k ≤ 4
  len : k ≤ p.length
  all : ∀ j, j < k → p.getD j false = true
  stop : k < 4 → p.getD k false = false
theorem Ones.same {p : List Bool} {k j : Nat} (h : Ones p k) (h' : Ones p j) : k = j := by
  rcases Nat.lt_trichotomy k j with hlt | e | hlt
  · have h1 := h'.all k hlt
    have h2 := h.stop (by have := h'.le4; omega)
    rw [h1] at h2; cases h2
  · exact e
  · have h1 := h.all j hlt
    have h2 := h'.stop (by have := h.le4; omega)
    rw [h1] at h2; cases h2
theorem getD_len {p : List Bool} {j : Nat} (h : p.getD j false = true) : j < p.length := by
  rcases Nat.lt_or_ge j p.length with g | g
  · exact g
  · rw [List.getD_eq_getElem?_getD, List.getElem?_eq_none g] at h; cases h
theorem ones_is (p : List Bool) : ∃ k, Ones p k := by
  have step : ∀ k, k ≤ 4 → (∀ j, j < k → p.getD j false = true) → k ≤ p.length → (k = 4 ∨ p.getD k false = false) → Ones p k := fun k h4 ha hl hs => ⟨h4, hl, ha, fun h => by
    rcases hs with e | e
    · omega
    · exact e⟩
  by_cases h0 : p.getD 0 false = true
  · have g0 := getD_len h0
    by_cases h1 : p.getD 1 false = true
    · have g1 := getD_len h1
      by_cases h2 : p.getD 2 false = true
      · have g2 := getD_len h2
        by_cases h3 : p.getD 3 false = true
        · have g3 := getD_len h3
          refine ⟨4, step 4 (by omega) (fun j hj => ?_) (by omega) (.inl rfl)⟩
          rcases (by omega : j = 0 ∨ j = 1 ∨ j = 2 ∨ j = 3) with rfl | rfl | rfl | rfl <;> assumption
        · refine ⟨3, step 3 (by omega) (fun j hj => ?_) (by omega) (.inr (by simpa using h3))⟩
          rcases (by omega : j = 0 ∨ j = 1 ∨ j = 2) with rfl | rfl | rfl <;> assumption
      · refine ⟨2, step 2 (by omega) (fun j hj => ?_) (by omega) (.inr (by simpa using h2))⟩
        rcases (by omega : j = 0 ∨ j = 1) with rfl | rfl <;> assumption
    · refine ⟨1, step 1 (by omega) (fun j hj => ?_) (by omega) (.inr (by simpa using h1))⟩
      obtain rfl : j = 0 := by omega
      assumption
  · exact ⟨0, step 0 (by omega) (fun j hj => by omega) (by omega) (.inr (by simpa using h0))⟩
/-- the number behind k 1s -/
def bodyD (p : List Bool) (k : Nat) : Int := sgnN (num (cut p (headN k) (roomN k))) (roomN k)
/-- what bits that begin with k 1s begin with: a number, how many bits its code has, an error's number -/
def DAns (p : List Bool) (k : Nat) (v : Int) (n e : Nat) : Prop :=
  (p.length < headN k + roomN k ∧ v = 0 ∧ n = 0 ∧ e = 2) ∨ (headN k + roomN k ≤ p.length ∧ onesN (bodyD p k) ≠ k ∧ v = 0 ∧ n = 0 ∧ e = 3) ∨
  (headN k + roomN k ≤ p.length ∧ onesN (bodyD p k) = k ∧ v = bodyD p k ∧ n = headN k + roomN k ∧ e = 0)
/-- what bits begin with -/
def DGets (p : List Bool) (v : Int) (n e : Nat) : Prop := ∃ k, Ones p k ∧ DAns p k v n e
theorem DGets.same {p : List Bool} {v v' : Int} {n n' e e' : Nat} (h : DGets p v n e) (h' : DGets p v' n' e') : v = v' ∧ n = n' ∧ e = e' := by
  obtain ⟨k, hk, h⟩ := h
  obtain ⟨j, hj, h'⟩ := h'
  obtain rfl := hk.same hj
  unfold DAns at h h'
  generalize bodyD p k = b at *
  generalize headN k + roomN k = m at *
  rcases h with ⟨h1, h2, h3, h4⟩ | ⟨h1, h2, h3, h4, h5⟩ | ⟨h1, h2, h3, h4, h5⟩ <;> rcases h' with ⟨g1, g2, g3, g4⟩ | ⟨g1, g2, g3, g4, g5⟩ | ⟨g1, g2, g3, g4, g5⟩ <;> omega
theorem bodyD_in (p : List Bool) {k : Nat} (hk : k ≤ 4) : -9223372036854775808 ≤ bodyD p k ∧ bodyD p k ≤ 9223372036854775807 := sgn_in _ hk
theorem gets_in {p : List Bool} {v : Int} {n e : Nat} (h : DGets p v n e) : (-9223372036854775808 ≤ v ∧ v ≤ 9223372036854775807) ∧ n ≤ 68 ∧ e ≤ 3 ∧ (e = 0 → n ≤ p.length) := by
  obtain ⟨k, hk, h⟩ := h
  have h1 := bodyD_in p hk.le4
  have h2 := room_le k
  have h3 := head_le k
  rcases h with ⟨h1, h2, h3, h4⟩ | ⟨h1, h2, h3, h4, h5⟩ | ⟨h1, h2, h3, h4, h5⟩ <;> subst v <;> omega

theorem app_getD (p r : List Bool) (i : Nat) : (p ++ r).getD i false = if i < p.length then p.getD i false else r.getD (i - p.length) false := by
  rw [List.getD_eq_getElem?_getD]
  split
  · rw [List.getElem?_append_left (by assumption), List.getD_eq_getElem?_getD]
  · rw [List.getElem?_append_right (by omega), List.getD_eq_getElem?_getD]
theorem headL_getD (k i : Nat) : (headL k).getD i false = decide (i < k) := by
  unfold headL
  rw [app_getD, List.length_replicate]
  split
  · rename_i h
    simp [List.getD_eq_getElem?_getD, h]
  · rename_i h
    rw [decide_eq_false h]
    split
    · cases (i - k) <;> simp
    · simp
/-- a head, and whatever behind it, begins with its 1s -/
theorem ones_head {k : Nat} (hk : k ≤ 4) (r : List Bool) : Ones (headL k ++ r) k := by
  have hl := headL_length hk
  refine ⟨hk, ?_, fun j hj => ?_, fun h => ?_⟩
  · rw [List.length_append, hl]; unfold headN; split <;> omega
  · rw [app_getD, hl, if_pos (by unfold headN; split <;> omega), headL_getD]; exact decide_eq_true hj
  · rw [app_getD, hl, if_pos (by unfold headN; split <;> omega), headL_getD]; exact decide_eq_false (by omega)
theorem cut_head {k : Nat} (hk : k ≤ 4) (q r : List Bool) : cut (headL k ++ (q ++ r)) (headN k) q.length = q := by
  unfold cut
  rw [← headL_length hk, List.drop_left, List.take_left]
/-- what was put is got -/
theorem dgets_put {v : Int} (hv : -9223372036854775808 ≤ v ∧ v ≤ 9223372036854775807) (r : List Bool) : DGets (codeD v ++ r) v (codeD v).length 0 := by
  have h4 := onesN_le v
  have hb : bodyD (codeD v ++ r) (onesN v) = v := by
    unfold bodyD codeD
    rw [List.append_assoc]
    have := cut_head h4 (low (un64 v) (roomN (onesN v))) r
    rw [low_length] at this
    rw [this, num_low, sgn_mod]
    exact (sgn_room hv h4).2 (Nat.le_refl _)
  refine ⟨onesN v, ?_, .inr (.inr ⟨?_, by rw [hb], hb.symm, codeD_length v, rfl⟩)⟩
  · unfold codeD
    rw [List.append_assoc]
    exact ones_head h4 _
  · rw [List.length_append, codeD_length]; omega
theorem take_getD' (r : List Bool) (n i : Nat) : (r.take n).getD i false = if i < n then r.getD i false else false := by
  split
  · rw [List.getD_eq_getElem?_getD, List.getElem?_take_of_lt (by assumption), List.getD_eq_getElem?_getD]
  · rw [List.getD_eq_getElem?_getD, List.getElem?_eq_none (by rw [List.length_take]; omega)]
    rfl
/-- cut off they end too early -/
theorem dgets_cut {v : Int} {m : Nat} (hm : m < (codeD v).length) : DGets ((codeD v).take m) 0 0 2 := by
  have h4 := onesN_le v
  have hl : ((codeD v).take m).length = m := by rw [List.length_take]; omega
  have ho := ones_head h4 (low (un64 v) (roomN (onesN v)))
  have hcl := codeD_length v
  by_cases h : m < onesN v
  · refine ⟨m, ⟨by omega, by omega, fun j hj => ?_, fun _ => ?_⟩, .inl ⟨?_, rfl, rfl, rfl⟩⟩
    · rw [take_getD', if_pos hj]
      exact ho.all j (by omega)
    · rw [take_getD', if_neg (by omega)]
    · rw [hl]; unfold headN; split <;> omega
  · refine ⟨onesN v, ⟨h4, by omega, fun j hj => ?_, fun hk => ?_⟩, .inl ⟨by omega, rfl, rfl, rfl⟩⟩
    · rw [take_getD', if_pos (by omega)]
      exact ho.all j hj
    · rw [take_getD']
      split
      · exact ho.stop hk
      · rfl
theorem num_inj {p q : List Bool} (hl : p.length = q.length) (h : num p = num q) : p = q := by
  apply getD_ext hl
  intro i hi
  have h1 := congrArg (fun x => x.testBit (p.length - 1 - i)) h
  simp only [num_testBit] at h1
  have e : p.length - 1 - (p.length - 1 - i) = i := by omega
  have e2 : p.length - 1 - i < p.length := by omega
  rw [← hl, e] at h1
  simpa [e2] using h1
/-- bits that begin with k 1s begin with that head -/
theorem take_head {p : List Bool} {k : Nat} (hk : Ones p k) (h : headN k ≤ p.length) : p.take (headN k) = headL k := by
  apply getD_ext
  · rw [List.length_take, headL_length hk.le4]; omega
  · intro i hi
    rw [List.length_take] at hi
    rw [take_getD', if_pos (by omega), headL_getD]
    by_cases hik : i < k
    · rw [hk.all i hik]; exact (decide_eq_true hik).symm
    · have h5 : headN k ≤ k + 1 := by unfold headN; split <;> omega
      have h6 : k < 4 := by
        have := hk.le4
        rcases Nat.lt_or_ge k 4 with g | g
        · exact g
        · have : headN k = 4 := by unfold headN; rw [if_neg (by omega)]
          omega
      obtain rfl : i = k := by omega
      rw [hk.stop h6]; exact (decide_eq_false hik).symm
/-- what is got has those bits as its code -/
theorem dgets_code {p : List Bool} {k : Nat} (hk : Ones p k) (h : headN k + roomN k ≤ p.length) (hb : onesN (bodyD p k) = k) : codeD (bodyD p k) = p.take (headN k + roomN k) := by
  have e : low (un64 (bodyD p k)) (roomN k) = cut p (headN k) (roomN k) := by
    apply num_inj
    · rw [low_length, cut_length _ _ _ h]
    · rw [num_low]
      unfold bodyD
      rw [un64_sgn _ hk.le4]
      apply Nat.mod_eq_of_lt
      have := num_lt (cut p (headN k) (roomN k))
      rwa [cut_length _ _ _ h] at this
  unfold codeD
  rw [hb, e, List.take_add, take_head hk (by omega)]
  rfl
theorem dgets_back {p : List Bool} {v : Int} {n : Nat} (h : DGets p v n 0) : codeD v = p.take n ∧ n ≤ p.length := by
  obtain ⟨k, hk, h⟩ := h
  rcases h with ⟨h1, h2, h3, h4⟩ | ⟨h1, h2, h3, h4, h5⟩ | ⟨h1, h2, h3, h4, h5⟩
  · omega
  · omega
  · subst h3 h4
    exact ⟨dgets_code hk h1 h2, h1⟩

/-- all bits from a place on; none, if there is no such place -/
def restL (bs : List Nat) (a : Int) : List Bool := if 0 ≤ a ∧ a ≤ 8 * (bs.length : Int) then (flat bs).drop a.toNat else []
theorem restL_no {bs : List Nat} {a : Int} (h : a < 0 ∨ 8 * (bs.length : Int) < a) : restL bs a = [] := by unfold restL; rw [if_neg (by omega)]
theorem restL_yes {bs : List Nat} {a : Nat} (h : a ≤ 8 * bs.length) : restL bs a = (flat bs).drop a := by unfold restL; rw [if_pos (by omega)]; rfl
theorem restL_length {bs : List Nat} {a : Nat} (h : a ≤ 8 * bs.length) : (restL bs a).length = 8 * bs.length - a := by rw [restL_yes h, List.length_drop, flat_length]
theorem cut_drop (p : List Bool) (a b n : Nat) : cut (p.drop a) b n = cut p (a + b) n := by unfold cut; rw [List.drop_drop]
/-- bits from the j-th behind a place on are there just as there are so many -/
theorem take_rest {bs : List Nat} {a j n : Nat} (h : a ≤ 8 * bs.length) (hn : n ≤ 64) : takeB bs (a + j : Nat) n = decide (j + n ≤ (restL bs a).length) ∧ (j + n ≤ (restL bs a).length → takeN bs (a + j : Nat) n = num (cut (restL bs a) j n)) := by
  have hl := restL_length h
  by_cases hy : a + j + n ≤ 8 * bs.length
  · have h1 := takeB_yes (bs := bs) (a := a + j) (n := n) hn hy
    refine ⟨h1.1.trans (decide_eq_true (by omega)).symm, fun _ => ?_⟩
    rw [h1.2, restL_yes h, cut_drop]
  · refine ⟨(takeB_no (bs := bs) (a := ((a + j : Nat) : Int)) (n := (n : Int)) (by omega)).1.trans (decide_eq_false (by omega)).symm, fun _ => by omega⟩
theorem num_cut_one (p : List Bool) (j : Nat) (h : j < p.length) : num (cut p j 1) = (p.getD j false).toNat := by
  rw [cut_succ _ _ _ (by omega), cut_zero, List.nil_append, Nat.add_zero]
  have := num_snoc [] (p.getD j false)
  rw [List.nil_append] at this
  rw [this, num_nil]; omega

end Go.Proofs.YtldodfdbaonmkaaDoor
