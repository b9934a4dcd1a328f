/-
  The contract of the reference's Bytes: of bits (bytes of 0 and 1) it returns the bytes that they make up, in new memory.
-/
import Derived.Test.YtkndoalnlldolaaDoorWords
namespace Go.Proofs.YtkndoalnlldolaaDoor
open Go.RowKit

/-- the bytes of bits, with a byte of 0 behind them if the last one is full -/
def grow (q : List Bool) : List Nat := pack q ++ (if q.length % 8 = 0 then [0] else [])
theorem grow_length (q : List Bool) : (grow q).length = q.length / 8 + 1 := by
  unfold grow
  rw [List.length_append, pack_length]
  split <;> simp <;> omega
theorem grow_lt (q : List Bool) : ∀ x ∈ grow q, x < 256 := by
  intro x hx
  unfold grow at hx
  rcases List.mem_append.1 hx with h | h
  · exact pack_lt q x h
  · split at h
    · simp at h; omega
    · simp at h
theorem grow_bit (q : List Bool) (i : Nat) : bit (grow q) i = q.getD i false := by
  rw [← bit_pack]
  unfold bit grow
  congr 1
  rw [List.getD_eq_getElem?_getD, List.getD_eq_getElem?_getD]
  by_cases h : i / 8 < (pack q).length
  · rw [List.getElem?_append_left h]
  · rw [List.getElem?_append_right (by omega), List.getElem?_eq_none (by omega : (pack q).length ≤ i / 8)]
    split
    · cases i / 8 - (pack q).length with
      | zero => rfl
      | succ m => rfl
    · rfl
theorem grow_false (q : List Bool) : grow q = pack (q ++ [false]) := by
  apply eq_pack (grow_lt q)
  · rw [grow_length, List.length_append, List.length_singleton]; omega
  · intro i _
    rw [grow_bit]
    rw [List.getD_eq_getElem?_getD, List.getD_eq_getElem?_getD]
    by_cases h : i < q.length
    · rw [List.getElem?_append_left h]
    · rw [List.getElem?_append_right (by omega), List.getElem?_eq_none (by omega : q.length ≤ i)]
      cases i - q.length <;> rfl
theorem last_bits (q : List Bool) (j : Nat) (hj : j < 8) : ((grow q).getD (q.length / 8) 0).testBit j = q.getD (8 * (q.length / 8) + (7 - j)) false := by
  have := grow_bit q (8 * (q.length / 8) + (7 - j))
  unfold bit at this
  have e1 : (8 * (q.length / 8) + (7 - j)) / 8 = q.length / 8 := by omega
  have e2 : 7 - (8 * (q.length / 8) + (7 - j)) % 8 = j := by omega
  rwa [e1, e2] at this
theorem last_add (q : List Bool) : (grow q).getD (q.length / 8) 0 + 2 ^ (7 - q.length % 8) = (grow q).getD (q.length / 8) 0 ||| 2 ^ (7 - q.length % 8) := by
  have hx := getD_lt (grow_lt q) (q.length / 8)
  have hb := last_bits q
  generalize (grow q).getD (q.length / 8) 0 = x at *
  have hm : x % 2 ^ (7 - q.length % 8 + 1) = 0 := by
    apply Nat.eq_of_testBit_eq
    intro j
    rw [Nat.testBit_mod_two_pow, Nat.zero_testBit]
    by_cases hj : j < 7 - q.length % 8 + 1
    · rw [hb j (by omega), List.getD_eq_getElem?_getD, List.getElem?_eq_none (by omega)]
      simp
    · simp [hj]
  have e : x = 2 ^ (7 - q.length % 8 + 1) * (x / 2 ^ (7 - q.length % 8 + 1)) := by
    have := Nat.div_add_mod x (2 ^ (7 - q.length % 8 + 1))
    omega
  rw [e]
  exact Nat.two_pow_add_eq_or_of_lt (Nat.pow_lt_pow_right (by omega) (by omega)) _
theorem last_le (q : List Bool) : (grow q).getD (q.length / 8) 0 + 2 ^ (7 - q.length % 8) ≤ 255 := by
  have h1 : (grow q).getD (q.length / 8) 0 < 2 ^ 8 := getD_lt (grow_lt q) (q.length / 8)
  have h2 : 2 ^ (7 - q.length % 8) < 2 ^ 8 := Nat.pow_lt_pow_right (by omega) (by omega)
  have := Nat.or_lt_two_pow h1 h2
  rw [last_add]
  omega
theorem grow_true (q : List Bool) : (grow q).set (q.length / 8) ((grow q).getD (q.length / 8) 0 + 2 ^ (7 - q.length % 8)) = pack (q ++ [true]) := by
  apply eq_pack
  · intro x hx
    rcases List.mem_or_eq_of_mem_set hx with h | h
    · exact grow_lt q x h
    · have := last_le q; omega
  · rw [List.length_set, grow_length, List.length_append, List.length_singleton]; omega
  · intro i hi
    rw [List.length_set, grow_length] at hi
    unfold bit
    have hd : ∀ (l : List Nat) (k m x : Nat), m < l.length → (l.set k x).getD m 0 = if k = m then x else l.getD m 0 := by
      intro l k m x hm
      rw [List.getD_eq_getElem?_getD, List.getElem?_set, List.getD_eq_getElem?_getD]
      split
      · subst k; simp [hm]
      · rfl
    rw [hd _ _ _ _ (by rw [grow_length]; omega), last_add]
    split
    · rename_i e
      rw [Nat.testBit_or, Nat.testBit_two_pow, last_bits _ _ (by omega)]
      have e3 : 8 * (q.length / 8) + (7 - (7 - i % 8)) = i := by omega
      rw [e3, List.getD_eq_getElem?_getD, List.getD_eq_getElem?_getD]
      by_cases h : i < q.length
      · rw [List.getElem?_append_left h]
        have : ¬ (7 - q.length % 8 = 7 - i % 8) := by omega
        simp [this]
      · rw [List.getElem?_append_right (by omega), List.getElem?_eq_none (by omega : q.length ≤ i)]
        by_cases h2 : i = q.length
        · subst h2; simp
        · have : ¬ (7 - q.length % 8 = 7 - i % 8) := by omega
          obtain ⟨m, hm⟩ : ∃ m, i - q.length = m + 1 := ⟨i - q.length - 1, by omega⟩
          rw [hm]
          simp [this]
    · rename_i e
      have := grow_bit q i
      unfold bit at this
      rw [this, List.getD_eq_getElem?_getD, List.getD_eq_getElem?_getD]
      rw [List.getElem?_append_left (by omega)]

theorem take_snoc (p : List Bool) (i : Nat) (h : i < p.length) : p.take (i + 1) = p.take i ++ [p.getD i false] := by
  rw [List.take_succ_eq_append_getElem h]
  simp [List.getD_eq_getElem?_getD, h]
theorem pow_half (k : Nat) (h : k < 7) : 2 ^ (7 - k) / 2 = 2 ^ (7 - (k + 1)) := by
  have : 7 - k = 7 - (k + 1) + 1 := by omega
  rw [this, Nat.pow_succ]
  omega
theorem pow_le (k : Nat) : 2 ^ (7 - k) ≤ 128 := by
  have := Nat.pow_le_pow_right (n := 2) (by omega) (by omega : 7 - k ≤ 7)
  simpa using this

set_option maxRecDepth 20000 in
set_option maxHeartbeats 1000000 in
theorem bytes_any (A : Option Addr) (n c : Nat) (p : List Bool) (w : World) (h : Rd w w.heap.size A n c (enc p)) (hn : n ≤ 1000000) :
    Calls Tryd.prog 28 #[.slice A n c] w (RetB w (pack p)) := by
  have HL : Hid (p.length = n) := Lib.hid (by have := h.len; rwa [enc_length] at this)
  go_enter Tryd.func28, Tryd.ntmps28
  go_wp2
  go_loopw [3, 4] (fun v i wr => ∃ k : Nat, k ≤ n ∧ i = .int .i64 k ∧ Own w wr v (pack (p.take k))) (fun _ i _ => n - (intOf i).toNat)
  case atStart => exact ⟨0, Nat.zero_le _, rfl, by simpa [pack] using Own.nil_ w w (Below.refl _ _)⟩
  case round =>
    obtain ⟨i, hi, rfl, hown⟩ := hrel
    by_cases hlt : i < n
    · obtain ⟨ad, rfl, hbl, hcw⟩ := h.at_ hlt
      have H0 := Lib.hid (take_snoc p i (by have := HL.out; omega))
      have HQ : Hid ((p.take i).length = i) := Lib.hid (by rw [List.length_take]; have := HL.out; omega)
      generalize p.take i = q at *
      rw [enc_getD] at hcw
      have HC : ∀ wx, Below w.heap.size w wx → wx.cell? (ad.add i) = some (.int .u8 (((p.getD i false).toNat : Nat) : Int)) := fun wx hx => (hx.cell (by rw [add_block]; exact hbl)).trans hcw
      clear hcw
      have hgl : (grow q).length = i / 8 + 1 := by rw [grow_length, HQ.out]
      have hpow := pow_le (i % 8)
      have hlast := last_le q
      have hgt := grow_true q
      rw [HQ.out] at hlast hgt
      by_cases h8 : i % 8 = 0
      · have HG : Hid (pack q ++ [0] = grow q) := Lib.hid (by unfold grow; rw [HQ.out, if_pos h8])
        have h8' : i % 8 < 1 := by omega
        have HP : Hid ((pack q).length = i / 8) := Lib.hid (by rw [pack_length, HQ.out]; omega)
        clear h8
        have HGL := Lib.hid hgl
        have HGT := Lib.hid hgt
        have HC2 := Lib.hid HC
        clear hgl hgt HC
        cases hb : p.getD i false
        · rw [hb] at HC2 H0
          clear hb
          have H9 := Lib.hid (grow_false q)
          go_wp2_with (at_builtin; (refine wpList_app rfl (.tmp 16) (.tmp 17) rfl rfl rfl (hown.alloc _) (Rd.one _ 0) (by rw [HP.out]; omega) ?_; intro v' w' hown3; rw [HG.out] at hown3; have hc3 : w'.cell? (ad.add i) = some (.int .u8 0) := HC2.out w' hown3.bel))
          go_roundw
          case rel => exact ⟨i + 1, by omega, by go_num, by rw [H0.out, ← H9.out]; exact hown3⟩
          case measure => simp [intOf]; omega
        · rw [hb] at HC2 H0
          clear hb
          go_wp2_with (at_builtin; (refine wpList_app rfl (.tmp 16) (.tmp 17) rfl rfl rfl (hown.alloc _) (Rd.one _ 0) (by rw [HP.out]; omega) ?_; intro v' w' hown3; rw [HG.out] at hown3; have hc3 : w'.cell? (ad.add i) = some (.int .u8 1) := HC2.out w' hown3.bel; obtain ⟨g, cc, rfl⟩ := hown3.lenform HGL.out))
          go_loop [5, 6] (fun b j => ∃ k : Nat, k ≤ i % 8 ∧ j = .int .i64 k ∧ b = .int .u8 ((2 ^ (7 - k) : Nat) : Int)) (fun _ j => i % 8 - (intOf j).toNat)
          case atStart => exact ⟨0, by omega, rfl, rfl⟩
          case round =>
            obtain ⟨k, hk, rfl, rfl⟩ := hrel
            by_cases hkl : k < i % 8
            · exact absurd hkl (by omega)
            · have e : k = i % 8 := by omega
              have hc4 := hown3.cell (i / 8) (by omega)
              have hf4 := hown3.free (i / 8)
              subst e
              have hown4 := hown3.set (i / 8) ((grow q).getD (i / 8) 0 + 2 ^ (7 - i % 8))
              rw [HGT.out] at hown4
              have H4 := Lib.hid hown4
              clear hown4
              generalize 2 ^ (7 - i % 8) = y at *
              generalize (grow q).getD (i / 8) 0 = z at *
              go_wp2
              go_roundw
              case rel => exact ⟨i + 1, by omega, by go_num, by rw [H0.out]; exact H4.out⟩
              case measure => simp [intOf]; omega
      · have HG : Hid (pack q = grow q) := Lib.hid (by unfold grow; rw [HQ.out, if_neg h8, List.append_nil])
        have h8' : 1 ≤ i % 8 := by omega
        clear h8
        have hc3 := HC wr hown.bel
        rw [HG.out] at hown
        obtain ⟨g, cc, rfl⟩ := hown.lenform hgl
        have HGT := Lib.hid hgt
        clear hgl hgt HC
        have hown3 := hown
        clear hown
        cases hb : p.getD i false
        · rw [hb] at hc3 H0
          clear hb
          replace hc3 : wr.cell? (ad.add i) = some (.int .u8 0) := hc3
          have H9 := Lib.hid (grow_false q)
          go_wp2
          go_roundw
          case rel => exact ⟨i + 1, by omega, by go_num, by rw [H0.out, ← H9.out]; exact hown3⟩
          case measure => simp [intOf]; omega
        · rw [hb] at hc3 H0
          clear hb
          replace hc3 : wr.cell? (ad.add i) = some (.int .u8 1) := hc3
          go_wp2
          go_loop [5, 6] (fun b j => ∃ k : Nat, k ≤ i % 8 ∧ j = .int .i64 k ∧ b = .int .u8 ((2 ^ (7 - k) : Nat) : Int)) (fun _ j => i % 8 - (intOf j).toNat)
          case atStart => exact ⟨0, by omega, rfl, rfl⟩
          case round =>
            obtain ⟨k, hk, rfl, rfl⟩ := hrel
            by_cases hkl : k < i % 8
            · have H5 := Lib.hid (pow_half k (by omega))
              have h6 := pow_le k
              generalize 2 ^ (7 - k) = y at *
              go_wp2
              go_round
              case rel => exact ⟨k + 1, by omega, by go_num, by rw [← H5.out]; go_num⟩
              case measure => simp [intOf]; omega
            · have e : k = i % 8 := by omega
              have hc4 := hown3.cell (i / 8) (by omega)
              have hf4 := hown3.free (i / 8)
              subst e
              have hown4 := hown3.set (i / 8) ((grow q).getD (i / 8) 0 + 2 ^ (7 - i % 8))
              rw [HGT.out] at hown4
              have H4 := Lib.hid hown4
              clear hown4
              generalize 2 ^ (7 - i % 8) = y at *
              generalize (grow q).getD (i / 8) 0 = z at *
              go_wp2
              go_roundw
              case rel => exact ⟨i + 1, by omega, by go_num, by rw [H0.out]; exact H4.out⟩
              case measure => simp [intOf]; omega
    · go_wp2
      go_ret
      have e : p.take i = p := List.take_of_length_le (by have := HL.out; omega)
      rw [e] at hown
      exact RetB.mk hown

end Go.Proofs.YtkndoalnlldolaaDoor
