/-
  The contract of the laws' own Bits: of any bytes, bits that are their lowest ones.
-/
import Derived.Test.YtfehlkilnghhiaaDoorBytes
import Derived.Test.YtfehlkilnghhiaaDoorLowest
namespace Go.Proofs.YtfehlkilnghhiaaDoor
open Go.RowKit

/-- the lowest bits of numbers -/
def odd (l : List Nat) : List Bool := l.map fun x => x % 2 == 1
theorem odd_length (l : List Nat) : (odd l).length = l.length := by simp [odd]
theorem odd_step (l : List Nat) (k : Nat) (h : k < l.length) : enc ((odd l).take k) ++ [l.getD k 0 % 2] = enc ((odd l).take (k + 1)) := by
  rw [List.take_succ_eq_append_getElem (by rw [odd_length]; exact h), enc_app]
  congr 1
  have h2 : l.getD k 0 = l[k] := by simp [List.getD_eq_getElem?_getD, h]
  rw [h2]
  simp only [odd, List.getElem_map, enc, List.map_cons, List.map_nil]
  have : l[k] % 2 = 0 ∨ l[k] % 2 = 1 := by omega
  rcases this with e | e <;> simp [e]

set_option maxHeartbeats 400000 in
theorem lawbits_any (A : Option Addr) (n c : Nat) (l : List Nat) (w : World) (h : Rd w w.heap.size A n c l) (hb : ∀ x ∈ l, x < 256) (hn : n ≤ 1000000) :
    Calls Tryd.prog 15 #[.slice A n c] w (RetBits w (odd l)) := by
  have HL := Lib.hid h.len
  have HB := Lib.hid hb
  clear hb
  go_enter Tryd.func15, Tryd.ntmps15
  go_wp2
  have hbw : Below w.heap.size w (w.alloc (.cells #[.slice none 0 0, .int .i64 0] 31)) := (Below.refl _ _).alloc (Nat.le_refl _) _
  go_loopw [3, 4] (fun v i wr => ∃ k : Nat, k ≤ n ∧ i = .int .i64 k ∧ Own (w.alloc (.cells #[.slice none 0 0, .int .i64 0] 31)) wr v (enc ((odd l).take k))) (fun _ i _ => n - (intOf i).toNat)
  case atStart => exact ⟨0, Nat.zero_le _, rfl, Own.nil_ _ _ (Below.refl _ _)⟩
  case round =>
    obtain ⟨k, hk, rfl, hown⟩ := hrel
    have hwr := hbw.trans (hown.bel.mono hbw.size)
    by_cases hlt : k < n
    · obtain ⟨ad, rfl, hbl, hc⟩ := (h.below hwr).at_ hlt
      have h2 := getD_lt HB.out k
      have H3 := Lib.hid (odd_step l k (by have := HL.out; omega))
      have H4 : Hid ((enc ((odd l).take k)).length = k) := Lib.hid (by rw [enc_length, List.length_take, odd_length]; have := HL.out; omega)
      generalize l.getD k 0 = x at *
      go_wp2_with (at_builtin; (refine wpList_app rfl (.tmp 11) (.tmp 17) rfl rfl rfl (hown.alloc _) (Rd.one _ (x % 2)) (by rw [H4.out]; omega) ?_; intro v' w' hown3))
      go_roundw
      case rel => exact ⟨k + 1, by omega, by go_num, by rw [← H3.out]; exact hown3⟩
      case measure => simp [intOf]; omega
    · have e : (odd l).take k = odd l := List.take_of_length_le (by rw [odd_length]; have := HL.out; omega)
      rw [e] at hown
      obtain ⟨A1, c1, rfl, hr1⟩ := hown.form
      have H5 : Hid ((enc (odd l)).length = n) := Lib.hid (by rw [enc_length, odd_length, HL.out])
      rw [H5.out] at hr1 ⊢
      go_wp2_with (go_at_call 25; refine (bytes_any _ _ _ _ _ hr1 hn).mono ?_; rintro e w1 ⟨A2, c2, rfl, hown2⟩; have hb2 := hown.bel.trans (hown2.bel.mono hown.bel.size); obtain ⟨c0, c1', f0, f1⟩ := two_new hb2)
      refine bodyPost_ret (v := .agg #[.slice A2 (pack (odd l)).length c2, .int .i64 (n : Int)]) ?_ rfl ?_
      · simp [results, Tryd.results15, go_sem, c0, c1']
      · have hsz : w.heap.size < wr.heap.size := by have := hown.bel.size; simp at this; omega
        exact RetBits.mk (hown2.past2 hwr (Nat.le_refl _) hsz (Nat.le_refl _) hsz _ _) (by rw [odd_length, HL.out])

end Go.Proofs.YtfehlkilnghhiaaDoor
