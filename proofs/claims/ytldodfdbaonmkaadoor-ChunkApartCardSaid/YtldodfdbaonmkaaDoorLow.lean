/-
  The contract of the reference's Low: the n lowest bits of a number, in new memory.
-/
import Derived.Test.YtldodfdbaonmkaaDoorMem
namespace Go.Proofs.YtldodfdbaonmkaaDoor
open Go.RowKit

def lowTo (v n k : Nat) : List Nat := (List.range n).map fun i => if i < n - k then 0 else (v.testBit (n - 1 - i)).toNat
theorem lowTo_length (v n k : Nat) : (lowTo v n k).length = n := by simp [lowTo]
theorem lowTo_zero (v n : Nat) : List.replicate n 0 = lowTo v n 0 := by
  apply getD_extN (by simp [lowTo])
  intro i hi
  have hi' : i < n := by simpa using hi
  simp [lowTo, List.getD_eq_getElem?_getD, hi']
theorem lowTo_all (v n : Nat) : lowTo v n n = enc (low v n) := by
  apply getD_extN (by simp [lowTo, enc, low])
  intro i hi
  have hi' : i < n := by simpa [lowTo] using hi
  simp [lowTo, enc, low, List.getD_eq_getElem?_getD, hi']
theorem lowTo_succ (v n k : Nat) (hk : k < n) : (lowTo v n k).set (n - 1 - k) (v / 2 ^ k % 2) = lowTo v n (k + 1) := by
  apply getD_extN (by simp [lowTo])
  intro i hi
  have hi' : i < n := by simpa [lowTo] using hi
  by_cases e : n - 1 - k = i
  · subst e
    have e2 : n - 1 - (n - 1 - k) = k := by omega
    have e3 : ¬ n - 1 - k < n - (k + 1) := by omega
    simp [lowTo, List.getD_eq_getElem?_getD, hi', e2, e3, Nat.toNat_testBit]
  · have e3 : (i < n - (k + 1)) ↔ (i < n - k) := by omega
    simp [lowTo, List.getD_eq_getElem?_getD, hi', e, e3]
theorem half (v k : Nat) : v / 2 ^ k / 2 = v / 2 ^ (k + 1) := by rw [Nat.pow_succ, Nat.div_div_eq_div_mul]

set_option maxRecDepth 20000 in
set_option maxHeartbeats 400000 in
theorem low_any (v n : Nat) (w : World) (hv : v ≤ 18446744073709551615) (hn : n ≤ 64) :
    Calls Tryd.prog 22 #[.int .u64 (v : Int), .int .i64 (n : Int)] w (RetB w (enc (low v n))) := by
  go_enter Tryd.func22, Tryd.ntmps22
  go_wp2_with (at_make; (refine wpList_mk rfl (.tmp 7) (.tmp 7) rfl (Below.refl w.heap.size w) n rfl rfl rfl rfl (by omega) ?_; intro w1 hown hb1))
  rw [lowTo_zero v n] at hown
  go_loopw [0, 6] (fun x i wr => ∃ k : Nat, k ≤ n ∧ i = .int .i64 ((n : Int) - 1 - k) ∧ x = .int .u64 ((v / 2 ^ k : Nat) : Int) ∧ Own w wr (.slice (some ⟨w.heap.size, 0, none⟩) n n) (lowTo v n k)) (fun _ i _ => (intOf i + 1).toNat)
  case atStart => exact ⟨0, by omega, by go_num, by simp, hown⟩
  case round =>
    clear hown
    obtain ⟨k, hk, rfl, rfl, hown⟩ := hrel
    by_cases hlt : k < n
    · have hx : v / 2 ^ k ≤ 18446744073709551615 := Nat.le_trans (Nat.div_le_self _ _) hv
      have hc := hown.cell (n - 1 - k) (by omega)
      have hf := hown.free (n - 1 - k)
      have H1 := Lib.hid (lowTo_succ v n k hlt)
      have H2 := Lib.hid (half v k)
      generalize v / 2 ^ k = x at *
      generalize (lowTo v n k).getD (n - 1 - k) 0 = y at *
      go_wp2
      go_roundw
      case rel =>
        have h3 := hown.set (n - 1 - k) (x % 2)
        rw [H1.out] at h3
        refine ⟨k + 1, by omega, by go_num, ?_, ?_⟩
        · rw [← H2.out]; go_num
        · exact h3
      case measure => simp [intOf]; omega
    · go_wp2
      go_ret
      have e : k = n := by omega
      subst e
      rw [lowTo_all] at hown
      exact RetB.mk hown

end Go.Proofs.YtldodfdbaonmkaaDoor
