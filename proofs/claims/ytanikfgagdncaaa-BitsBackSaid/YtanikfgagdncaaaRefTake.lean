/-
  The contract of the reference's Take.
-/
import Derived.Test.YtanikfgagdncaaaFlat
import Derived.Test.YtanikfgagdncaaaNumber
namespace Go.Proofs.Ytanikfgagdncaaa
open Go.RowKit

/-- are there n bits from the a-th on? -/
def takeB (bs : List Nat) (a n : Int) : Bool := decide (0 ≤ n ∧ n ≤ 64 ∧ 0 ≤ a ∧ a + n ≤ 8 * (bs.length : Int))
/-- their number, or 0 -/
def takeN (bs : List Nat) (a n : Int) : Nat := if takeB bs a n then num (cut (flat bs) a.toNat n.toNat) else 0
theorem takeB_no {bs : List Nat} {a n : Int} (h : ¬ (0 ≤ n ∧ n ≤ 64 ∧ 0 ≤ a ∧ a + n ≤ 8 * (bs.length : Int))) : takeB bs a n = false ∧ takeN bs a n = 0 := by
  have h1 : takeB bs a n = false := by unfold takeB; exact decide_eq_false h
  exact ⟨h1, by unfold takeN; rw [h1]; rfl⟩
theorem takeB_yes {bs : List Nat} {a n : Nat} (h1 : n ≤ 64) (h2 : a + n ≤ 8 * bs.length) : takeB bs a n = true ∧ takeN bs a n = num (cut (flat bs) a n) := by
  have h : takeB bs a n = true := by unfold takeB; exact decide_eq_true (by omega)
  exact ⟨h, by unfold takeN; rw [h]; rfl⟩

/-- what both Takes come to -/
def RetT (w : World) (bs : List Nat) (a n : Int) (e : Ending) (w' : World) : Prop :=
  e = .returned (.tuple #[.int .u64 ((takeN bs a n : Nat) : Int), .bool (takeB bs a n)]) ∧ Below w.heap.size w w'

set_option maxHeartbeats 400000 in
theorem reftake_no (A : Option Addr) (m c : Nat) (bs : List Nat) (a n : Int) (w : World) (h : Rd w w.heap.size A m c bs) (hb : ∀ x ∈ bs, x < 256) (hm : m ≤ 100000)
    (ha : -9223372036854775808 ≤ a ∧ a ≤ 9223372036854775807) (hn : -9223372036854775808 ≤ n ∧ n ≤ 9223372036854775807) (hno : n < 0 ∨ (0 ≤ n ∧ 64 < n) ∨ (0 ≤ n ∧ n ≤ 64 ∧ a < 0) ∨ (0 ≤ n ∧ n ≤ 64 ∧ 0 ≤ a ∧ 8 * (m : Int) < a) ∨ (0 ≤ n ∧ n ≤ 64 ∧ 0 ≤ a ∧ a ≤ 8 * (m : Int) ∧ 8 * (m : Int) - a < n)) :
    Calls Try.prog 10 #[.slice A m c, .int .i64 a, .int .i64 n] w (RetT w bs a n) := by
  have HT := Lib.hid (takeB_no (bs := bs) (a := a) (n := n) (by have := h.len; omega))
  have HL : Hid ((enc (flat bs)).length = 8 * m) := Lib.hid (by rw [enc_length, flat_length, h.len])
  rcases hno with h1 | h1 | h1 | h1 | h1
  all_goals
    go_enter Try.func10, Try.ntmps10
    go_wp2_with ((go_at_call 7; refine (flat_any _ _ _ _ _ h hb hm).mono ?_; rintro e w1 ⟨A1, c1, rfl, hown⟩; have hb1 := hown.bel; rw [HL.out]))
    go_ret2
    unfold RetT
    rw [HT.out.1, HT.out.2]
    exact ⟨rfl, hb1⟩

set_option maxHeartbeats 400000 in
theorem reftake_yes (A : Option Addr) (m c : Nat) (bs : List Nat) (a n : Nat) (w : World) (h : Rd w w.heap.size A m c bs) (hb : ∀ x ∈ bs, x < 256) (hm : m ≤ 100000)
    (hn : n ≤ 64) (han : a + n ≤ 8 * m) :
    Calls Try.prog 10 #[.slice A m c, .int .i64 a, .int .i64 n] w (RetT w bs a n) := by
  have HT := Lib.hid (takeB_yes (bs := bs) (a := a) (n := n) hn (by have := h.len; omega))
  have HL : Hid ((enc (flat bs)).length = 8 * m) := Lib.hid (by rw [enc_length, flat_length, h.len])
  go_enter Try.func10, Try.ntmps10
  go_wp2_with ((go_at_call 7; refine (flat_any _ _ _ _ _ h hb hm).mono ?_; rintro e w1 ⟨A1, c1, rfl, hown⟩; have hb1 := hown.bel; rw [HL.out]; have hr1 := hown.rd; rw [HL.out] at hr1; have hcap := hr1.cap; clear hown))
  · have hr2 := hr1.cutEnd (n := n) (by omega)
    rw [enc_cut] at hr2
    refine (number_any _ _ _ _ _ _ hr2 hn).mono ?_
    rintro e w2 ⟨rfl, rfl⟩
    go_wp2
    go_ret2
    unfold RetT
    rw [HT.out.1, HT.out.2]
    exact ⟨rfl, hb1⟩
  · have hr2 := hr1.cutTo (n := n) (by omega)
    rw [enc_cut] at hr2
    refine (number_any _ _ _ _ _ _ hr2 hn).mono ?_
    rintro e w2 ⟨rfl, rfl⟩
    go_wp2
    go_ret2
    unfold RetT
    rw [HT.out.1, HT.out.2]
    exact ⟨rfl, hb1⟩

end Go.Proofs.Ytanikfgagdncaaa
