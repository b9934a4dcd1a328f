/-
  The contract of onlyFill of layer 12: whether the bits ahead of a reader only fill up a byte.
-/
import Derived.Test.YtnjohmgacmcdnaaDoorSlow2
import Derived.Test.YtnjohmgacmcdnaaDoorFill
namespace Go.Proofs.YtnjohmgacmcdnaaDoor
open Go.RowKit

set_option maxRecDepth 20000 in
set_option maxHeartbeats 400000 in
theorem qfill_any (g : Nat) (A : Option Addr) (m c : Nat) (bs : List Nat) (a : Nat) (w : World) (h : Rdr w g A m c bs a) :
    Calls Tryd.prog 16 #[.pointer (some ⟨g, 0, none⟩)] w fun e w' => e = .returned (.bool (decide (tailE ((flat bs).drop a) = 0))) ∧ ∃ k, w' = w.drewN k := by
  have hpl : ((flat bs).drop a).length = 8 * m - a := by rw [List.length_drop, flat_length, h.len]
  have hl := left_any g A m c bs a w h
  have hle := h.at_
  obtain ⟨L, HL⟩ : ∃ L, Hid (8 * m - a = L) := ⟨_, Lib.hid rfl⟩
  rw [HL.out] at hpl hl
  go_enter Tryd.func16, Tryd.ntmps16
  by_cases h8 : 8 ≤ L
  · have HT := Lib.hid (tailE_long (p := (flat bs).drop a) (by omega))
    have h8i : ¬ (L : Int) < 8 := by omega
    clear hpl hle h8
    go_wp2_with fail
    refine hl.mono ?_
    rintro e w1 ⟨rfl, k, rfl⟩
    clear hl
    go_wp2
    go_ret
    rw [HT.out]
    exact ⟨rfl, k, rfl⟩
  · have HT := Lib.hid (tailE_short (p := (flat bs).drop a) (by omega))
    have hcut : ext (flat bs) a L = (flat bs).drop a := by
      rw [ext_cut _ _ _ (by rw [flat_length, h.len]; have := HL.out; omega)]
      unfold cut
      exact List.take_of_length_le (by omega)
    have hp : ∀ k, Calls Tryd.prog 28 #[.pointer (some ⟨g, 0, none⟩), .int .i64 (L : Int)] (w.drewN k) fun e w' => e = .returned (.int .u64 ((num ((flat bs).drop a) : Nat) : Int)) ∧ ∃ m, w' = (w.drewN k).drewN m := fun k => by
      have := peek_yes g A m c bs a L (w.drewN k) (h.drewN k) (by omega)
      rwa [hcut] at this
    have h8i : (L : Int) < 8 := by omega
    clear hpl hcut hle h8
    generalize num ((flat bs).drop a) = x at *
    by_cases hx : x = 0
    · subst hx
      go_wp2_with fail
      refine hl.mono ?_
      rintro e w1 ⟨rfl, k, rfl⟩
      clear hl
      go_wp2_with fail
      refine (hp k).mono ?_
      rintro e w1 ⟨rfl, k2, rfl⟩
      go_wp2
      go_ret
      rw [HT.out]
      exact ⟨rfl, _, rfl⟩
    · have hx0 : ((x : Int) == 0) = false := by simp; omega
      go_wp2_with fail
      refine hl.mono ?_
      rintro e w1 ⟨rfl, k, rfl⟩
      clear hl
      go_wp2_with fail
      refine (hp k).mono ?_
      rintro e w1 ⟨rfl, k2, rfl⟩
      go_wp2
      go_ret
      rw [HT.out, if_neg hx]
      exact ⟨rfl, _, rfl⟩

end Go.Proofs.YtnjohmgacmcdnaaDoor
