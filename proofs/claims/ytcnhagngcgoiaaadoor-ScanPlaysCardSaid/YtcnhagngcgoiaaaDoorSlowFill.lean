/-
  The contract of onlyFill: whether the bits from a place on only fill up a byte.
-/
import Derived.Test.YtcnhagngcgoiaaaDoorSlowP
import Derived.Test.YtcnhagngcgoiaaaDoorGets
namespace Go.Proofs.YtcnhagngcgoiaaaDoor
open Go.RowKit

set_option maxRecDepth 20000 in
set_option maxHeartbeats 400000 in
theorem onlyfill_any (A : Option Addr) (m c B : Nat) (bs : List Nat) (a : Nat) (w : World) (h : Rd w B A m c bs) (hb : ∀ x ∈ bs, x < 256) (hm : m ≤ 100000) (ha : a ≤ 8 * m) :
    Calls Tryd.prog 69 #[.slice A m c, .int .i64 (a : Int)] w fun e w' => e = .returned (.bool (decide (tailE ((flat bs).drop a) = 0))) ∧ w = w' := by
  have hl := h.len
  have hpl : ((flat bs).drop a).length = 8 * m - a := by rw [List.length_drop, flat_length, hl]
  obtain ⟨L, HL⟩ : ∃ L, Hid (8 * m - a = L) := ⟨_, Lib.hid rfl⟩
  have hLi : 8 * (m : Int) - (a : Int) = (L : Int) := by have := HL.out; omega
  rw [HL.out] at hpl
  by_cases h8 : 8 ≤ L
  · have HT := Lib.hid (tailE_long (p := (flat bs).drop a) (by omega))
    have h8i : 8 ≤ 8 * (m : Int) - (a : Int) := by omega
    clear hpl hl hLi
    go_enter Tryd.func69, Tryd.ntmps69
    go_wp2
    go_ret
    rw [HT.out]
    exact ⟨rfl, rfl⟩
  · have HT := Lib.hid (tailE_short (p := (flat bs).drop a) (by omega))
    have hY := takeB_yes (bs := bs) (a := a) (n := L) (by omega) (by have := HL.out; omega)
    have hcut : cut (flat bs) a L = (flat bs).drop a := by
      unfold cut
      exact List.take_of_length_le (by omega)
    rw [hcut] at hY
    have HY := Lib.hid hY
    have hT := take_yes A m c B bs a L w h hb (by omega) (by omega) (by have := HL.out; omega)
    unfold RetS at hT
    rw [hY.1, hY.2, ← hLi] at hT
    have h8i : 8 * (m : Int) - (a : Int) < 8 := by omega
    clear hpl hl hY hcut HY hLi
    generalize num ((flat bs).drop a) = x at *
    go_enter Tryd.func69, Tryd.ntmps69
    by_cases hx : x = 0
    · subst hx
      go_wp2_with fail
      refine hT.mono ?_
      rintro e w1 ⟨rfl, rfl⟩
      go_wp2
      go_ret
      rw [HT.out]
      exact ⟨rfl, rfl⟩
    · have hx0 : ((x : Int) == 0) = false := by simp; omega
      go_wp2_with fail
      refine hT.mono ?_
      rintro e w1 ⟨rfl, rfl⟩
      go_wp2
      go_ret
      rw [HT.out, if_neg hx]
      exact ⟨rfl, rfl⟩

end Go.Proofs.YtcnhagngcgoiaaaDoor
