/-
  The contract of the example at the head of the laws of layer 2: it holds.
-/
import Derived.Test.YtcjbaolpkbkblaaFill
namespace Go.Proofs.Ytcjbaolpkbkblaa
open Go.RowKit

theorem up2_num : num (ext (flat [128]) 0 9) = 256 := by decide +kernel

theorem up2_new (w : World) : Calls Try.prog 6 #[.slice (some ⟨w.heap.size, 0, none⟩) 1 1] (w.alloc (.cells #[.int .u8 128] 5)) fun e w' => e = .returned (.pointer (some ⟨w.heap.size + 1, 0, none⟩)) ∧ Rdr w' (w.heap.size + 1) (some ⟨w.heap.size, 0, none⟩) 1 1 [128] 0 ∧ Below w.heap.size w w' := by
  have h := new_any (some ⟨w.heap.size, 0, none⟩) 1 1 [128] (w.alloc (.cells #[.int .u8 ((128 : Nat) : Int)] 5)) (by have := Rd.one w 128; simpa using this) (by simp) (by omega)
  have e : (w.alloc (.cells #[.int .u8 ((128 : Nat) : Int)] 5)).heap.size = w.heap.size + 1 := by simp
  rw [e] at h
  refine Calls.mono h ?_
  rintro e w' ⟨he, hr, hb, _⟩
  exact ⟨he, hr, ((Below.refl _ _).alloc (Nat.le_refl _) _).trans (hb.mono (by omega))⟩
section
variable {w : World} {g n c : Nat} {A : Option Addr}
theorem up2_peek (h : Rdr w g A 1 c [128] 0) : Calls Try.prog 10 #[.pointer (some ⟨g, 0, none⟩), .int .i64 9] w fun e w' => e = .returned (.int .u64 256) ∧ Went w g A 1 c [128] 0 w' := by
  have := peek_yes g A 1 c [128] 0 9 w h (by omega)
  rw [up2_num] at this
  exact this.mono fun _ _ ⟨he, m, hw⟩ => ⟨he, by rw [hw]; exact Went.stay h m⟩
theorem up2_left (h : Rdr w g A 1 c [128] 0) : Calls Try.prog 13 #[.pointer (some ⟨g, 0, none⟩)] w fun e w' => e = .returned (.int .i64 8) ∧ Went w g A 1 c [128] 0 w' :=
  (left_any g A 1 c [128] 0 w h).mono fun _ _ ⟨he, m, hw⟩ => ⟨he, by rw [hw]; exact Went.stay h m⟩
theorem up2_end (h : Rdr w g A 1 c [128] 8) : Calls Try.prog 13 #[.pointer (some ⟨g, 0, none⟩)] w fun e w' => e = .returned (.int .i64 0) ∧ Went w g A 1 c [128] 8 w' :=
  (left_any g A 1 c [128] 8 w h).mono fun _ _ ⟨he, m, hw⟩ => ⟨he, by rw [hw]; exact Went.stay h m⟩
theorem up2_no (h : Rdr w g A 1 c [128] 0) : Calls Try.prog 11 #[.pointer (some ⟨g, 0, none⟩), .int .i64 9] w fun e w' => e = .returned (.bool false) ∧ Went w g A 1 c [128] 0 w' :=
  (skip_no g A 1 c [128] 0 9 w h (by omega)).mono fun _ _ ⟨he, m, hw⟩ => ⟨he, by rw [hw]; exact Went.stay h m⟩
theorem up2_yes (h : Rdr w g A 1 c [128] 0) : Calls Try.prog 11 #[.pointer (some ⟨g, 0, none⟩), .int .i64 8] w fun e w' => e = .returned (.bool true) ∧ Went w g A 1 c [128] 8 w' :=
  skip_yes g A 1 c [128] 0 8 w h (by omega)
end

set_option maxHeartbeats 400000 in
theorem up2_any (w : World) : Calls Try.prog 5 #[] w fun e w' => e = .returned (.bool true) ∧ Below w.heap.size w w' := by
  go_enter Try.func5, Try.ntmps5
  go_wp2_with fail
  refine (up2_new w).mono ?_
  rintro e w1 ⟨rfl, h1, hb1⟩
  go_wp2_with fail
  refine (up2_peek h1).mono ?_
  rintro e w2 ⟨rfl, h2⟩
  go_wp2_with fail
  refine (up2_left h2.rdr).mono ?_
  rintro e w3 ⟨rfl, h3⟩
  go_wp2_with fail
  refine (up2_no h3.rdr).mono ?_
  rintro e w4 ⟨rfl, h4⟩
  go_wp2_with fail
  refine (up2_yes h4.rdr).mono ?_
  rintro e w5 ⟨rfl, h5⟩
  go_wp2_with fail
  refine (up2_end h5.rdr).mono ?_
  rintro e w6 ⟨rfl, h6⟩
  go_wp2
  go_ret
  refine ⟨rfl, hb1.grown ((((h2.trans h3).trans h4).trans h5).trans h6).only hb1.size ?_⟩
  intro k hk
  injection hk with hk
  omega

end Go.Proofs.Ytcjbaolpkbkblaa
