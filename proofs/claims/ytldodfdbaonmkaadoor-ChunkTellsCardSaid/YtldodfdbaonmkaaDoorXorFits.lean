/-
  The contracts of layer 7's low, fits, anew.
-/
import Derived.Test.YtldodfdbaonmkaaDoorXor
import Derived.Test.YtldodfdbaonmkaaDoorBox3
import Derived.Deep.RegionWith
import Derived.Deep.RegionHeld3
import Derived.Deep.QuietTactic
import Derived.BigQuiet
namespace Go.Proofs.YtldodfdbaonmkaaDoor
open Go.RowKit

theorem xlow_any (p a n : Nat) (w : World) (h : a + n ≤ 64) :
    Calls Tryd.prog 42 #[.agg #[.int .u64 (p : Int), .int .i64 (a : Int), .int .i64 (n : Int)]] w fun e w' => e = .returned (.int .i64 ((64 - a - n : Nat) : Int)) ∧ Below w.heap.size w w' := by
  go_enter Tryd.func42, Tryd.ntmps42
  go_wp2
  go_ret
  exact ⟨by go_num, (Below.refl _ _).alloc (Nat.le_refl _) _⟩

/-- the world behind two boxes of a state -/
theorem two_below (w : World) (a b : Obj) : Below w.heap.size w ((w.alloc a).alloc b) := ((Below.refl _ _).alloc (Nat.le_refl _) _).alloc (by simp) _

set_option maxRecDepth 20000 in
set_option maxHeartbeats 400000 in
theorem anew_any (p a n x : Nat) (w : World) (hp : p ≤ 18446744073709551615) (hx : x ≤ 18446744073709551615) (hR : TzW w) :
    Calls Tryd.prog 35 #[.agg #[.int .u64 (p : Int), .int .i64 (a : Int), .int .i64 (n : Int)], .int .u64 (x : Int)] w fun e w' => e = .returned (.agg #[.int .u64 ((p ^^^ x : Nat) : Int), .int .i64 ((lzN x : Nat) : Int), .int .i64 (64 - ((lzN x : Nat) : Int) - ((tzN x : Nat) : Int))]) ∧ Below w.heap.size w w' := by
  have hxor := u64_xor_nat p x (by omega) (by omega)
  have hl := lz_le x
  have ht : tzN x ≤ 64 := by
    by_cases h0 : x = 0
    · subst h0; rw [tz_zero]; omega
    · have := (tz_is hx h0).1; omega
  have hcl := fun w => lz64_any x w hx
  have hct := fun w h => tz64_any x w hx h
  generalize p ^^^ x = v at *
  generalize lzN x = l at *
  generalize tzN x = t at *
  have h2 := two_below w (.cells #[.int .u64 (p : Int), .int .i64 (a : Int), .int .i64 (n : Int)] 43) (.cells #[.int .u64 0, .int .i64 0, .int .i64 0] 43)
  have hR2 := (hR.bel h2).drew
  have hwr : IntKind.i64.wrap (IntKind.i64.wrap (64 - (l : Int)) - (t : Int)) = 64 - (l : Int) - (t : Int) := by rw [IntKind.wrap_i64, IntKind.wrap_i64]; omega
  go_enter Tryd.func35, Tryd.ntmps35
  go_wp2_with (go_at_call 40; refine (hcl _).mono ?_; rintro e w1 ⟨rfl, rfl⟩)
  go_region_with (go_at_call 41; refine (hct _ hR2).mono ?_; rintro e w1 ⟨rfl, rfl⟩)
  all_goals
    go_wp2
    go_returns
    exact ⟨rfl, (two_below _ _ _).drew⟩

theorem lz_quiet (x l : Nat) (w : World) (n : Nat) (h : ∀ w, Calls Tryd.prog 40 #[.int .u64 (x : Int)] w fun e w' => e = .returned (.int .i64 (l : Int)) ∧ w = w') :
    Calls Tryd.prog 40 #[.int .u64 (x : Int)] (w.drewN n) fun e w' => e = .returned (.int .i64 (l : Int)) ∧ ∃ m, w' = w.drewN m :=
  (h _).mono fun _ _ ⟨he, hw⟩ => ⟨he, n, hw.symm⟩

set_option maxRecDepth 20000 in
set_option maxHeartbeats 1000000 in
theorem fits_any (p a n x : Nat) (w : World) (han : a + n ≤ 64) (hx : x ≤ 18446744073709551615) (hR : TzW w) :
    Calls Tryd.prog 33 #[.agg #[.int .u64 (p : Int), .int .i64 (a : Int), .int .i64 (n : Int)], .int .u64 (x : Int)] w fun e w' => e = .returned (.bool (decide (fitsX ⟨p, a, n⟩ x))) ∧ Below w.heap.size w w' := by
  have hcl := fun w => lz64_any x w hx
  have hct := fun w h => tz64_any x w hx h
  have hlo := fun w => xlow_any p a n w han
  have h2 : Below w.heap.size w (w.alloc (.cells #[.int .u64 (p : Int), .int .i64 (a : Int), .int .i64 (n : Int)] 43)).drew := ((Below.refl _ _).alloc (Nat.le_refl _) _).drew
  have hR2 := hR.bel h2
  obtain ⟨f, HF⟩ : ∃ f, Hid (decide (fitsX ⟨p, a, n⟩ x) = f) := ⟨_, Lib.hid rfl⟩
  have HF2 : Hid (f = decide (0 < n ∧ a ≤ lzN x ∧ 64 - a - n ≤ tzN x)) := Lib.hid HF.out.symm
  rw [HF.out]
  clear HF
  obtain ⟨k, hk⟩ : ∃ k, 64 - a - n = k := ⟨_, rfl⟩
  rw [hk] at hlo HF2
  clear hk han
  generalize lzN x = l at *
  generalize tzN x = t at *
  by_cases h0 : 0 < n
  · by_cases h1 : a ≤ l
    · have hf : f = decide (k ≤ t) := by rw [HF2.out]; simp [h0, h1]
      subst hf
      clear HF2
      go_enter Tryd.func33, Tryd.ntmps33
      go_wp2_with fail
      have b2 := (Box3.new w (.int .u64 (p : Int)) (.int .i64 (a : Int)) (.int .i64 (n : Int)) 43).drew
      obtain ⟨_, q0, q1, q2, _, _, _⟩ := b2
      have b2 := (Box3.new w (.int .u64 (p : Int)) (.int .i64 (a : Int)) (.int .i64 (n : Int)) 43).drew
      go_region_held3 (fun w' => w'.cell? ⟨w.heap.size, 0, none⟩ = some (.int .u64 (p : Int)) ∧ w'.cell? ⟨w.heap.size, 1, none⟩ = some (.int .i64 (a : Int)) ∧ w'.cell? ⟨w.heap.size, 2, none⟩ = some (.int .i64 (n : Int))) (first | exact ⟨q0, q1, q2⟩ | go_keep) (first
        | (go_at_call 40; refine (hcl _).mono ?_; rintro e w1 ⟨rfl, rfl⟩)
        | (go_at_call 41; refine (hct _ hR2).mono ?_; rintro e w1 ⟨rfl, rfl⟩)
        | (go_at_call 42; refine (hlo _).mono ?_; rintro e w1 ⟨rfl, hb1⟩; clear q0 q1 q2; obtain ⟨_, q0, q1, q2, _, _, _⟩ := b2.below hb1))
      all_goals
        go_wp2
        go_ret
        exact ⟨rfl, h2.trans (hb1.mono h2.size)⟩
    · have hf : f = false := by rw [HF2.out]; simp [h1]
      subst hf
      clear HF2
      go_enter Tryd.func33, Tryd.ntmps33
      go_wp2_with fail
      go_quiet ((go_at_call 40; exact lz_quiet _ _ _ _ hcl))
      go_wp2
      go_ret
      exact ⟨rfl, below_drewN ((Below.refl _ _).alloc (Nat.le_refl _) _) _⟩
  · have hf : f = false := by rw [HF2.out]; simp [h0]
    subst hf
    clear HF2
    go_enter Tryd.func33, Tryd.ntmps33
    go_wp2_with fail
    go_quiet (fail)
    go_wp2
    go_ret
    exact ⟨rfl, below_drewN ((Below.refl _ _).alloc (Nat.le_refl _) _) _⟩

end Go.Proofs.YtldodfdbaonmkaaDoor
