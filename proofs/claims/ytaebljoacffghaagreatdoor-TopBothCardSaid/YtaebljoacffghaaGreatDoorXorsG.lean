/-
  Texts of this proof, one behind the other: Xor, XorFits.
-/
import Derived.Test.YtaebljoacffghaaGreatDoorWords
import Derived.Test.YtaebljoacffghaaGreatDoorPlain
import Derived.Handy
import Derived.Lib.BitFns
import Derived.Laws.Bits64
import Derived.Deep.RegionWith
import Derived.Deep.RegionHeld3
import Derived.Deep.QuietTactic
import Derived.BigQuiet

/-
  The contracts of the library's Len64, LeadingZeros64, TrailingZeros64; and of layer 7's low, fits, anew.
-/
namespace Go.Proofs.YtaebljoacffghaaGreatDoor
open Go.RowKit

theorem w64_is (x : Int) : wrap64 x = (x + 9223372036854775808) % 18446744073709551616 - 9223372036854775808 := by
  unfold wrap64; rfl
theorem lenB_fuel : ∀ (f x : Nat), x < 2 ^ f → Lib.bitLenAux f x = lenB x
  | 0, x, h => by
    have : x = 0 := by simp at h; omega
    subst this; rfl
  | f + 1, x, h => by
    unfold Lib.bitLenAux
    rw [Nat.pow_succ] at h
    split
    · rename_i h0
      subst h0; rfl
    · rename_i h0
      rw [lenB_fuel f (x / 2) (by omega)]
      by_cases h2 : x = 1
      · subst h2
        rw [show 1 / 2 = 0 from rfl, show lenB 0 = 0 from rfl]
        exact (lenB_is (n := 1) (by omega) (.inr (by omega))).symm
      · have h1 := lenB_shift (x := x) (k := 1) (by omega)
        rw [Nat.pow_one] at h1
        omega
theorem len8_lenB (x : Nat) (hx : x < 256) : Lib.len8 (x : Int) = ((lenB x : Nat) : Int) ∧ lenB x ≤ 8 := by
  have h1 := Lib.len8_of (x : Int) (by omega) (by omega)
  have h2 := Lib.bitLen_le8' (x : Int) (by omega) (by omega)
  rw [Int.toNat_natCast] at h1 h2
  have h3 : Lib.bitLen x = lenB x := lenB_fuel 64 x (by omega)
  rw [h3] at h1 h2
  exact ⟨h1, h2⟩

/-- the library's table of 256 lengths, by its name -/
theorem len8_table {a b c d : List UInt8} (h : (⟨((a.append b).append (c.append d)).toArray⟩ : ByteArray) = Lib.len8tab) : (⟨((a.append b).append (c.append d)).toArray⟩ : ByteArray) = Lib.len8tab := h

theorem len8_at (y : Int) (h : y.toNat < Lib.len8tab.size) (h1 : y ≤ 255) : ((Lib.len8tab[y.toNat]'h).toNat : Int) = ((lenB y.toNat : Nat) : Int) ∧ lenB y.toNat ≤ 8 := by
  have h3 : y.toNat < 256 := by omega
  obtain ⟨h4, h5⟩ := len8_lenB y.toNat h3
  have h6 : Lib.len8 ((y.toNat : Nat) : Int) = ((Lib.len8tab[y.toNat]'h).toNat : Int) := by
    simp only [Lib.len8, Int.toNat_natCast, ByteArray.getElem?_lt' _ _ h, Option.getD_some]
  exact ⟨h6.symm.trans h4, h5⟩
theorem len_sum (x : Int) (k : Nat) (z y : Int) (h : y.toNat < Lib.len8tab.size) (h0 : 0 ≤ x) (hy : y = x / ((2 ^ k : Nat) : Int)) (hk : k ≤ 56) (hx : y ≤ 255) (hb : ((2 ^ k : Nat) : Int) ≤ x) (hz : z = (k : Int)) :
    wrap64 (z + wrap64 ((Lib.len8tab[y.toNat]'h).toNat : Int)) = ((lenB x.toNat : Nat) : Int) := by
  obtain ⟨h1, h2⟩ := len8_at y h hx
  rw [h1, w64_is, w64_is]
  have h3 : lenB x.toNat = lenB y.toNat + k := by
    have e : y.toNat = x.toNat / 2 ^ k := by
      rw [hy]
      obtain ⟨n, rfl⟩ := Int.eq_ofNat_of_zero_le h0
      rw [← Int.natCast_ediv]
      rfl
    rw [e]
    exact lenB_shift (by omega)
  omega
theorem len_none (x : Int) (h : x.toNat < Lib.len8tab.size) (hx : x ≤ 255) :
    wrap64 (wrap64 ((Lib.len8tab[x.toNat]'h).toNat : Int)) = ((lenB x.toNat : Nat) : Int) := by
  obtain ⟨h1, h2⟩ := len8_at x h hx
  rw [h1, w64_is, w64_is]
  omega

set_option maxHeartbeats 1000000 in
set_option maxRecDepth 20000 in
theorem len64_int (x : Int) (w : World) (h0 : 0 ≤ x) (h1 : x ≤ 18446744073709551615) :
    Calls Tryz.prog 146 #[.int .u64 x] w fun e w' => e = .returned (.int .i64 ((lenB x.toNat : Nat) : Int)) ∧ w = w' := by
  have hz := Lib.len8tab_size
  go_enter Tryz.func146, Tryz.ntmps146
  rw [len8_table (by kernel_rfl)]
  go_wp2
  all_goals
    go_ret
    refine ⟨congrArg (fun z => Ending.returned (Value.int .i64 z)) ?_, rfl⟩
    first
      | exact len_sum x 56 56 _ _ h0 (by omega) (by omega) (by omega) (by omega) rfl
      | exact len_sum x 48 48 _ _ h0 (by omega) (by omega) (by omega) (by omega) rfl
      | exact len_sum x 40 40 _ _ h0 (by omega) (by omega) (by omega) (by omega) rfl
      | exact len_sum x 32 32 _ _ h0 (by omega) (by omega) (by omega) (by omega) rfl
      | exact len_sum x 24 24 _ _ h0 (by omega) (by omega) (by omega) (by omega) rfl
      | exact len_sum x 16 16 _ _ h0 (by omega) (by omega) (by omega) (by omega) rfl
      | exact len_sum x 8 8 _ _ h0 (by omega) (by omega) (by omega) (by omega) rfl
      | exact len_none x _ (by omega)
theorem len64_any (x : Nat) (w : World) (hx : x ≤ 18446744073709551615) :
    Calls Tryz.prog 146 #[.int .u64 (x : Int)] w fun e w' => e = .returned (.int .i64 ((lenB x : Nat) : Int)) ∧ w = w' := by
  have := len64_int (x : Int) w (by omega) (by omega)
  rwa [Int.toNat_natCast] at this

theorem lz64_any (x : Nat) (w : World) (hx : x ≤ 18446744073709551615) :
    Calls Tryz.prog 138 #[.int .u64 (x : Int)] w fun e w' => e = .returned (.int .i64 ((lzN x : Nat) : Int)) ∧ w = w' := by
  have h := lenB_le hx
  have e : ((lzN x : Nat) : Int) = 64 - ((lenB x : Nat) : Int) := by unfold lzN; omega
  rw [e]
  clear e
  have hc := fun w => len64_any x w hx
  generalize lenB x = n at *
  go_enter Tryz.func138, Tryz.ntmps138
  go_wp2_with (go_at_call 146; refine (hc _).mono ?_; rintro e w1 ⟨rfl, rfl⟩)
  go_ret
  exact ⟨by go_num, rfl⟩

/-- the library's table of places is there -/
structure TzW (w : World) : Prop where
  size : 1 < w.heap.size
  cell : ∀ t : Nat, t ≤ 63 → w.cell? ⟨1, 2 ^ t * 285870213051353865 % 18446744073709551616 / 288230376151711744, none⟩ = some (.int .u8 (t : Int))
theorem TzW.below {w w' : World} {B : Nat} (h : TzW w) (hb : Below B w w') (hB : 1 < B) : TzW w' :=
  ⟨by have := hb.size; have := h.size; omega, fun t ht => (hb.cell (p := ⟨1, 2 ^ t * 285870213051353865 % 18446744073709551616 / 288230376151711744, none⟩) hB).trans (h.cell t ht)⟩
theorem TzW.bel {w w' : World} (h : TzW w) (hb : Below w.heap.size w w') : TzW w' := h.below hb h.size
theorem TzW.drewN {w : World} (h : TzW w) (n : Nat) : TzW (w.drewN n) := ⟨h.size, h.cell⟩
theorem TzW.drew {w : World} (h : TzW w) : TzW w.drew := ⟨h.size, h.cell⟩

theorem tz_key (x a : Nat) (hx : x ≤ 18446744073709551615) (h0 : x ≠ 0) (h : x &&& (18446744073709551616 - x) = a) :
    IntKind.u64.wrap (bits .and .u64 (x : Int) (IntKind.u64.wrap (-(x : Int))) * 285870213051353865) / 288230376151711744 = ((a * 285870213051353865 % 18446744073709551616 / 288230376151711744 : Nat) : Int) := by
  have e1 : IntKind.u64.wrap (-(x : Int)) = ((18446744073709551616 - x : Nat) : Int) := by rw [IntKind.wrap_u64]; omega
  rw [e1, u64_and_nat x _ (by omega) (by omega), h, IntKind.wrap_u64]
  omega

set_option maxRecDepth 20000 in
set_option maxHeartbeats 400000 in
theorem tz64_core (x i t : Nat) (w : World) (hd : ((x : Int) == 0) = false)
    (hk : IntKind.u64.wrap (bits .and .u64 (x : Int) (IntKind.u64.wrap (-(x : Int))) * 285870213051353865) / 288230376151711744 = (i : Int)) (hi : i < 64) (ht : t ≤ 63) (hc : w.cell? ⟨1, i, none⟩ = some (.int .u8 (t : Int))) :
    Calls Tryz.prog 139 #[.int .u64 (x : Int)] w fun e w' => e = .returned (.int .i64 (t : Int)) ∧ w = w' := by
  go_enter Tryz.func139, Tryz.ntmps139
  go_wp2_with (simp only [hk])
  go_ret
  exact ⟨rfl, rfl⟩
theorem tz64_zero (w : World) :
    Calls Tryz.prog 139 #[.int .u64 0] w fun e w' => e = .returned (.int .i64 64) ∧ w = w' := by
  go_enter Tryz.func139, Tryz.ntmps139
  go_wp2
  go_ret
  exact ⟨rfl, rfl⟩

theorem tz64_any (x : Nat) (w : World) (hx : x ≤ 18446744073709551615) (hR : TzW w) :
    Calls Tryz.prog 139 #[.int .u64 (x : Int)] w fun e w' => e = .returned (.int .i64 ((tzN x : Nat) : Int)) ∧ w = w' := by
  by_cases h0 : x = 0
  · subst h0
    rw [tz_zero]
    exact tz64_zero w
  · have hk := tz_key x _ hx h0 (low_one hx h0)
    have ht := (tz_is hx h0).1
    have hc := hR.cell _ ht
    exact tz64_core x _ _ w (by simp; omega) hk (by omega) ht hc

end Go.Proofs.YtaebljoacffghaaGreatDoor

/-
  The contracts of layer 7's low, fits, anew.
-/
namespace Go.Proofs.YtaebljoacffghaaGreatDoor
open Go.RowKit

theorem xlow_any (p a n : Nat) (w : World) (h : a + n ≤ 64) :
    Calls Tryz.prog 140 #[.agg #[.int .u64 (p : Int), .int .i64 (a : Int), .int .i64 (n : Int)]] w fun e w' => e = .returned (.int .i64 ((64 - a - n : Nat) : Int)) ∧ Below w.heap.size w w' := by
  go_enter Tryz.func140, Tryz.ntmps140
  go_wp2
  go_ret
  exact ⟨by go_num, (Below.refl _ _).alloc (Nat.le_refl _) _⟩

/-- the world behind two boxes of a state -/
theorem two_below (w : World) (a b : Obj) : Below w.heap.size w ((w.alloc a).alloc b) := ((Below.refl _ _).alloc (Nat.le_refl _) _).alloc (by simp) _

set_option maxRecDepth 20000 in
set_option maxHeartbeats 400000 in
theorem anew_any (p a n x : Nat) (w : World) (hp : p ≤ 18446744073709551615) (hx : x ≤ 18446744073709551615) (hR : TzW w) :
    Calls Tryz.prog 128 #[.agg #[.int .u64 (p : Int), .int .i64 (a : Int), .int .i64 (n : Int)], .int .u64 (x : Int)] w fun e w' => e = .returned (.agg #[.int .u64 ((p ^^^ x : Nat) : Int), .int .i64 ((lzN x : Nat) : Int), .int .i64 (64 - ((lzN x : Nat) : Int) - ((tzN x : Nat) : Int))]) ∧ Below w.heap.size w w' := by
  have hxor := u64_xor_nat p x (by omega) (by omega)
  have hl := lz_le x
  have ht : tzN x ≤ 64 := by
    by_cases h0 : x = 0
    · subst h0; rw [tz_zero]; omega
    · have := (tz_is hx h0).1; omega
  have hcl := fun w => lz64_any x w hx
  have hct := fun w h => tz64_any x w hx h
  generalize p ^^^ x = v at *
  generalize lzN x = l at *
  generalize tzN x = t at *
  have h2 := two_below w (.cells #[.int .u64 (p : Int), .int .i64 (a : Int), .int .i64 (n : Int)] 149) (.cells #[.int .u64 0, .int .i64 0, .int .i64 0] 149)
  have hR2 := (hR.bel h2).drew
  have hwr : IntKind.i64.wrap (IntKind.i64.wrap (64 - (l : Int)) - (t : Int)) = 64 - (l : Int) - (t : Int) := by rw [IntKind.wrap_i64, IntKind.wrap_i64]; omega
  go_enter Tryz.func128, Tryz.ntmps128
  go_wp2_with (go_at_call 138; refine (hcl _).mono ?_; rintro e w1 ⟨rfl, rfl⟩)
  go_region_with (go_at_call 139; refine (hct _ hR2).mono ?_; rintro e w1 ⟨rfl, rfl⟩)
  all_goals
    go_wp2
    go_returns
    exact ⟨rfl, (two_below _ _ _).drew⟩

theorem lz_quiet (x l : Nat) (w : World) (n : Nat) (h : ∀ w, Calls Tryz.prog 138 #[.int .u64 (x : Int)] w fun e w' => e = .returned (.int .i64 (l : Int)) ∧ w = w') :
    Calls Tryz.prog 138 #[.int .u64 (x : Int)] (w.drewN n) fun e w' => e = .returned (.int .i64 (l : Int)) ∧ ∃ m, w' = w.drewN m :=
  (h _).mono fun _ _ ⟨he, hw⟩ => ⟨he, n, hw.symm⟩

set_option maxRecDepth 20000 in
set_option maxHeartbeats 1000000 in
theorem fits_any (p a n x : Nat) (w : World) (han : a + n ≤ 64) (hx : x ≤ 18446744073709551615) (hR : TzW w) :
    Calls Tryz.prog 126 #[.agg #[.int .u64 (p : Int), .int .i64 (a : Int), .int .i64 (n : Int)], .int .u64 (x : Int)] w fun e w' => e = .returned (.bool (decide (fitsX ⟨p, a, n⟩ x))) ∧ Below w.heap.size w w' := by
  have hcl := fun w => lz64_any x w hx
  have hct := fun w h => tz64_any x w hx h
  have hlo := fun w => xlow_any p a n w han
  have h2 : Below w.heap.size w (w.alloc (.cells #[.int .u64 (p : Int), .int .i64 (a : Int), .int .i64 (n : Int)] 149)).drew := ((Below.refl _ _).alloc (Nat.le_refl _) _).drew
  have hR2 := hR.bel h2
  obtain ⟨f, HF⟩ : ∃ f, Hid (decide (fitsX ⟨p, a, n⟩ x) = f) := ⟨_, Lib.hid rfl⟩
  have HF2 : Hid (f = decide (0 < n ∧ a ≤ lzN x ∧ 64 - a - n ≤ tzN x)) := Lib.hid HF.out.symm
  rw [HF.out]
  clear HF
  obtain ⟨k, hk⟩ : ∃ k, 64 - a - n = k := ⟨_, rfl⟩
  rw [hk] at hlo HF2
  clear hk han
  generalize lzN x = l at *
  generalize tzN x = t at *
  by_cases h0 : 0 < n
  · by_cases h1 : a ≤ l
    · have hf : f = decide (k ≤ t) := by rw [HF2.out]; simp [h0, h1]
      subst hf
      clear HF2
      go_enter Tryz.func126, Tryz.ntmps126
      go_wp2_with fail
      have b2 := (Box3.new w (.int .u64 (p : Int)) (.int .i64 (a : Int)) (.int .i64 (n : Int)) 149).drew
      obtain ⟨_, q0, q1, q2, _, _, _⟩ := b2
      have b2 := (Box3.new w (.int .u64 (p : Int)) (.int .i64 (a : Int)) (.int .i64 (n : Int)) 149).drew
      go_region_held3 (fun w' => w'.cell? ⟨w.heap.size, 0, none⟩ = some (.int .u64 (p : Int)) ∧ w'.cell? ⟨w.heap.size, 1, none⟩ = some (.int .i64 (a : Int)) ∧ w'.cell? ⟨w.heap.size, 2, none⟩ = some (.int .i64 (n : Int))) (first | exact ⟨q0, q1, q2⟩ | go_keep) (first
        | (go_at_call 138; refine (hcl _).mono ?_; rintro e w1 ⟨rfl, rfl⟩)
        | (go_at_call 139; refine (hct _ hR2).mono ?_; rintro e w1 ⟨rfl, rfl⟩)
        | (go_at_call 140; refine (hlo _).mono ?_; rintro e w1 ⟨rfl, hb1⟩; clear q0 q1 q2; obtain ⟨_, q0, q1, q2, _, _, _⟩ := b2.below hb1))
      all_goals
        go_wp2
        go_ret
        exact ⟨rfl, h2.trans (hb1.mono h2.size)⟩
    · have hf : f = false := by rw [HF2.out]; simp [h1]
      subst hf
      clear HF2
      go_enter Tryz.func126, Tryz.ntmps126
      go_wp2_with fail
      go_quiet ((go_at_call 138; exact lz_quiet _ _ _ _ hcl))
      go_wp2
      go_ret
      exact ⟨rfl, below_drewN ((Below.refl _ _).alloc (Nat.le_refl _) _) _⟩
  · have hf : f = false := by rw [HF2.out]; simp [h0]
    subst hf
    clear HF2
    go_enter Tryz.func126, Tryz.ntmps126
    go_wp2_with fail
    go_quiet (fail)
    go_wp2
    go_ret
    exact ⟨rfl, below_drewN ((Below.refl _ _).alloc (Nat.le_refl _) _) _⟩

end Go.Proofs.YtaebljoacffghaaGreatDoor
