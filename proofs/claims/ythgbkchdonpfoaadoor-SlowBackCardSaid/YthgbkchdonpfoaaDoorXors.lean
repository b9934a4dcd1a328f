/-
  Texts of this proof, one behind the other: Xor, XorFits, XorWin, XorCode.
-/
import Derived.Test.YthgbkchdonpfoaaDoorWords
import Derived.Test.YthgbkchdonpfoaaDoorPlain
import Derived.Test.YthgbkchdonpfoaaDoorPut1
import Derived.Handy
import Derived.Lib.BitFns
import Derived.Laws.Bits64
import Derived.Deep.RegionWith
import Derived.Deep.RegionHeld3
import Derived.Deep.QuietTactic
import Derived.BigQuiet
import Derived.Deep.DeepCutAuto

/-
  The contracts of the library's Len64, LeadingZeros64, TrailingZeros64; and of layer 7's low, fits, anew.
-/
namespace Go.Proofs.YthgbkchdonpfoaaDoor
open Go.RowKit

theorem w64_is (x : Int) : wrap64 x = (x + 9223372036854775808) % 18446744073709551616 - 9223372036854775808 := by
  unfold wrap64; rfl
theorem lenB_fuel : ∀ (f x : Nat), x < 2 ^ f → Lib.bitLenAux f x = lenB x
  | 0, x, h => by
    have : x = 0 := by simp at h; omega
    subst this; rfl
  | f + 1, x, h => by
    unfold Lib.bitLenAux
    rw [Nat.pow_succ] at h
    split
    · rename_i h0
      subst h0; rfl
    · rename_i h0
      rw [lenB_fuel f (x / 2) (by omega)]
      by_cases h2 : x = 1
      · subst h2
        rw [show 1 / 2 = 0 from rfl, show lenB 0 = 0 from rfl]
        exact (lenB_is (n := 1) (by omega) (.inr (by omega))).symm
      · have h1 := lenB_shift (x := x) (k := 1) (by omega)
        rw [Nat.pow_one] at h1
        omega
theorem len8_lenB (x : Nat) (hx : x < 256) : Lib.len8 (x : Int) = ((lenB x : Nat) : Int) ∧ lenB x ≤ 8 := by
  have h1 := Lib.len8_of (x : Int) (by omega) (by omega)
  have h2 := Lib.bitLen_le8' (x : Int) (by omega) (by omega)
  rw [Int.toNat_natCast] at h1 h2
  have h3 : Lib.bitLen x = lenB x := lenB_fuel 64 x (by omega)
  rw [h3] at h1 h2
  exact ⟨h1, h2⟩

/-- the library's table of 256 lengths, by its name -/
theorem len8_table {a b c d : List UInt8} (h : (⟨((a.append b).append (c.append d)).toArray⟩ : ByteArray) = Lib.len8tab) : (⟨((a.append b).append (c.append d)).toArray⟩ : ByteArray) = Lib.len8tab := h

theorem len8_at (y : Int) (h : y.toNat < Lib.len8tab.size) (h1 : y ≤ 255) : ((Lib.len8tab[y.toNat]'h).toNat : Int) = ((lenB y.toNat : Nat) : Int) ∧ lenB y.toNat ≤ 8 := by
  have h3 : y.toNat < 256 := by omega
  obtain ⟨h4, h5⟩ := len8_lenB y.toNat h3
  have h6 : Lib.len8 ((y.toNat : Nat) : Int) = ((Lib.len8tab[y.toNat]'h).toNat : Int) := by
    simp only [Lib.len8, Int.toNat_natCast, ByteArray.getElem?_lt' _ _ h, Option.getD_some]
  exact ⟨h6.symm.trans h4, h5⟩
theorem len_sum (x : Int) (k : Nat) (z y : Int) (h : y.toNat < Lib.len8tab.size) (h0 : 0 ≤ x) (hy : y = x / ((2 ^ k : Nat) : Int)) (hk : k ≤ 56) (hx : y ≤ 255) (hb : ((2 ^ k : Nat) : Int) ≤ x) (hz : z = (k : Int)) :
    wrap64 (z + wrap64 ((Lib.len8tab[y.toNat]'h).toNat : Int)) = ((lenB x.toNat : Nat) : Int) := by
  obtain ⟨h1, h2⟩ := len8_at y h hx
  rw [h1, w64_is, w64_is]
  have h3 : lenB x.toNat = lenB y.toNat + k := by
    have e : y.toNat = x.toNat / 2 ^ k := by
      rw [hy]
      obtain ⟨n, rfl⟩ := Int.eq_ofNat_of_zero_le h0
      rw [← Int.natCast_ediv]
      rfl
    rw [e]
    exact lenB_shift (by omega)
  omega
theorem len_none (x : Int) (h : x.toNat < Lib.len8tab.size) (hx : x ≤ 255) :
    wrap64 (wrap64 ((Lib.len8tab[x.toNat]'h).toNat : Int)) = ((lenB x.toNat : Nat) : Int) := by
  obtain ⟨h1, h2⟩ := len8_at x h hx
  rw [h1, w64_is, w64_is]
  omega

set_option maxHeartbeats 1000000 in
set_option maxRecDepth 20000 in
theorem len64_int (x : Int) (w : World) (h0 : 0 ≤ x) (h1 : x ≤ 18446744073709551615) :
    Calls Tryd.prog 63 #[.int .u64 x] w fun e w' => e = .returned (.int .i64 ((lenB x.toNat : Nat) : Int)) ∧ w = w' := by
  have hz := Lib.len8tab_size
  go_enter Tryd.func63, Tryd.ntmps63
  rw [len8_table (by kernel_rfl)]
  go_wp2
  all_goals
    go_ret
    refine ⟨congrArg (fun z => Ending.returned (Value.int .i64 z)) ?_, rfl⟩
    first
      | exact len_sum x 56 56 _ _ h0 (by omega) (by omega) (by omega) (by omega) rfl
      | exact len_sum x 48 48 _ _ h0 (by omega) (by omega) (by omega) (by omega) rfl
      | exact len_sum x 40 40 _ _ h0 (by omega) (by omega) (by omega) (by omega) rfl
      | exact len_sum x 32 32 _ _ h0 (by omega) (by omega) (by omega) (by omega) rfl
      | exact len_sum x 24 24 _ _ h0 (by omega) (by omega) (by omega) (by omega) rfl
      | exact len_sum x 16 16 _ _ h0 (by omega) (by omega) (by omega) (by omega) rfl
      | exact len_sum x 8 8 _ _ h0 (by omega) (by omega) (by omega) (by omega) rfl
      | exact len_none x _ (by omega)
theorem len64_any (x : Nat) (w : World) (hx : x ≤ 18446744073709551615) :
    Calls Tryd.prog 63 #[.int .u64 (x : Int)] w fun e w' => e = .returned (.int .i64 ((lenB x : Nat) : Int)) ∧ w = w' := by
  have := len64_int (x : Int) w (by omega) (by omega)
  rwa [Int.toNat_natCast] at this

theorem lz64_any (x : Nat) (w : World) (hx : x ≤ 18446744073709551615) :
    Calls Tryd.prog 59 #[.int .u64 (x : Int)] w fun e w' => e = .returned (.int .i64 ((lzN x : Nat) : Int)) ∧ w = w' := by
  have h := lenB_le hx
  have e : ((lzN x : Nat) : Int) = 64 - ((lenB x : Nat) : Int) := by unfold lzN; omega
  rw [e]
  clear e
  have hc := fun w => len64_any x w hx
  generalize lenB x = n at *
  go_enter Tryd.func59, Tryd.ntmps59
  go_wp2_with (go_at_call 63; refine (hc _).mono ?_; rintro e w1 ⟨rfl, rfl⟩)
  go_ret
  exact ⟨by go_num, rfl⟩

/-- the library's table of places is there -/
structure TzW (w : World) : Prop where
  size : 1 < w.heap.size
  cell : ∀ t : Nat, t ≤ 63 → w.cell? ⟨1, 2 ^ t * 285870213051353865 % 18446744073709551616 / 288230376151711744, none⟩ = some (.int .u8 (t : Int))
theorem TzW.below {w w' : World} {B : Nat} (h : TzW w) (hb : Below B w w') (hB : 1 < B) : TzW w' :=
  ⟨by have := hb.size; have := h.size; omega, fun t ht => (hb.cell (p := ⟨1, 2 ^ t * 285870213051353865 % 18446744073709551616 / 288230376151711744, none⟩) hB).trans (h.cell t ht)⟩
theorem TzW.bel {w w' : World} (h : TzW w) (hb : Below w.heap.size w w') : TzW w' := h.below hb h.size
theorem TzW.drewN {w : World} (h : TzW w) (n : Nat) : TzW (w.drewN n) := ⟨h.size, h.cell⟩
theorem TzW.drew {w : World} (h : TzW w) : TzW w.drew := ⟨h.size, h.cell⟩

theorem tz_key (x a : Nat) (hx : x ≤ 18446744073709551615) (h0 : x ≠ 0) (h : x &&& (18446744073709551616 - x) = a) :
    IntKind.u64.wrap (bits .and .u64 (x : Int) (IntKind.u64.wrap (-(x : Int))) * 285870213051353865) / 288230376151711744 = ((a * 285870213051353865 % 18446744073709551616 / 288230376151711744 : Nat) : Int) := by
  have e1 : IntKind.u64.wrap (-(x : Int)) = ((18446744073709551616 - x : Nat) : Int) := by rw [IntKind.wrap_u64]; omega
  rw [e1, u64_and_nat x _ (by omega) (by omega), h, IntKind.wrap_u64]
  omega

set_option maxRecDepth 20000 in
set_option maxHeartbeats 400000 in
theorem tz64_core (x i t : Nat) (w : World) (hd : ((x : Int) == 0) = false)
    (hk : IntKind.u64.wrap (bits .and .u64 (x : Int) (IntKind.u64.wrap (-(x : Int))) * 285870213051353865) / 288230376151711744 = (i : Int)) (hi : i < 64) (ht : t ≤ 63) (hc : w.cell? ⟨1, i, none⟩ = some (.int .u8 (t : Int))) :
    Calls Tryd.prog 60 #[.int .u64 (x : Int)] w fun e w' => e = .returned (.int .i64 (t : Int)) ∧ w = w' := by
  go_enter Tryd.func60, Tryd.ntmps60
  go_wp2_with (simp only [hk])
  go_ret
  exact ⟨rfl, rfl⟩
theorem tz64_zero (w : World) :
    Calls Tryd.prog 60 #[.int .u64 0] w fun e w' => e = .returned (.int .i64 64) ∧ w = w' := by
  go_enter Tryd.func60, Tryd.ntmps60
  go_wp2
  go_ret
  exact ⟨rfl, rfl⟩

theorem tz64_any (x : Nat) (w : World) (hx : x ≤ 18446744073709551615) (hR : TzW w) :
    Calls Tryd.prog 60 #[.int .u64 (x : Int)] w fun e w' => e = .returned (.int .i64 ((tzN x : Nat) : Int)) ∧ w = w' := by
  by_cases h0 : x = 0
  · subst h0
    rw [tz_zero]
    exact tz64_zero w
  · have hk := tz_key x _ hx h0 (low_one hx h0)
    have ht := (tz_is hx h0).1
    have hc := hR.cell _ ht
    exact tz64_core x _ _ w (by simp; omega) hk (by omega) ht hc

end Go.Proofs.YthgbkchdonpfoaaDoor

/-
  The contracts of layer 7's low, fits, anew.
-/
namespace Go.Proofs.YthgbkchdonpfoaaDoor
open Go.RowKit

theorem xlow_any (p a n : Nat) (w : World) (h : a + n ≤ 64) :
    Calls Tryd.prog 61 #[.agg #[.int .u64 (p : Int), .int .i64 (a : Int), .int .i64 (n : Int)]] w fun e w' => e = .returned (.int .i64 ((64 - a - n : Nat) : Int)) ∧ Below w.heap.size w w' := by
  go_enter Tryd.func61, Tryd.ntmps61
  go_wp2
  go_ret
  exact ⟨by go_num, (Below.refl _ _).alloc (Nat.le_refl _) _⟩

/-- the world behind two boxes of a state -/
theorem two_below (w : World) (a b : Obj) : Below w.heap.size w ((w.alloc a).alloc b) := ((Below.refl _ _).alloc (Nat.le_refl _) _).alloc (by simp) _

set_option maxRecDepth 20000 in
set_option maxHeartbeats 400000 in
theorem anew_any (p a n x : Nat) (w : World) (hp : p ≤ 18446744073709551615) (hx : x ≤ 18446744073709551615) (hR : TzW w) :
    Calls Tryd.prog 54 #[.agg #[.int .u64 (p : Int), .int .i64 (a : Int), .int .i64 (n : Int)], .int .u64 (x : Int)] w fun e w' => e = .returned (.agg #[.int .u64 ((p ^^^ x : Nat) : Int), .int .i64 ((lzN x : Nat) : Int), .int .i64 (64 - ((lzN x : Nat) : Int) - ((tzN x : Nat) : Int))]) ∧ Below w.heap.size w w' := by
  have hxor := u64_xor_nat p x (by omega) (by omega)
  have hl := lz_le x
  have ht : tzN x ≤ 64 := by
    by_cases h0 : x = 0
    · subst h0; rw [tz_zero]; omega
    · have := (tz_is hx h0).1; omega
  have hcl := fun w => lz64_any x w hx
  have hct := fun w h => tz64_any x w hx h
  generalize p ^^^ x = v at *
  generalize lzN x = l at *
  generalize tzN x = t at *
  have h2 := two_below w (.cells #[.int .u64 (p : Int), .int .i64 (a : Int), .int .i64 (n : Int)] 43) (.cells #[.int .u64 0, .int .i64 0, .int .i64 0] 43)
  have hR2 := (hR.bel h2).drew
  have hwr : IntKind.i64.wrap (IntKind.i64.wrap (64 - (l : Int)) - (t : Int)) = 64 - (l : Int) - (t : Int) := by rw [IntKind.wrap_i64, IntKind.wrap_i64]; omega
  go_enter Tryd.func54, Tryd.ntmps54
  go_wp2_with (go_at_call 59; refine (hcl _).mono ?_; rintro e w1 ⟨rfl, rfl⟩)
  go_region_with (go_at_call 60; refine (hct _ hR2).mono ?_; rintro e w1 ⟨rfl, rfl⟩)
  all_goals
    go_wp2
    go_returns
    exact ⟨rfl, (two_below _ _ _).drew⟩

theorem lz_quiet (x l : Nat) (w : World) (n : Nat) (h : ∀ w, Calls Tryd.prog 59 #[.int .u64 (x : Int)] w fun e w' => e = .returned (.int .i64 (l : Int)) ∧ w = w') :
    Calls Tryd.prog 59 #[.int .u64 (x : Int)] (w.drewN n) fun e w' => e = .returned (.int .i64 (l : Int)) ∧ ∃ m, w' = w.drewN m :=
  (h _).mono fun _ _ ⟨he, hw⟩ => ⟨he, n, hw.symm⟩

set_option maxRecDepth 20000 in
set_option maxHeartbeats 1000000 in
theorem fits_any (p a n x : Nat) (w : World) (han : a + n ≤ 64) (hx : x ≤ 18446744073709551615) (hR : TzW w) :
    Calls Tryd.prog 52 #[.agg #[.int .u64 (p : Int), .int .i64 (a : Int), .int .i64 (n : Int)], .int .u64 (x : Int)] w fun e w' => e = .returned (.bool (decide (fitsX ⟨p, a, n⟩ x))) ∧ Below w.heap.size w w' := by
  have hcl := fun w => lz64_any x w hx
  have hct := fun w h => tz64_any x w hx h
  have hlo := fun w => xlow_any p a n w han
  have h2 : Below w.heap.size w (w.alloc (.cells #[.int .u64 (p : Int), .int .i64 (a : Int), .int .i64 (n : Int)] 43)).drew := ((Below.refl _ _).alloc (Nat.le_refl _) _).drew
  have hR2 := hR.bel h2
  obtain ⟨f, HF⟩ : ∃ f, Hid (decide (fitsX ⟨p, a, n⟩ x) = f) := ⟨_, Lib.hid rfl⟩
  have HF2 : Hid (f = decide (0 < n ∧ a ≤ lzN x ∧ 64 - a - n ≤ tzN x)) := Lib.hid HF.out.symm
  rw [HF.out]
  clear HF
  obtain ⟨k, hk⟩ : ∃ k, 64 - a - n = k := ⟨_, rfl⟩
  rw [hk] at hlo HF2
  clear hk han
  generalize lzN x = l at *
  generalize tzN x = t at *
  by_cases h0 : 0 < n
  · by_cases h1 : a ≤ l
    · have hf : f = decide (k ≤ t) := by rw [HF2.out]; simp [h0, h1]
      subst hf
      clear HF2
      go_enter Tryd.func52, Tryd.ntmps52
      go_wp2_with fail
      have b2 := (Box3.new w (.int .u64 (p : Int)) (.int .i64 (a : Int)) (.int .i64 (n : Int)) 43).drew
      obtain ⟨_, q0, q1, q2, _, _, _⟩ := b2
      have b2 := (Box3.new w (.int .u64 (p : Int)) (.int .i64 (a : Int)) (.int .i64 (n : Int)) 43).drew
      go_region_held3 (fun w' => w'.cell? ⟨w.heap.size, 0, none⟩ = some (.int .u64 (p : Int)) ∧ w'.cell? ⟨w.heap.size, 1, none⟩ = some (.int .i64 (a : Int)) ∧ w'.cell? ⟨w.heap.size, 2, none⟩ = some (.int .i64 (n : Int))) (first | exact ⟨q0, q1, q2⟩ | go_keep) (first
        | (go_at_call 59; refine (hcl _).mono ?_; rintro e w1 ⟨rfl, rfl⟩)
        | (go_at_call 60; refine (hct _ hR2).mono ?_; rintro e w1 ⟨rfl, rfl⟩)
        | (go_at_call 61; refine (hlo _).mono ?_; rintro e w1 ⟨rfl, hb1⟩; clear q0 q1 q2; obtain ⟨_, q0, q1, q2, _, _, _⟩ := b2.below hb1))
      all_goals
        go_wp2
        go_ret
        exact ⟨rfl, h2.trans (hb1.mono h2.size)⟩
    · have hf : f = false := by rw [HF2.out]; simp [h1]
      subst hf
      clear HF2
      go_enter Tryd.func52, Tryd.ntmps52
      go_wp2_with fail
      go_quiet ((go_at_call 59; exact lz_quiet _ _ _ _ hcl))
      go_wp2
      go_ret
      exact ⟨rfl, below_drewN ((Below.refl _ _).alloc (Nat.le_refl _) _) _⟩
  · have hf : f = false := by rw [HF2.out]; simp [h0]
    subst hf
    clear HF2
    go_enter Tryd.func52, Tryd.ntmps52
    go_wp2_with fail
    go_quiet (fail)
    go_wp2
    go_ret
    exact ⟨rfl, below_drewN ((Below.refl _ _).alloc (Nat.le_refl _) _) _⟩

end Go.Proofs.YthgbkchdonpfoaaDoor

/-
  The contract of layer 7's putWindow.
-/
namespace Go.Proofs.YthgbkchdonpfoaaDoor
open Go.RowKit

set_option maxRecDepth 20000 in
set_option maxHeartbeats 1000000 in
theorem putwin_any (A : Option Addr) (m c : Nat) (P Q : List Bool) (p a n x M : Nat) (Lz : Int) (w : World) (h : Rd w w.heap.size A m c (pack P)) (hL : Lz = ((P.length : Nat) : Int)) (hP : P.length ≤ 1000000) (han : a + n ≤ 64)
    (hQ : Q = P ++ low (x / 2 ^ (64 - a - n)) n) (hM : Q.length = M) :
    Calls Tryd.prog 53 #[.agg #[.slice A m c, .int .i64 Lz], .agg #[.int .u64 (p : Int), .int .i64 (a : Int), .int .i64 (n : Int)], .int .u64 (x : Int)] w
      fun e w' => ∃ A c, e = .returned (.agg #[.slice A (pack Q).length c, .int .i64 (M : Int)]) ∧ Own w w' (.slice A (pack Q).length c) (pack Q) := by
  have hlo := fun w => xlow_any p a n w han
  obtain ⟨k, hk⟩ : ∃ k, 64 - a - n = k := ⟨_, rfl⟩
  rw [hk] at hlo hQ
  have HD : Hid ((x : Int) / 2 ^ k = ((x / 2 ^ k : Nat) : Int)) := Lib.hid (by simp)
  have hk64 : min k 64 = k := by omega
  have HL := Lib.hid hL
  have HQ := Lib.hid hQ
  have HM := Lib.hid hM
  clear hL hQ hM hk
  have b3 := ((BoxAt.new w (.slice A m c) (.int .i64 Lz) 57).onA (.cells #[.int .u64 (p : Int), .int .i64 (a : Int), .int .i64 (n : Int)] 43)).onA (.cells #[.slice none 0 0, .int .i64 0] 57)
  have b4 := (Box3.new (w.alloc (.cells #[.slice A m c, .int .i64 Lz] 57)) (.int .u64 (p : Int)) (.int .i64 (a : Int)) (.int .i64 (n : Int)) 43).onA (.cells #[.slice none 0 0, .int .i64 0] 57)
  have b6 := BoxAt.new ((w.alloc (.cells #[.slice A m c, .int .i64 Lz] 57)).alloc (.cells #[.int .u64 (p : Int), .int .i64 (a : Int), .int .i64 (n : Int)] 43)) (.slice none 0 0) (.int .i64 0) 57
  have hw0 := ((two_below w (.cells #[.slice A m c, .int .i64 Lz] 57) (.cells #[.int .u64 (p : Int), .int .i64 (a : Int), .int .i64 (n : Int)] 43)).alloc (by simp; omega) (.cells #[.slice none 0 0, .int .i64 0] 57))
  simp only [World.size_alloc] at b4 b6
  go_enter Tryd.func53, Tryd.ntmps53
  go_wp2_with fail
  generalize ((w.alloc (.cells #[.slice A m c, .int .i64 Lz] 57)).alloc (.cells #[.int .u64 (p : Int), .int .i64 (a : Int), .int .i64 (n : Int)] 43)).alloc (.cells #[.slice none 0 0, .int .i64 0] 57) = W at *
  have hr0 := (h.below hw0).more hw0.size
  have hne1 : w.heap.size ≠ w.heap.size + 1 + 1 := by omega
  have hne2 : w.heap.size + 1 ≠ w.heap.size + 1 + 1 := by omega
  have b3' := b3.drew
  have b4' := b4.drew
  have b6' := b6.drew
  obtain ⟨_, p0, p1, _, _⟩ := b3.drew
  obtain ⟨_, q0, q1, q2, _, _, _⟩ := b4.drew
  go_region_held3 (fun w' => w'.cell? ⟨w.heap.size, 0, none⟩ = some (.slice A m c) ∧ w'.cell? ⟨w.heap.size, 1, none⟩ = some (.int .i64 Lz) ∧ w'.cell? ⟨w.heap.size + 1, 0, none⟩ = some (.int .u64 (p : Int)) ∧ w'.cell? ⟨w.heap.size + 1, 1, none⟩ = some (.int .i64 (a : Int)) ∧ w'.cell? ⟨w.heap.size + 1, 2, none⟩ = some (.int .i64 (n : Int))) (first | exact ⟨p0, p1, q0, q1, q2⟩ | exact ⟨(b3x.other hne1 _ _).c0, (b3x.other hne1 _ _).c1, ((b4x.other hne2 0 _).other hne2 1 _).c0, ((b4x.other hne2 0 _).other hne2 1 _).c1, ((b4x.other hne2 0 _).other hne2 1 _).c2⟩ | go_keep) (first
    | (go_at_call 61; (with_reducible refine (hlo _).mono ?_); rintro e w1 ⟨rfl, hb1⟩; have hw1 := hw0.drew.trans (hb1.mono hw0.drew.size); have hr1 := (h.below hw1).more hw1.size; clear p0 p1 q0 q1 q2; replace b3' := b3'.below hb1; replace b4' := b4'.below hb1; replace b6' := b6'.below hb1; have b3t := b3'; have b4t := b4'; obtain ⟨_, p0, p1, _, _⟩ := b3t; obtain ⟨_, q0, q1, q2, _, _, _⟩ := b4t)
    | (go_at_call 51; (with_reducible refine (put_as A m c P Q (x / 2 ^ k) n _ _ Lz M _ hr1 HL.out HD.out rfl HQ.out HM.out hP (by omega)).mono ?_); rintro e w2 ⟨A2, c2, rfl, hown⟩; clear p0 p1 q0 q1 q2; have b3x := b3'.below hown.bel; have b4x := b4'.below hown.bel; have b3t := b3x; have b4t := b4x; obtain ⟨_, p0, p1, _, _⟩ := b3t; obtain ⟨_, q0, q1, q2, _, _, _⟩ := b4t; obtain ⟨ylt, yc0, yc1, yf0, yf1⟩ := b6'.below hown.bel))
  all_goals
    have hs1 : w.heap.size ≤ w.heap.size + 1 + 1 := by omega
    have hs2 : w.heap.size + 1 + 1 < w1.heap.size := b6'.lt
    have h4 := hown.past2 hw1 (p := ⟨w.heap.size + 1 + 1, 0, none⟩) (q := ⟨w.heap.size + 1 + 1, 1, none⟩) hs1 hs2 hs1 hs2 (.slice A2 (pack Q).length c2) (.int .i64 (M : Int))
    have hy := (BoxAt.mk ylt yc0 yc1 yf0 yf1).set (.slice A2 (pack Q).length c2) (.int .i64 (M : Int))
    clear p0 p1 q0 q1 q2
    go_wp2
    have e0 := hy.c0
    have e1 := hy.c1
    refine bodyPost_ret (v := .agg #[.slice A2 (pack Q).length c2, .int .i64 (M : Int)]) ?_ rfl ⟨A2, c2, rfl, h4⟩
    simp [results, Tryd.results53, go_sem, e0, e1]

end Go.Proofs.YthgbkchdonpfoaaDoor

/-
  The contract of layer 7's Code: a value's code in a state as bits, in new memory, and the state behind it.
-/
namespace Go.Proofs.YthgbkchdonpfoaaDoor
open Go.RowKit

/-- what Code comes to: bits in new memory, and a state -/
def RetX (w : World) (cd : List Bool) (v l k : Nat) (e : Ending) (w' : World) : Prop :=
  ∃ A c, e = .returned (.tuple #[.agg #[.slice A (pack cd).length c, .int .i64 ((cd.length : Nat) : Int)], .agg #[.int .u64 (v : Int), .int .i64 (l : Int), .int .i64 (k : Int)]]) ∧ Own w w' (.slice A (pack cd).length c) (pack cd)

theorem RetX.mk {w w' : World} {cd : List Bool} {A : Option Addr} {c v l k M : Nat} {vz : Int} (hM : cd.length = M) (hv : vz = (v : Int)) (h : Own w w' (.slice A (pack cd).length c) (pack cd)) :
    RetX w cd v l k (.returned (.tuple #[.agg #[.slice A (pack cd).length c, .int .i64 (M : Int)], .agg #[.int .u64 vz, .int .i64 (l : Int), .int .i64 (k : Int)]])) w' := by
  subst hM hv
  exact ⟨A, c, rfl, h⟩

/-- the world behind Code's three boxes -/
def codeW (w : World) (p a n : Nat) : World := ((w.alloc (.cells #[.int .u64 (p : Int), .int .i64 (a : Int), .int .i64 (n : Int)] 43)).alloc (.cells #[.slice none 0 0, .int .i64 0] 57)).alloc (.cells #[.int .u64 0, .int .i64 0, .int .i64 0] 43)
/-- the three boxes -/
structure CodeB (w W : World) (p a n : Nat) : Prop where
  b2 : Box3 W w.heap.size (.int .u64 (p : Int)) (.int .i64 (a : Int)) (.int .i64 (n : Int))
  b4 : BoxAt W (w.heap.size + 1) (.slice none 0 0) (.int .i64 0)
  b5 : Box3 W (w.heap.size + 1 + 1) (.int .u64 0) (.int .i64 0) (.int .i64 0)
  bel : Below w.heap.size w W
theorem CodeB.new (w : World) (p a n : Nat) : CodeB w (codeW w p a n) p a n := by
  have b5 := Box3.new ((w.alloc (.cells #[.int .u64 (p : Int), .int .i64 (a : Int), .int .i64 (n : Int)] 43)).alloc (.cells #[.slice none 0 0, .int .i64 0] 57)) (.int .u64 0) (.int .i64 0) (.int .i64 0) 43
  have b4 := (BoxAt.new (w.alloc (.cells #[.int .u64 (p : Int), .int .i64 (a : Int), .int .i64 (n : Int)] 43)) (.slice none 0 0) (.int .i64 0) 57).onA (.cells #[.int .u64 0, .int .i64 0, .int .i64 0] 43)
  simp only [World.size_alloc] at b4 b5
  exact ⟨((Box3.new w (.int .u64 (p : Int)) (.int .i64 (a : Int)) (.int .i64 (n : Int)) 43).onA _).onA _, b4, b5, (two_below w _ _).alloc (by simp; omega) _⟩
theorem CodeB.below {w W W' : World} {p a n : Nat} (h : CodeB w W p a n) (hb : Below W.heap.size W W') : CodeB w W' p a n :=
  ⟨h.b2.below hb, h.b4.below hb, h.b5.below hb, h.bel.trans (hb.mono h.bel.size)⟩
theorem CodeB.drew {w W : World} {p a n : Nat} (h : CodeB w W p a n) : CodeB w W.drew p a n := ⟨h.b2.drew, h.b4.drew, h.b5.drew, h.bel.drew⟩

theorem CodeB.oth {w W : World} {p a n g : Nat} (h : CodeB w W p a n) (hg : w.heap.size + 1 + 1 < g) (k : Nat) (u : Value) : CodeB w (W.setCell ⟨g, k, none⟩ u) p a n :=
  ⟨h.b2.other (by omega) k u, h.b4.oth (by omega) k u, h.b5.other (by omega) k u, h.bel.setCell (by dsimp only; omega) u⟩
/-- the value ahead is another one -/
theorem CodeB.setp {w W : World} {p a n : Nat} (h : CodeB w W p a n) (v : Nat) : CodeB w (W.setCell ⟨w.heap.size, 0, none⟩ (.int .u64 (v : Int))) v a n := by
  have h1 : w.heap.size + 1 ≠ w.heap.size := by omega
  have h2 : w.heap.size + 1 + 1 ≠ w.heap.size := by omega
  refine ⟨?_, h.b4.oth h1 0 _, h.b5.other h2 0 _, h.bel.setCell (Nat.le_refl _) _⟩
  have c0 := h.b2.c0
  have c1 := h.b2.c1
  have c2 := h.b2.c2
  have f0 := h.b2.f0
  have f1 := h.b2.f1
  have f2 := h.b2.f2
  refine ⟨by simpa using h.b2.lt, ?_, ?_, ?_, ?_, ?_, ?_⟩ <;> go_simp

theorem put_zero : [] ++ low 0 1 = [false] := by decide

set_option maxRecDepth 20000 in
set_option maxHeartbeats 1000000 in
theorem xcode_same (p a n v : Nat) (w : World) (hp : p ≤ 18446744073709551615) (hv : v ≤ 18446744073709551615) (h0 : p ^^^ v = 0) :
    Calls Tryd.prog 42 #[.agg #[.int .u64 (p : Int), .int .i64 (a : Int), .int .i64 (n : Int)], .int .u64 (v : Int)] w (RetX w [false] p a n) := by
  have hxor := u64_xor_nat p v (by omega) (by omega)
  rw [h0] at hxor
  obtain ⟨Q, HQ⟩ : ∃ Q, Hid (Q = [] ++ low 0 1) := ⟨_, Lib.hid rfl⟩
  have HM : Hid (Q.length = 1) := Lib.hid (by rw [HQ.out]; rfl)
  rw [← put_zero, ← HQ.out]
  have hB := CodeB.new w p a n
  unfold codeW at hB
  go_enter Tryd.func42, Tryd.ntmps42
  go_upto_region 3 with fail
  generalize ((w.alloc (.cells #[.int .u64 (p : Int), .int .i64 (a : Int), .int .i64 (n : Int)] 43)).alloc (.cells #[.slice none 0 0, .int .i64 0] 57)).alloc (.cells #[.int .u64 0, .int .i64 0, .int .i64 0] 43) = W at *
  clear hxor
  have h1 : w.heap.size ≠ w.heap.size + 1 := by omega
  have h2 : w.heap.size ≠ w.heap.size + 1 + 1 := by omega
  have hB' := hB.drew
  have HPut := fun (X : World) => put_as none 0 0 [] Q 0 1 0 1 0 1 X (Rd.nil_ (w := X) (B := X.heap.size)) rfl rfl rfl HQ.out HM.out (by simp) (by omega)
  obtain ⟨_, q0, q1, q2, _, _, _⟩ := hB.drew.b2
  go_region_with (first
    | (go_at_call 51; (with_reducible refine (HPut _).mono ?_); rintro e w2 ⟨A2, c2, rfl, hown⟩; have hlt := hB'.b5.lt; replace hB' := hB'.below hown.bel; clear q0 q1 q2; obtain ⟨_, q0, q1, q2, _, _, _⟩ := hB'.b2; obtain ⟨_, y0, y1, yf0, yf1⟩ := hB'.b4; obtain ⟨_, z0, z1, z2, zf0, zf1, zf2⟩ := hB'.b5))
  all_goals
    have hF1 := Two23.one hB'.b4 hB'.b5 (by omega) (.slice A2 (pack Q).length c2) (.int .i64 1) (.int .u64 (p : Int)) (.int .i64 (a : Int)) (.int .i64 (n : Int))
    have hF2 := Two23.two hB'.b4 hB'.b5 (by omega) (.slice A2 (pack Q).length c2) (.int .i64 1) (.int .u64 (p : Int)) (.int .i64 (a : Int)) (.int .i64 (n : Int))
    clear q0 q1 q2 HPut hB'
    go_wp2_with fail
    refine bodyPost_ret (v := .tuple #[.agg #[.slice A2 (pack Q).length c2, .int .i64 1], .agg #[.int .u64 (p : Int), .int .i64 (a : Int), .int .i64 (n : Int)]]) ?_ rfl (RetX.mk HM.out rfl ?_)
    · first
        | simp [results, Tryd.results42, go_sem, hF1.e0, hF1.e1, hF1.g0, hF1.g1, hF1.g2]
        | simp [results, Tryd.results42, go_sem, hF2.e0, hF2.e1, hF2.g0, hF2.g1, hF2.g2]
    · have hmid := Mid.of hown hB.bel.drew
      refine Mid.own (B := W.drew.heap.size) ?_
      repeat' (with_reducible first | exact hmid | refine Mid.set ?_ _ _ (by dsimp only; omega) (by dsimp only; omega))

end Go.Proofs.YthgbkchdonpfoaaDoor
