/-
  Texts of this proof, one behind the other: XorFits, XorWin.
-/
import Derived.Test.YtcnhoohcdkfgkaaDoorYXor
import Derived.Test.YtcnhoohcdkfgkaaDoorM3
import Derived.Test.YtcnhoohcdkfgkaaDoorM2
import Derived.Deep.RegionWith
import Derived.Deep.RegionHeld3
import Derived.Deep.QuietTactic
import Derived.BigQuiet

/-
  The contracts of layer 7's low, fits, anew.
-/
namespace Go.Proofs.YtcnhoohcdkfgkaaDoor
open Go.RowKit

theorem xlow_any (p a n : Nat) (w : World) (h : a + n ≤ 64) :
    Calls Tryd.prog 60 #[.agg #[.int .u64 (p : Int), .int .i64 (a : Int), .int .i64 (n : Int)]] w fun e w' => e = .returned (.int .i64 ((64 - a - n : Nat) : Int)) ∧ Below w.heap.size w w' := by
  go_enter Tryd.func60, Tryd.ntmps60
  go_wp2
  go_ret
  exact ⟨by go_num, (Below.refl _ _).alloc (Nat.le_refl _) _⟩

/-- the world behind two boxes of a state -/
theorem two_below (w : World) (a b : Obj) : Below w.heap.size w ((w.alloc a).alloc b) := ((Below.refl _ _).alloc (Nat.le_refl _) _).alloc (by simp) _

set_option maxRecDepth 20000 in
set_option maxHeartbeats 400000 in
theorem anew_any (p a n x : Nat) (w : World) (hp : p ≤ 18446744073709551615) (hx : x ≤ 18446744073709551615) (hR : TzW w) :
    Calls Tryd.prog 49 #[.agg #[.int .u64 (p : Int), .int .i64 (a : Int), .int .i64 (n : Int)], .int .u64 (x : Int)] w fun e w' => e = .returned (.agg #[.int .u64 ((p ^^^ x : Nat) : Int), .int .i64 ((lzN x : Nat) : Int), .int .i64 (64 - ((lzN x : Nat) : Int) - ((tzN x : Nat) : Int))]) ∧ Below w.heap.size w w' := by
  have hxor := u64_xor_nat p x (by omega) (by omega)
  have hl := lz_le x
  have ht : tzN x ≤ 64 := by
    by_cases h0 : x = 0
    · subst h0; rw [tz_zero]; omega
    · have := (tz_is hx h0).1; omega
  have hcl := fun w => lz64_any x w hx
  have hct := fun w h => tz64_any x w hx h
  generalize p ^^^ x = v at *
  generalize lzN x = l at *
  generalize tzN x = t at *
  have h2 := two_below w (.cells #[.int .u64 (p : Int), .int .i64 (a : Int), .int .i64 (n : Int)] 27) (.cells #[.int .u64 0, .int .i64 0, .int .i64 0] 27)
  have hR2 := (hR.bel h2).drew
  have hwr : IntKind.i64.wrap (IntKind.i64.wrap (64 - (l : Int)) - (t : Int)) = 64 - (l : Int) - (t : Int) := by rw [IntKind.wrap_i64, IntKind.wrap_i64]; omega
  go_enter Tryd.func49, Tryd.ntmps49
  go_wp2_with (go_at_call 58; refine (hcl _).mono ?_; rintro e w1 ⟨rfl, rfl⟩)
  go_region_with (go_at_call 59; refine (hct _ hR2).mono ?_; rintro e w1 ⟨rfl, rfl⟩)
  all_goals
    go_wp2
    go_returns
    exact ⟨rfl, (two_below _ _ _).drew⟩

theorem lz_quiet (x l : Nat) (w : World) (n : Nat) (h : ∀ w, Calls Tryd.prog 58 #[.int .u64 (x : Int)] w fun e w' => e = .returned (.int .i64 (l : Int)) ∧ w = w') :
    Calls Tryd.prog 58 #[.int .u64 (x : Int)] (w.drewN n) fun e w' => e = .returned (.int .i64 (l : Int)) ∧ ∃ m, w' = w.drewN m :=
  (h _).mono fun _ _ ⟨he, hw⟩ => ⟨he, n, hw.symm⟩

set_option maxRecDepth 20000 in
set_option maxHeartbeats 1000000 in
theorem fits_any (p a n x : Nat) (w : World) (han : a + n ≤ 64) (hx : x ≤ 18446744073709551615) (hR : TzW w) :
    Calls Tryd.prog 47 #[.agg #[.int .u64 (p : Int), .int .i64 (a : Int), .int .i64 (n : Int)], .int .u64 (x : Int)] w fun e w' => e = .returned (.bool (decide (fitsX ⟨p, a, n⟩ x))) ∧ Below w.heap.size w w' := by
  have hcl := fun w => lz64_any x w hx
  have hct := fun w h => tz64_any x w hx h
  have hlo := fun w => xlow_any p a n w han
  have h2 : Below w.heap.size w (w.alloc (.cells #[.int .u64 (p : Int), .int .i64 (a : Int), .int .i64 (n : Int)] 27)).drew := ((Below.refl _ _).alloc (Nat.le_refl _) _).drew
  have hR2 := hR.bel h2
  obtain ⟨f, HF⟩ : ∃ f, Hid (decide (fitsX ⟨p, a, n⟩ x) = f) := ⟨_, Lib.hid rfl⟩
  have HF2 : Hid (f = decide (0 < n ∧ a ≤ lzN x ∧ 64 - a - n ≤ tzN x)) := Lib.hid HF.out.symm
  rw [HF.out]
  clear HF
  obtain ⟨k, hk⟩ : ∃ k, 64 - a - n = k := ⟨_, rfl⟩
  rw [hk] at hlo HF2
  clear hk han
  generalize lzN x = l at *
  generalize tzN x = t at *
  by_cases h0 : 0 < n
  · by_cases h1 : a ≤ l
    · have hf : f = decide (k ≤ t) := by rw [HF2.out]; simp [h0, h1]
      subst hf
      clear HF2
      go_enter Tryd.func47, Tryd.ntmps47
      go_wp2_with fail
      have b2 := (Box3.new w (.int .u64 (p : Int)) (.int .i64 (a : Int)) (.int .i64 (n : Int)) 27).drew
      obtain ⟨_, q0, q1, q2, _, _, _⟩ := b2
      have b2 := (Box3.new w (.int .u64 (p : Int)) (.int .i64 (a : Int)) (.int .i64 (n : Int)) 27).drew
      go_region_held3 (fun w' => w'.cell? ⟨w.heap.size, 0, none⟩ = some (.int .u64 (p : Int)) ∧ w'.cell? ⟨w.heap.size, 1, none⟩ = some (.int .i64 (a : Int)) ∧ w'.cell? ⟨w.heap.size, 2, none⟩ = some (.int .i64 (n : Int))) (first | exact ⟨q0, q1, q2⟩ | go_keep) (first
        | (go_at_call 58; refine (hcl _).mono ?_; rintro e w1 ⟨rfl, rfl⟩)
        | (go_at_call 59; refine (hct _ hR2).mono ?_; rintro e w1 ⟨rfl, rfl⟩)
        | (go_at_call 60; refine (hlo _).mono ?_; rintro e w1 ⟨rfl, hb1⟩; clear q0 q1 q2; obtain ⟨_, q0, q1, q2, _, _, _⟩ := b2.below hb1))
      all_goals
        go_wp2
        go_ret
        exact ⟨rfl, h2.trans (hb1.mono h2.size)⟩
    · have hf : f = false := by rw [HF2.out]; simp [h1]
      subst hf
      clear HF2
      go_enter Tryd.func47, Tryd.ntmps47
      go_wp2_with fail
      go_quiet ((go_at_call 58; exact lz_quiet _ _ _ _ hcl))
      go_wp2
      go_ret
      exact ⟨rfl, below_drewN ((Below.refl _ _).alloc (Nat.le_refl _) _) _⟩
  · have hf : f = false := by rw [HF2.out]; simp [h0]
    subst hf
    clear HF2
    go_enter Tryd.func47, Tryd.ntmps47
    go_wp2_with fail
    go_quiet (fail)
    go_wp2
    go_ret
    exact ⟨rfl, below_drewN ((Below.refl _ _).alloc (Nat.le_refl _) _) _⟩

end Go.Proofs.YtcnhoohcdkfgkaaDoor

/-
  The contracts of layer 7's takeWindow, putWindow.
-/
namespace Go.Proofs.YtcnhoohcdkfgkaaDoor
open Go.RowKit

set_option maxRecDepth 20000 in
set_option maxHeartbeats 400000 in
theorem takewin_any (A : Option Addr) (m c B : Nat) (bs : List Nat) (at_ p a n : Nat) (w : World) (h : Rd w B A m c bs) (hB : B ≤ w.heap.size) (hb : ∀ x ∈ bs, x < 256) (hm : m ≤ 100000) (ha : at_ ≤ 1000000) (han : a + n ≤ 64) :
    Calls Tryd.prog 64 #[.slice A m c, .int .i64 (at_ : Int), .agg #[.int .u64 (p : Int), .int .i64 (a : Int), .int .i64 (n : Int)]] w
      fun e w' => e = .returned (.tuple #[.int .u64 ((takeN bs at_ n * 2 ^ (64 - a - n) : Nat) : Int), .bool (takeB bs at_ n)]) ∧ Below w.heap.size w w' := by
  have hlo := fun w => xlow_any p a n w han
  obtain ⟨k, hk⟩ : ∃ k, 64 - a - n = k := ⟨_, rfl⟩
  have hy : takeN bs at_ n * 2 ^ k ≤ 18446744073709551615 := by
    have h1 : takeN bs at_ n < 2 ^ n := by
      unfold takeN
      split
      · exact num_cut_lt _ _ _
      · exact Nat.pow_pos (by omega)
    rw [← hk]
    exact (word_in han h1).2.1
  rw [hk] at hlo ⊢
  have hT : ∀ w : World, Rd w B A m c bs → Calls Tryd.prog 53 #[.slice A m c, .int .i64 (at_ : Int), .int .i64 (n : Int)] w fun e w' => e = .returned (.tuple #[.int .u64 ((takeN bs at_ n : Nat) : Int), .bool (takeB bs at_ n)]) ∧ w = w' :=
    fun w h => take_all A m c B bs at_ n w h hb hm (by omega) (by omega)
  generalize takeN bs at_ n = y at *
  generalize takeB bs at_ n = f at *
  go_enter Tryd.func64, Tryd.ntmps64
  go_wp2_with fail
  have hb1 : Below w.heap.size w (w.alloc (.cells #[.int .u64 (p : Int), .int .i64 (a : Int), .int .i64 (n : Int)] 27)) := (Below.refl _ _).alloc (Nat.le_refl _) _
  refine (hT _ (h.below (hb1.mono hB))).mono ?_
  rintro e w1 ⟨rfl, rfl⟩
  go_wp2_with fail
  refine (hlo _).mono ?_
  rintro e w2 ⟨rfl, hb2⟩
  have hw : IntKind.u64.wrap ((y : Int) * 2 ^ k) = ((y * 2 ^ k : Nat) : Int) := by
    rw [← wrap_u64 _ hy]; simp
  go_wp2
  go_ret2
  exact ⟨rfl, hb1.trans (hb2.mono hb1.size)⟩

set_option maxRecDepth 20000 in
set_option maxHeartbeats 1000000 in
theorem putwin_any (A : Option Addr) (m c : Nat) (P Q : List Bool) (p a n x M : Nat) (Lz : Int) (w : World) (h : Rd w w.heap.size A m c (pack P)) (hL : Lz = ((P.length : Nat) : Int)) (hP : P.length ≤ 1000000) (han : a + n ≤ 64)
    (hQ : Q = P ++ low (x / 2 ^ (64 - a - n)) n) (hM : Q.length = M) :
    Calls Tryd.prog 48 #[.agg #[.slice A m c, .int .i64 Lz], .agg #[.int .u64 (p : Int), .int .i64 (a : Int), .int .i64 (n : Int)], .int .u64 (x : Int)] w
      fun e w' => ∃ A c, e = .returned (.agg #[.slice A (pack Q).length c, .int .i64 (M : Int)]) ∧ Own w w' (.slice A (pack Q).length c) (pack Q) := by
  have hlo := fun w => xlow_any p a n w han
  obtain ⟨k, hk⟩ : ∃ k, 64 - a - n = k := ⟨_, rfl⟩
  rw [hk] at hlo hQ
  have HD : Hid ((x : Int) / 2 ^ k = ((x / 2 ^ k : Nat) : Int)) := Lib.hid (by simp)
  have hk64 : min k 64 = k := by omega
  have HL := Lib.hid hL
  have HQ := Lib.hid hQ
  have HM := Lib.hid hM
  clear hL hQ hM hk
  have b3 := ((BoxAt.new w (.slice A m c) (.int .i64 Lz) 34).onA (.cells #[.int .u64 (p : Int), .int .i64 (a : Int), .int .i64 (n : Int)] 27)).onA (.cells #[.slice none 0 0, .int .i64 0] 34)
  have b4 := (Box3.new (w.alloc (.cells #[.slice A m c, .int .i64 Lz] 34)) (.int .u64 (p : Int)) (.int .i64 (a : Int)) (.int .i64 (n : Int)) 27).onA (.cells #[.slice none 0 0, .int .i64 0] 34)
  have b6 := BoxAt.new ((w.alloc (.cells #[.slice A m c, .int .i64 Lz] 34)).alloc (.cells #[.int .u64 (p : Int), .int .i64 (a : Int), .int .i64 (n : Int)] 27)) (.slice none 0 0) (.int .i64 0) 34
  have hw0 := ((two_below w (.cells #[.slice A m c, .int .i64 Lz] 34) (.cells #[.int .u64 (p : Int), .int .i64 (a : Int), .int .i64 (n : Int)] 27)).alloc (by simp; omega) (.cells #[.slice none 0 0, .int .i64 0] 34))
  simp only [World.size_alloc] at b4 b6
  go_enter Tryd.func48, Tryd.ntmps48
  go_wp2_with fail
  generalize ((w.alloc (.cells #[.slice A m c, .int .i64 Lz] 34)).alloc (.cells #[.int .u64 (p : Int), .int .i64 (a : Int), .int .i64 (n : Int)] 27)).alloc (.cells #[.slice none 0 0, .int .i64 0] 34) = W at *
  have hr0 := (h.below hw0).more hw0.size
  have hne1 : w.heap.size ≠ w.heap.size + 1 + 1 := by omega
  have hne2 : w.heap.size + 1 ≠ w.heap.size + 1 + 1 := by omega
  have b3' := b3.drew
  have b4' := b4.drew
  have b6' := b6.drew
  obtain ⟨_, p0, p1, _, _⟩ := b3.drew
  obtain ⟨_, q0, q1, q2, _, _, _⟩ := b4.drew
  go_region_held3 (fun w' => w'.cell? ⟨w.heap.size, 0, none⟩ = some (.slice A m c) ∧ w'.cell? ⟨w.heap.size, 1, none⟩ = some (.int .i64 Lz) ∧ w'.cell? ⟨w.heap.size + 1, 0, none⟩ = some (.int .u64 (p : Int)) ∧ w'.cell? ⟨w.heap.size + 1, 1, none⟩ = some (.int .i64 (a : Int)) ∧ w'.cell? ⟨w.heap.size + 1, 2, none⟩ = some (.int .i64 (n : Int))) (first | exact ⟨p0, p1, q0, q1, q2⟩ | exact ⟨(b3x.other hne1 _ _).c0, (b3x.other hne1 _ _).c1, ((b4x.other hne2 0 _).other hne2 1 _).c0, ((b4x.other hne2 0 _).other hne2 1 _).c1, ((b4x.other hne2 0 _).other hne2 1 _).c2⟩ | go_keep) (first
    | (go_at_call 60; (with_reducible refine (hlo _).mono ?_); rintro e w1 ⟨rfl, hb1⟩; have hw1 := hw0.drew.trans (hb1.mono hw0.drew.size); have hr1 := (h.below hw1).more hw1.size; clear p0 p1 q0 q1 q2; replace b3' := b3'.below hb1; replace b4' := b4'.below hb1; replace b6' := b6'.below hb1; have b3t := b3'; have b4t := b4'; obtain ⟨_, p0, p1, _, _⟩ := b3t; obtain ⟨_, q0, q1, q2, _, _, _⟩ := b4t)
    | (go_at_call 46; (with_reducible refine (put_as A m c P Q (x / 2 ^ k) n _ _ Lz M _ hr1 HL.out HD.out rfl HQ.out HM.out hP (by omega)).mono ?_); rintro e w2 ⟨A2, c2, rfl, hown⟩; clear p0 p1 q0 q1 q2; have b3x := b3'.below hown.bel; have b4x := b4'.below hown.bel; have b3t := b3x; have b4t := b4x; obtain ⟨_, p0, p1, _, _⟩ := b3t; obtain ⟨_, q0, q1, q2, _, _, _⟩ := b4t; obtain ⟨ylt, yc0, yc1, yf0, yf1⟩ := b6'.below hown.bel))
  all_goals
    have hs1 : w.heap.size ≤ w.heap.size + 1 + 1 := by omega
    have hs2 : w.heap.size + 1 + 1 < w1.heap.size := b6'.lt
    have h4 := hown.past2 hw1 (p := ⟨w.heap.size + 1 + 1, 0, none⟩) (q := ⟨w.heap.size + 1 + 1, 1, none⟩) hs1 hs2 hs1 hs2 (.slice A2 (pack Q).length c2) (.int .i64 (M : Int))
    have hy := (BoxAt.mk ylt yc0 yc1 yf0 yf1).set (.slice A2 (pack Q).length c2) (.int .i64 (M : Int))
    clear p0 p1 q0 q1 q2
    go_wp2
    have e0 := hy.c0
    have e1 := hy.c1
    refine bodyPost_ret (v := .agg #[.slice A2 (pack Q).length c2, .int .i64 (M : Int)]) ?_ rfl ⟨A2, c2, rfl, h4⟩
    simp [results, Tryd.results48, go_sem, e0, e1]

end Go.Proofs.YtcnhoohcdkfgkaaDoor
