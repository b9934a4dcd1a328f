/-
  Texts of this proof, one behind the other: XorOld, XorNew, XorAll.
-/
import Derived.Test.YtaebljoacffghaaGreatDoorXors

/-
  Layer 7's Code, where all bits that are others are in the window.
-/
namespace Go.Proofs.YtaebljoacffghaaGreatDoor
open Go.RowKit

set_option maxRecDepth 20000 in
set_option maxHeartbeats 1000000 in
theorem xcode_old (p a n v x : Nat) (w : World) (hp : p ≤ 18446744073709551615) (hv : v ≤ 18446744073709551615) (han : a + n ≤ 64) (hxe : p ^^^ v = x) (h0 : x ≠ 0) (hf : fitsX ⟨p, a, n⟩ x) (hR : TzW w) :
    Calls Tryz.prog 115 #[.agg #[.int .u64 (p : Int), .int .i64 (a : Int), .int .i64 (n : Int)], .int .u64 (v : Int)] w (RetX w (oldX ⟨p, a, n⟩ x) v a n) := by
  have hx : x ≤ 18446744073709551615 := by rw [← hxe]; exact xor_lt hp hv
  have hxor := u64_xor_nat p v (by omega) (by omega)
  rw [hxe] at hxor
  obtain ⟨H, HH⟩ : ∃ H, Hid (H = [] ++ low 2 2) := ⟨_, Lib.hid rfl⟩
  have HHL : Hid (H.length = 2) := Lib.hid (by rw [HH.out]; rfl)
  obtain ⟨Q, HQ⟩ : ∃ Q, Hid (Q = H ++ low (x / 2 ^ (64 - a - n)) n) := ⟨_, Lib.hid rfl⟩
  obtain ⟨M, HM⟩ : ∃ M, Hid (Q.length = M) := ⟨_, Lib.hid rfl⟩
  have e : oldX ⟨p, a, n⟩ x = Q := by
    unfold oldX
    rw [HQ.out, HH.out, cut_low _ _ _ han]
    rfl
  rw [e]
  have hd : ((x : Int) == 0) = false := by simp; omega
  have hB := CodeB.new w p a n
  unfold codeW at hB
  clear hxe e
  go_enter Tryz.func115, Tryz.ntmps115
  go_upto_region 4 with fail
  generalize ((w.alloc (.cells #[.int .u64 (p : Int), .int .i64 (a : Int), .int .i64 (n : Int)] 149)).alloc (.cells #[.slice none 0 0, .int .i64 0] 148)).alloc (.cells #[.int .u64 0, .int .i64 0, .int .i64 0] 149) = W at *
  have hfc := (fits_any p a n x W han hx (hR.bel hB.bel))
  rw [decide_eq_true hf] at hfc
  obtain ⟨_, q0, q1, q2, _, _, _⟩ := hB.b2
  go_wp2_with fail
  refine hfc.mono ?_
  rintro e w1 ⟨rfl, hb1⟩
  replace hB := hB.below hb1
  clear hfc q0 q1 q2 hb1 hxor hd
  obtain ⟨_, q0, q1, q2, f0, f1, f2⟩ := hB.b2
  go_upto_region 6 with fail
  replace hB := hB.setp v
  clear q0 q1 q2 f0 f1 f2
  generalize w1.setCell ⟨w.heap.size, 0, none⟩ (.int .u64 (v : Int)) = W2 at *
  have hB' := hB.drew
  have HPut := fun (X : World) => put_as none 0 0 [] H 2 2 2 2 0 2 X (Rd.nil_ (w := X) (B := X.heap.size)) rfl rfl rfl HH.out HHL.out (by simp) (by omega)
  have HWin := fun (A1 : Option Addr) (c1 : Nat) (X : World) (h : Rd X X.heap.size A1 (pack H).length c1 (pack H)) => putwin_any A1 _ c1 H Q v a n x M 2 X h (by rw [HHL.out]; rfl) (by rw [HHL.out]; omega) han HQ.out HM.out
  obtain ⟨_, q0, q1, q2, _, _, _⟩ := hB.drew.b2
  go_region_with (first
    | (go_at_call 125; (with_reducible refine (HPut _).mono ?_); rintro e w3 ⟨A1, c1, rfl, hown1⟩; replace hB' := hB'.below hown1.bel; clear q0 q1 q2; obtain ⟨_, q0, q1, q2, _, _, _⟩ := hB'.b2)
    | (go_at_call 127; (with_reducible refine (HWin _ _ _ hown1.rd).mono ?_); rintro e w4 ⟨A2, c2, rfl, hown⟩; have hb3 := hB'.bel; have hlt := hB'.b5.lt; replace hB' := hB'.below hown.bel; clear q0 q1 q2; obtain ⟨_, q0, q1, q2, _, _, _⟩ := hB'.b2; obtain ⟨_, y0, y1, yf0, yf1⟩ := hB'.b4; obtain ⟨_, z0, z1, z2, zf0, zf1, zf2⟩ := hB'.b5))
  all_goals
    have hF1 := Two23.one hB'.b4 hB'.b5 (by omega) (.slice A2 (pack Q).length c2) (.int .i64 (M : Int)) (.int .u64 (v : Int)) (.int .i64 (a : Int)) (.int .i64 (n : Int))
    have hF2 := Two23.two hB'.b4 hB'.b5 (by omega) (.slice A2 (pack Q).length c2) (.int .i64 (M : Int)) (.int .u64 (v : Int)) (.int .i64 (a : Int)) (.int .i64 (n : Int))
    clear q0 q1 q2 HPut hB' HWin
    go_wp2_with fail
    refine bodyPost_ret (v := .tuple #[.agg #[.slice A2 (pack Q).length c2, .int .i64 (M : Int)], .agg #[.int .u64 (v : Int), .int .i64 (a : Int), .int .i64 (n : Int)]]) ?_ rfl (RetX.mk HM.out rfl ?_)
    · first
        | simp [results, Tryz.results115, go_sem, hF1.e0, hF1.e1, hF1.g0, hF1.g1, hF1.g2]
        | simp [results, Tryz.results115, go_sem, hF2.e0, hF2.e1, hF2.g0, hF2.g1, hF2.g2]
    · have hmid := Mid.of hown hb3
      refine Mid.own (B := w3.heap.size) ?_
      repeat' (with_reducible first | exact hmid | refine Mid.set ?_ _ _ (by dsimp only; omega) (by dsimp only; omega))

end Go.Proofs.YtaebljoacffghaaGreatDoor

/-
  Layer 7's Code, where a new window is told.
-/
namespace Go.Proofs.YtaebljoacffghaaGreatDoor
open Go.RowKit

set_option maxRecDepth 20000 in
set_option maxHeartbeats 1000000 in
theorem xcode_new (p a n v x : Nat) (w : World) (hp : p ≤ 18446744073709551615) (hv : v ≤ 18446744073709551615) (han : a + n ≤ 64) (hxe : p ^^^ v = x) (h0 : x ≠ 0) (hf : ¬ fitsX ⟨p, a, n⟩ x) (hR : TzW w) :
    Calls Tryz.prog 115 #[.agg #[.int .u64 (p : Int), .int .i64 (a : Int), .int .i64 (n : Int)], .int .u64 (v : Int)] w (RetX w (newX x) v (lzN x) (szN x)) := by
  have hx : x ≤ 18446744073709551615 := by rw [← hxe]; exact xor_lt hp hv
  have hxor := u64_xor_nat p v (by omega) (by omega)
  rw [hxe] at hxor
  have hxb : p ^^^ x = v := by rw [← hxe]; exact xor_back p v
  obtain ⟨hs1, hs2, hs3⟩ := sz_pos hx h0
  have hl := lz_lt h0
  obtain ⟨H, HH⟩ : ∃ H, Hid (H = [] ++ low 3 2) := ⟨_, Lib.hid rfl⟩
  have HHL : Hid (H.length = 2) := Lib.hid (by rw [HH.out]; rfl)
  obtain ⟨H2, HH2⟩ : ∃ H2, Hid (H2 = H ++ low (lzN x) 6) := ⟨_, Lib.hid rfl⟩
  have HHL2 : Hid (H2.length = 8) := Lib.hid (by rw [HH2.out, List.length_append, low_length, HHL.out])
  obtain ⟨H3, HH3⟩ : ∃ H3, Hid (H3 = H2 ++ low (szN x - 1) 6) := ⟨_, Lib.hid rfl⟩
  have HHL3 : Hid (H3.length = 14) := Lib.hid (by rw [HH3.out, List.length_append, low_length, HHL2.out])
  obtain ⟨Q, HQ⟩ : ∃ Q, Hid (Q = H3 ++ low (x / 2 ^ (64 - lzN x - szN x)) (szN x)) := ⟨_, Lib.hid rfl⟩
  obtain ⟨M, HM⟩ : ∃ M, Hid (Q.length = M) := ⟨_, Lib.hid rfl⟩
  have e : newX x = Q := by
    unfold newX
    rw [HQ.out, HH3.out, HH2.out, HH.out, cut_low _ _ _ hs2]
    rfl
  rw [e]
  have hd : ((x : Int) == 0) = false := by simp; omega
  have hB := CodeB.new w p a n
  unfold codeW at hB
  have hfc := fun X h => fits_any p a n x X han hx h
  rw [decide_eq_false hf] at hfc
  have hnc := fun X h => anew_any p a n x X hp hx h
  have e2 : 64 - ((lzN x : Nat) : Int) - ((tzN x : Nat) : Int) = ((szN x : Nat) : Int) := by omega
  rw [hxb, e2] at hnc
  generalize lzN x = l at *
  generalize szN x = k at *
  clear hxe e e2 hxb hs3
  go_enter Tryz.func115, Tryz.ntmps115
  go_upto_region 4 with fail
  generalize ((w.alloc (.cells #[.int .u64 (p : Int), .int .i64 (a : Int), .int .i64 (n : Int)] 149)).alloc (.cells #[.slice none 0 0, .int .i64 0] 148)).alloc (.cells #[.int .u64 0, .int .i64 0, .int .i64 0] 149) = W at *
  obtain ⟨_, q0, q1, q2, _, _, _⟩ := hB.b2
  go_wp2_with fail
  refine (hfc W (hR.bel hB.bel)).mono ?_
  rintro e w1 ⟨rfl, hb1⟩
  replace hB := hB.below hb1
  clear hfc q0 q1 q2 hb1 hxor hd
  obtain ⟨_, q0, q1, q2, _, _, _⟩ := hB.b2
  go_wp2_with fail
  refine (hnc w1 (hR.bel hB.bel)).mono ?_
  rintro e w2 ⟨rfl, hb2⟩
  replace hB := hB.below hb2
  clear hnc q0 q1 q2 hb2
  go_upto_region 8 with fail
  have b7 := Box3.new w2 (.int .u64 (v : Int)) (.int .i64 (l : Int)) (.int .i64 (k : Int)) 149
  have hg7 := hB.b5.lt
  replace hB := hB.below ((Below.refl _ _).alloc (Nat.le_refl _) (.cells #[.int .u64 (v : Int), .int .i64 (l : Int), .int .i64 (k : Int)] 149))
  generalize w2.alloc (.cells #[.int .u64 (v : Int), .int .i64 (l : Int), .int .i64 (k : Int)] 149) = W3 at *
  generalize w2.heap.size = g7 at *
  go_wp2_with fail
  refine (put_as none 0 0 [] H 3 2 3 2 0 2 W3 (Rd.nil_ (w := W3) (B := W3.heap.size)) rfl rfl rfl HH.out HHL.out (by simp) (by omega)).mono ?_
  rintro e w4 ⟨A1, c1, rfl, hown⟩
  go_upto_region 9 with fail
  replace hB := (hB.below hown.bel).below ((Below.refl _ _).alloc (Nat.le_refl _) (.cells #[.slice A1 (pack H).length c1, .int .i64 2] 148))
  replace b7 := b7.below hown.bel
  have hg8 := b7.lt
  replace b7 := b7.onA (.cells #[.slice A1 (pack H).length c1, .int .i64 2] 148)
  have b8 := BoxAt.new w4 (.slice A1 (pack H).length c1) (.int .i64 2) 148
  have hr := (hown.alloc (.cells #[.slice A1 (pack H).length c1, .int .i64 2] 148)).rd
  clear hown
  generalize w4.alloc (.cells #[.slice A1 (pack H).length c1, .int .i64 2] 148) = W5 at *
  generalize w4.heap.size = g8 at *
  have hg8w : w.heap.size ≤ g8 := by omega
  have hgn : g7 ≠ g8 := by omega
  have hgb : w.heap.size + 1 + 1 < g8 := by omega
  have HP2 := fun (A1 : Option Addr) (c1 : Nat) (X : World) (h : Rd X X.heap.size A1 (pack H).length c1 (pack H)) => put_as A1 _ c1 H H2 l 6 l 6 2 8 X h (by rw [HHL.out]; rfl) rfl rfl HH2.out HHL2.out (by rw [HHL.out]; omega) (by omega)
  have b7t := b7
  obtain ⟨_, r0, r1, r2, _, _, _⟩ := b7t
  have b8t := b8
  obtain ⟨_, y0, y1, yf0, yf1⟩ := b8t
  go_wp2_with fail
  refine (HP2 _ _ _ hr).mono ?_
  rintro e w6 ⟨A2, c2, rfl, hown⟩
  have hlt8 := b8.lt
  have hb5 := hB.bel
  replace hB := hB.below hown.bel
  replace b7 := b7.below hown.bel
  replace b8 := b8.below hown.bel
  clear r0 r1 r2 y0 y1 yf0 yf1 hr HP2
  have b8t := b8
  obtain ⟨_, y0, y1, yf0, yf1⟩ := b8t
  go_upto_region 10 with fail
  replace hown := hown.past2 hb5 (p := ⟨g8, 0, none⟩) (q := ⟨g8, 1, none⟩) hg8w hlt8 hg8w hlt8 (.slice A2 (pack H2).length c2) (.int .i64 8)
  replace hB := (hB.oth hgb 0 (.slice A2 (pack H2).length c2)).oth hgb 1 (.int .i64 8)
  replace b7 := (b7.other hgn 0 (.slice A2 (pack H2).length c2)).other hgn 1 (.int .i64 8)
  replace b8 := b8.set (.slice A2 (pack H2).length c2) (.int .i64 8)
  clear y0 y1 yf0 yf1 hb5 hlt8
  generalize (w6.setCell ⟨g8, 0, none⟩ (.slice A2 (pack H2).length c2)).setCell ⟨g8, 1, none⟩ (.int .i64 8) = W7 at *
  have hr := hown.rd
  clear hown
  have hk1 : IntKind.i64.wrap ((k : Int) - 1) = ((k - 1 : Nat) : Int) := by rw [IntKind.wrap_i64]; omega
  have HP3 := fun (A1 : Option Addr) (c1 : Nat) (X : World) (h : Rd X X.heap.size A1 (pack H2).length c1 (pack H2)) => put_as A1 _ c1 H2 H3 (k - 1) 6 ((k - 1 : Nat) : Int) 6 8 14 X h (by rw [HHL2.out]; rfl) rfl rfl HH3.out HHL3.out (by rw [HHL2.out]; omega) (by omega)
  have b7t := b7
  obtain ⟨_, r0, r1, r2, _, _, _⟩ := b7t
  have b8t := b8
  obtain ⟨_, y0, y1, yf0, yf1⟩ := b8t
  go_wp2_with fail
  refine (HP3 _ _ _ hr).mono ?_
  rintro e w8 ⟨A3, c3, rfl, hown⟩
  have hlt8 := b8.lt
  have hb5 := hB.bel
  replace hB := hB.below hown.bel
  replace b7 := b7.below hown.bel
  replace b8 := b8.below hown.bel
  clear r0 r1 r2 y0 y1 yf0 yf1 hr HP3 hk1
  have b8t := b8
  obtain ⟨_, y0, y1, yf0, yf1⟩ := b8t
  go_upto_region 11 with fail
  replace hown := hown.past2 hb5 (p := ⟨g8, 0, none⟩) (q := ⟨g8, 1, none⟩) hg8w hlt8 hg8w hlt8 (.slice A3 (pack H3).length c3) (.int .i64 14)
  replace hB := (hB.oth hgb 0 (.slice A3 (pack H3).length c3)).oth hgb 1 (.int .i64 14)
  replace b7 := (b7.other hgn 0 (.slice A3 (pack H3).length c3)).other hgn 1 (.int .i64 14)
  replace b8 := b8.set (.slice A3 (pack H3).length c3) (.int .i64 14)
  clear y0 y1 yf0 yf1 hb5 hlt8
  generalize (w8.setCell ⟨g8, 0, none⟩ (.slice A3 (pack H3).length c3)).setCell ⟨g8, 1, none⟩ (.int .i64 14) = W9 at *
  have hr := hown.rd.drew
  clear hown
  have hB' := hB.drew
  have b7' := b7.drew
  have HWin := fun (A1 : Option Addr) (c1 : Nat) (X : World) (h : Rd X X.heap.size A1 (pack H3).length c1 (pack H3)) => putwin_any A1 _ c1 H3 Q v l k x M 14 X h (by rw [HHL3.out]; rfl) (by rw [HHL3.out]; omega) hs2 HQ.out HM.out
  obtain ⟨_, r0, r1, r2, _, _, _⟩ := b7.drew
  obtain ⟨_, y0, y1, yf0, yf1⟩ := b8.drew
  go_region_with (first
    | (go_at_call 127; (with_reducible refine (HWin _ _ _ hr).mono ?_); rintro e w4 ⟨A2, c2, rfl, hown⟩; replace b7' := b7'.below hown.bel; have hlt := hB'.b5.lt; replace hB' := hB'.below hown.bel; clear r0 r1 r2 y0 y1 yf0 yf1; obtain ⟨_, r0, r1, r2, _, _, _⟩ := b7'; obtain ⟨_, y0, y1, yf0, yf1⟩ := hB'.b4; obtain ⟨_, z0, z1, z2, zf0, zf1, zf2⟩ := hB'.b5))
  all_goals
    have hF1 := Two23.one hB'.b4 hB'.b5 (by omega) (.slice A2 (pack Q).length c2) (.int .i64 (M : Int)) (.int .u64 (v : Int)) (.int .i64 (l : Int)) (.int .i64 (k : Int))
    have hF2 := Two23.two hB'.b4 hB'.b5 (by omega) (.slice A2 (pack Q).length c2) (.int .i64 (M : Int)) (.int .u64 (v : Int)) (.int .i64 (l : Int)) (.int .i64 (k : Int))
    clear r0 r1 r2 hB' HWin
    go_wp2_with fail
    refine bodyPost_ret (v := .tuple #[.agg #[.slice A2 (pack Q).length c2, .int .i64 (M : Int)], .agg #[.int .u64 (v : Int), .int .i64 (l : Int), .int .i64 (k : Int)]]) ?_ rfl (RetX.mk HM.out rfl ?_)
    · first
        | simp [results, Tryz.results115, go_sem, hF1.e0, hF1.e1, hF1.g0, hF1.g1, hF1.g2]
        | simp [results, Tryz.results115, go_sem, hF2.e0, hF2.e1, hF2.g0, hF2.g1, hF2.g2]
    · have hmid := Mid.of hown hB.bel.drew
      refine Mid.own (B := W9.drew.heap.size) ?_
      repeat' (with_reducible first | exact hmid | refine Mid.set ?_ _ _ (by dsimp only; omega) (by dsimp only; omega))

end Go.Proofs.YtaebljoacffghaaGreatDoor

/-
  The contract of layer 7's Code, in any state that may be.
-/
namespace Go.Proofs.YtaebljoacffghaaGreatDoor
open Go.RowKit

theorem xcode_any (p a n v : Nat) (w : World) (hs : XS.May ⟨p, a, n⟩) (hv : v ≤ 18446744073709551615) (hR : TzW w) :
    Calls Tryz.prog 115 #[.agg #[.int .u64 (p : Int), .int .i64 (a : Int), .int .i64 (n : Int)], .int .u64 (v : Int)] w (RetX w (codeX ⟨p, a, n⟩ v) v (nextX ⟨p, a, n⟩ v).lead (nextX ⟨p, a, n⟩ v).len) := by
  have hp : p ≤ 18446744073709551615 := hs.p
  have han : a + n ≤ 64 := hs.b
  unfold codeX nextX nextOf codeOf
  simp only
  by_cases h0 : p ^^^ v = 0
  · rw [if_pos h0, if_pos (.inl h0)]
    have e := xor_zero_eq h0
    have := xcode_same p a n v w hp hv h0
    rw [e] at this ⊢
    exact this
  · rw [if_neg h0]
    by_cases hf : fitsX ⟨p, a, n⟩ (p ^^^ v)
    · rw [if_pos hf, if_pos (.inr hf)]
      exact xcode_old p a n v _ w hp hv han rfl h0 hf hR
    · rw [if_neg hf, if_neg (by simp [h0, hf])]
      exact xcode_new p a n v _ w hp hv han rfl h0 hf hR

end Go.Proofs.YtaebljoacffghaaGreatDoor
