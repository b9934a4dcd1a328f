/-
  Layer 7's Code, where all bits that are others are in the window.
-/
import Derived.Test.YtkndoalnlldolaaDoorXors
namespace Go.Proofs.YtkndoalnlldolaaDoor
open Go.RowKit

set_option maxRecDepth 20000 in
set_option maxHeartbeats 1000000 in
theorem xcode_old (p a n v x : Nat) (w : World) (hp : p ≤ 18446744073709551615) (hv : v ≤ 18446744073709551615) (han : a + n ≤ 64) (hxe : p ^^^ v = x) (h0 : x ≠ 0) (hf : fitsX ⟨p, a, n⟩ x) (hR : TzW w) :
    Calls Tryd.prog 49 #[.agg #[.int .u64 (p : Int), .int .i64 (a : Int), .int .i64 (n : Int)], .int .u64 (v : Int)] w (RetX w (oldX ⟨p, a, n⟩ x) v a n) := by
  have hx : x ≤ 18446744073709551615 := by rw [← hxe]; exact xor_lt hp hv
  have hxor := u64_xor_nat p v (by omega) (by omega)
  rw [hxe] at hxor
  obtain ⟨H, HH⟩ : ∃ H, Hid (H = [] ++ low 2 2) := ⟨_, Lib.hid rfl⟩
  have HHL : Hid (H.length = 2) := Lib.hid (by rw [HH.out]; rfl)
  obtain ⟨Q, HQ⟩ : ∃ Q, Hid (Q = H ++ low (x / 2 ^ (64 - a - n)) n) := ⟨_, Lib.hid rfl⟩
  obtain ⟨M, HM⟩ : ∃ M, Hid (Q.length = M) := ⟨_, Lib.hid rfl⟩
  have e : oldX ⟨p, a, n⟩ x = Q := by
    unfold oldX
    rw [HQ.out, HH.out, cut_low _ _ _ han]
    rfl
  rw [e]
  have hd : ((x : Int) == 0) = false := by simp; omega
  have hB := CodeB.new w p a n
  unfold codeW at hB
  clear hxe e
  go_enter Tryd.func49, Tryd.ntmps49
  go_upto_region 4 with fail
  generalize ((w.alloc (.cells #[.int .u64 (p : Int), .int .i64 (a : Int), .int .i64 (n : Int)] 71)).alloc (.cells #[.slice none 0 0, .int .i64 0] 70)).alloc (.cells #[.int .u64 0, .int .i64 0, .int .i64 0] 71) = W at *
  have hfc := (fits_any p a n x W han hx (hR.bel hB.bel))
  rw [decide_eq_true hf] at hfc
  obtain ⟨_, q0, q1, q2, _, _, _⟩ := hB.b2
  go_wp2_with fail
  refine hfc.mono ?_
  rintro e w1 ⟨rfl, hb1⟩
  replace hB := hB.below hb1
  clear hfc q0 q1 q2 hb1 hxor hd
  obtain ⟨_, q0, q1, q2, f0, f1, f2⟩ := hB.b2
  go_upto_region 6 with fail
  replace hB := hB.setp v
  clear q0 q1 q2 f0 f1 f2
  generalize w1.setCell ⟨w.heap.size, 0, none⟩ (.int .u64 (v : Int)) = W2 at *
  have hB' := hB.drew
  have HPut := fun (X : World) => put_as none 0 0 [] H 2 2 2 2 0 2 X (Rd.nil_ (w := X) (B := X.heap.size)) rfl rfl rfl HH.out HHL.out (by simp) (by omega)
  have HWin := fun (A1 : Option Addr) (c1 : Nat) (X : World) (h : Rd X X.heap.size A1 (pack H).length c1 (pack H)) => putwin_any A1 _ c1 H Q v a n x M 2 X h (by rw [HHL.out]; rfl) (by rw [HHL.out]; omega) han HQ.out HM.out
  obtain ⟨_, q0, q1, q2, _, _, _⟩ := hB.drew.b2
  go_region_with (first
    | (go_at_call 53; (with_reducible refine (HPut _).mono ?_); rintro e w3 ⟨A1, c1, rfl, hown1⟩; replace hB' := hB'.below hown1.bel; clear q0 q1 q2; obtain ⟨_, q0, q1, q2, _, _, _⟩ := hB'.b2)
    | (go_at_call 55; (with_reducible refine (HWin _ _ _ hown1.rd).mono ?_); rintro e w4 ⟨A2, c2, rfl, hown⟩; have hb3 := hB'.bel; have hlt := hB'.b5.lt; replace hB' := hB'.below hown.bel; clear q0 q1 q2; obtain ⟨_, q0, q1, q2, _, _, _⟩ := hB'.b2; obtain ⟨_, y0, y1, yf0, yf1⟩ := hB'.b4; obtain ⟨_, z0, z1, z2, zf0, zf1, zf2⟩ := hB'.b5))
  all_goals
    have hF1 := Two23.one hB'.b4 hB'.b5 (by omega) (.slice A2 (pack Q).length c2) (.int .i64 (M : Int)) (.int .u64 (v : Int)) (.int .i64 (a : Int)) (.int .i64 (n : Int))
    have hF2 := Two23.two hB'.b4 hB'.b5 (by omega) (.slice A2 (pack Q).length c2) (.int .i64 (M : Int)) (.int .u64 (v : Int)) (.int .i64 (a : Int)) (.int .i64 (n : Int))
    clear q0 q1 q2 HPut hB' HWin
    go_wp2_with fail
    refine bodyPost_ret (v := .tuple #[.agg #[.slice A2 (pack Q).length c2, .int .i64 (M : Int)], .agg #[.int .u64 (v : Int), .int .i64 (a : Int), .int .i64 (n : Int)]]) ?_ rfl (RetX.mk HM.out rfl ?_)
    · first
        | simp [results, Tryd.results49, go_sem, hF1.e0, hF1.e1, hF1.g0, hF1.g1, hF1.g2]
        | simp [results, Tryd.results49, go_sem, hF2.e0, hF2.e1, hF2.g0, hF2.g1, hF2.g2]
    · have hmid := Mid.of hown hb3
      refine Mid.own (B := w3.heap.size) ?_
      repeat' (with_reducible first | exact hmid | refine Mid.set ?_ _ _ (by dsimp only; omega) (by dsimp only; omega))

end Go.Proofs.YtkndoalnlldolaaDoor
