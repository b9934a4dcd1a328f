/-
  The contract of layer 7's putWindow.
-/
import Derived.Test.YtldodfdbaonmkaaDoorXorFits
import Derived.Deep.RegionHeld3
namespace Go.Proofs.YtldodfdbaonmkaaDoor
open Go.RowKit

set_option maxRecDepth 20000 in
set_option maxHeartbeats 1000000 in
theorem putwin_any (A : Option Addr) (m c : Nat) (P Q : List Bool) (p a n x M : Nat) (Lz : Int) (w : World) (h : Rd w w.heap.size A m c (pack P)) (hL : Lz = ((P.length : Nat) : Int)) (hP : P.length ≤ 1000000) (han : a + n ≤ 64)
    (hQ : Q = P ++ low (x / 2 ^ (64 - a - n)) n) (hM : Q.length = M) :
    Calls Tryd.prog 34 #[.agg #[.slice A m c, .int .i64 Lz], .agg #[.int .u64 (p : Int), .int .i64 (a : Int), .int .i64 (n : Int)], .int .u64 (x : Int)] w
      fun e w' => ∃ A c, e = .returned (.agg #[.slice A (pack Q).length c, .int .i64 (M : Int)]) ∧ Own w w' (.slice A (pack Q).length c) (pack Q) := by
  have hlo := fun w => xlow_any p a n w han
  obtain ⟨k, hk⟩ : ∃ k, 64 - a - n = k := ⟨_, rfl⟩
  rw [hk] at hlo hQ
  have HD : Hid ((x : Int) / 2 ^ k = ((x / 2 ^ k : Nat) : Int)) := Lib.hid (by simp)
  have hk64 : min k 64 = k := by omega
  have HL := Lib.hid hL
  have HQ := Lib.hid hQ
  have HM := Lib.hid hM
  clear hL hQ hM hk
  have b3 := ((BoxAt.new w (.slice A m c) (.int .i64 Lz) 41).onA (.cells #[.int .u64 (p : Int), .int .i64 (a : Int), .int .i64 (n : Int)] 43)).onA (.cells #[.slice none 0 0, .int .i64 0] 41)
  have b4 := (Box3.new (w.alloc (.cells #[.slice A m c, .int .i64 Lz] 41)) (.int .u64 (p : Int)) (.int .i64 (a : Int)) (.int .i64 (n : Int)) 43).onA (.cells #[.slice none 0 0, .int .i64 0] 41)
  have b6 := BoxAt.new ((w.alloc (.cells #[.slice A m c, .int .i64 Lz] 41)).alloc (.cells #[.int .u64 (p : Int), .int .i64 (a : Int), .int .i64 (n : Int)] 43)) (.slice none 0 0) (.int .i64 0) 41
  have hw0 := ((two_below w (.cells #[.slice A m c, .int .i64 Lz] 41) (.cells #[.int .u64 (p : Int), .int .i64 (a : Int), .int .i64 (n : Int)] 43)).alloc (by simp; omega) (.cells #[.slice none 0 0, .int .i64 0] 41))
  simp only [World.size_alloc] at b4 b6
  go_enter Tryd.func34, Tryd.ntmps34
  go_wp2_with fail
  generalize ((w.alloc (.cells #[.slice A m c, .int .i64 Lz] 41)).alloc (.cells #[.int .u64 (p : Int), .int .i64 (a : Int), .int .i64 (n : Int)] 43)).alloc (.cells #[.slice none 0 0, .int .i64 0] 41) = W at *
  have hr0 := (h.below hw0).more hw0.size
  have hne1 : w.heap.size ≠ w.heap.size + 1 + 1 := by omega
  have hne2 : w.heap.size + 1 ≠ w.heap.size + 1 + 1 := by omega
  have b3' := b3.drew
  have b4' := b4.drew
  have b6' := b6.drew
  obtain ⟨_, p0, p1, _, _⟩ := b3.drew
  obtain ⟨_, q0, q1, q2, _, _, _⟩ := b4.drew
  go_region_held3 (fun w' => w'.cell? ⟨w.heap.size, 0, none⟩ = some (.slice A m c) ∧ w'.cell? ⟨w.heap.size, 1, none⟩ = some (.int .i64 Lz) ∧ w'.cell? ⟨w.heap.size + 1, 0, none⟩ = some (.int .u64 (p : Int)) ∧ w'.cell? ⟨w.heap.size + 1, 1, none⟩ = some (.int .i64 (a : Int)) ∧ w'.cell? ⟨w.heap.size + 1, 2, none⟩ = some (.int .i64 (n : Int))) (first | exact ⟨p0, p1, q0, q1, q2⟩ | exact ⟨(b3x.other hne1 _ _).c0, (b3x.other hne1 _ _).c1, ((b4x.other hne2 0 _).other hne2 1 _).c0, ((b4x.other hne2 0 _).other hne2 1 _).c1, ((b4x.other hne2 0 _).other hne2 1 _).c2⟩ | go_keep) (first
    | (go_at_call 42; (with_reducible refine (hlo _).mono ?_); rintro e w1 ⟨rfl, hb1⟩; have hw1 := hw0.drew.trans (hb1.mono hw0.drew.size); have hr1 := (h.below hw1).more hw1.size; clear p0 p1 q0 q1 q2; replace b3' := b3'.below hb1; replace b4' := b4'.below hb1; replace b6' := b6'.below hb1; have b3t := b3'; have b4t := b4'; obtain ⟨_, p0, p1, _, _⟩ := b3t; obtain ⟨_, q0, q1, q2, _, _, _⟩ := b4t)
    | (go_at_call 32; (with_reducible refine (put_as A m c P Q (x / 2 ^ k) n _ _ Lz M _ hr1 HL.out HD.out rfl HQ.out HM.out hP (by omega)).mono ?_); rintro e w2 ⟨A2, c2, rfl, hown⟩; clear p0 p1 q0 q1 q2; have b3x := b3'.below hown.bel; have b4x := b4'.below hown.bel; have b3t := b3x; have b4t := b4x; obtain ⟨_, p0, p1, _, _⟩ := b3t; obtain ⟨_, q0, q1, q2, _, _, _⟩ := b4t; obtain ⟨ylt, yc0, yc1, yf0, yf1⟩ := b6'.below hown.bel))
  all_goals
    have hs1 : w.heap.size ≤ w.heap.size + 1 + 1 := by omega
    have hs2 : w.heap.size + 1 + 1 < w1.heap.size := b6'.lt
    have h4 := hown.past2 hw1 (p := ⟨w.heap.size + 1 + 1, 0, none⟩) (q := ⟨w.heap.size + 1 + 1, 1, none⟩) hs1 hs2 hs1 hs2 (.slice A2 (pack Q).length c2) (.int .i64 (M : Int))
    have hy := (BoxAt.mk ylt yc0 yc1 yf0 yf1).set (.slice A2 (pack Q).length c2) (.int .i64 (M : Int))
    clear p0 p1 q0 q1 q2
    go_wp2
    have e0 := hy.c0
    have e1 := hy.c1
    refine bodyPost_ret (v := .agg #[.slice A2 (pack Q).length c2, .int .i64 (M : Int)]) ?_ rfl ⟨A2, c2, rfl, h4⟩
    simp [results, Tryd.results34, go_sem, e0, e1]

end Go.Proofs.YtldodfdbaonmkaaDoor
