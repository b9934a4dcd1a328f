/-
  Texts of this proof, one behind the other: XorWin, XorCode.
-/
import Derived.Test.YtaebljoacffghaaGreatDoorPut1
import Derived.Test.YtaebljoacffghaaGreatDoorXorsG
import Derived.Deep.RegionHeld3
import Derived.Deep.DeepCutAuto

/-
  The contract of layer 7's putWindow.
-/
namespace Go.Proofs.YtaebljoacffghaaGreatDoor
open Go.RowKit

set_option maxRecDepth 20000 in
set_option maxHeartbeats 1000000 in
theorem putwin_any (A : Option Addr) (m c : Nat) (P Q : List Bool) (p a n x M : Nat) (Lz : Int) (w : World) (h : Rd w w.heap.size A m c (pack P)) (hL : Lz = ((P.length : Nat) : Int)) (hP : P.length ≤ 1000000) (han : a + n ≤ 64)
    (hQ : Q = P ++ low (x / 2 ^ (64 - a - n)) n) (hM : Q.length = M) :
    Calls Tryz.prog 127 #[.agg #[.slice A m c, .int .i64 Lz], .agg #[.int .u64 (p : Int), .int .i64 (a : Int), .int .i64 (n : Int)], .int .u64 (x : Int)] w
      fun e w' => ∃ A c, e = .returned (.agg #[.slice A (pack Q).length c, .int .i64 (M : Int)]) ∧ Own w w' (.slice A (pack Q).length c) (pack Q) := by
  have hlo := fun w => xlow_any p a n w han
  obtain ⟨k, hk⟩ : ∃ k, 64 - a - n = k := ⟨_, rfl⟩
  rw [hk] at hlo hQ
  have HD : Hid ((x : Int) / 2 ^ k = ((x / 2 ^ k : Nat) : Int)) := Lib.hid (by simp)
  have hk64 : min k 64 = k := by omega
  have HL := Lib.hid hL
  have HQ := Lib.hid hQ
  have HM := Lib.hid hM
  clear hL hQ hM hk
  have b3 := ((BoxAt.new w (.slice A m c) (.int .i64 Lz) 148).onA (.cells #[.int .u64 (p : Int), .int .i64 (a : Int), .int .i64 (n : Int)] 149)).onA (.cells #[.slice none 0 0, .int .i64 0] 148)
  have b4 := (Box3.new (w.alloc (.cells #[.slice A m c, .int .i64 Lz] 148)) (.int .u64 (p : Int)) (.int .i64 (a : Int)) (.int .i64 (n : Int)) 149).onA (.cells #[.slice none 0 0, .int .i64 0] 148)
  have b6 := BoxAt.new ((w.alloc (.cells #[.slice A m c, .int .i64 Lz] 148)).alloc (.cells #[.int .u64 (p : Int), .int .i64 (a : Int), .int .i64 (n : Int)] 149)) (.slice none 0 0) (.int .i64 0) 148
  have hw0 := ((two_below w (.cells #[.slice A m c, .int .i64 Lz] 148) (.cells #[.int .u64 (p : Int), .int .i64 (a : Int), .int .i64 (n : Int)] 149)).alloc (by simp; omega) (.cells #[.slice none 0 0, .int .i64 0] 148))
  simp only [World.size_alloc] at b4 b6
  go_enter Tryz.func127, Tryz.ntmps127
  go_wp2_with fail
  generalize ((w.alloc (.cells #[.slice A m c, .int .i64 Lz] 148)).alloc (.cells #[.int .u64 (p : Int), .int .i64 (a : Int), .int .i64 (n : Int)] 149)).alloc (.cells #[.slice none 0 0, .int .i64 0] 148) = W at *
  have hr0 := (h.below hw0).more hw0.size
  have hne1 : w.heap.size ≠ w.heap.size + 1 + 1 := by omega
  have hne2 : w.heap.size + 1 ≠ w.heap.size + 1 + 1 := by omega
  have b3' := b3.drew
  have b4' := b4.drew
  have b6' := b6.drew
  obtain ⟨_, p0, p1, _, _⟩ := b3.drew
  obtain ⟨_, q0, q1, q2, _, _, _⟩ := b4.drew
  go_region_held3 (fun w' => w'.cell? ⟨w.heap.size, 0, none⟩ = some (.slice A m c) ∧ w'.cell? ⟨w.heap.size, 1, none⟩ = some (.int .i64 Lz) ∧ w'.cell? ⟨w.heap.size + 1, 0, none⟩ = some (.int .u64 (p : Int)) ∧ w'.cell? ⟨w.heap.size + 1, 1, none⟩ = some (.int .i64 (a : Int)) ∧ w'.cell? ⟨w.heap.size + 1, 2, none⟩ = some (.int .i64 (n : Int))) (first | exact ⟨p0, p1, q0, q1, q2⟩ | exact ⟨(b3x.other hne1 _ _).c0, (b3x.other hne1 _ _).c1, ((b4x.other hne2 0 _).other hne2 1 _).c0, ((b4x.other hne2 0 _).other hne2 1 _).c1, ((b4x.other hne2 0 _).other hne2 1 _).c2⟩ | go_keep) (first
    | (go_at_call 140; (with_reducible refine (hlo _).mono ?_); rintro e w1 ⟨rfl, hb1⟩; have hw1 := hw0.drew.trans (hb1.mono hw0.drew.size); have hr1 := (h.below hw1).more hw1.size; clear p0 p1 q0 q1 q2; replace b3' := b3'.below hb1; replace b4' := b4'.below hb1; replace b6' := b6'.below hb1; have b3t := b3'; have b4t := b4'; obtain ⟨_, p0, p1, _, _⟩ := b3t; obtain ⟨_, q0, q1, q2, _, _, _⟩ := b4t)
    | (go_at_call 125; (with_reducible refine (put_as A m c P Q (x / 2 ^ k) n _ _ Lz M _ hr1 HL.out HD.out rfl HQ.out HM.out hP (by omega)).mono ?_); rintro e w2 ⟨A2, c2, rfl, hown⟩; clear p0 p1 q0 q1 q2; have b3x := b3'.below hown.bel; have b4x := b4'.below hown.bel; have b3t := b3x; have b4t := b4x; obtain ⟨_, p0, p1, _, _⟩ := b3t; obtain ⟨_, q0, q1, q2, _, _, _⟩ := b4t; obtain ⟨ylt, yc0, yc1, yf0, yf1⟩ := b6'.below hown.bel))
  all_goals
    have hs1 : w.heap.size ≤ w.heap.size + 1 + 1 := by omega
    have hs2 : w.heap.size + 1 + 1 < w1.heap.size := b6'.lt
    have h4 := hown.past2 hw1 (p := ⟨w.heap.size + 1 + 1, 0, none⟩) (q := ⟨w.heap.size + 1 + 1, 1, none⟩) hs1 hs2 hs1 hs2 (.slice A2 (pack Q).length c2) (.int .i64 (M : Int))
    have hy := (BoxAt.mk ylt yc0 yc1 yf0 yf1).set (.slice A2 (pack Q).length c2) (.int .i64 (M : Int))
    clear p0 p1 q0 q1 q2
    go_wp2
    have e0 := hy.c0
    have e1 := hy.c1
    refine bodyPost_ret (v := .agg #[.slice A2 (pack Q).length c2, .int .i64 (M : Int)]) ?_ rfl ⟨A2, c2, rfl, h4⟩
    simp [results, Tryz.results127, go_sem, e0, e1]

end Go.Proofs.YtaebljoacffghaaGreatDoor

/-
  The contract of layer 7's Code: a value's code in a state as bits, in new memory, and the state behind it.
-/
namespace Go.Proofs.YtaebljoacffghaaGreatDoor
open Go.RowKit

/-- what Code comes to: bits in new memory, and a state -/
def RetX (w : World) (cd : List Bool) (v l k : Nat) (e : Ending) (w' : World) : Prop :=
  ∃ A c, e = .returned (.tuple #[.agg #[.slice A (pack cd).length c, .int .i64 ((cd.length : Nat) : Int)], .agg #[.int .u64 (v : Int), .int .i64 (l : Int), .int .i64 (k : Int)]]) ∧ Own w w' (.slice A (pack cd).length c) (pack cd)

theorem RetX.mk {w w' : World} {cd : List Bool} {A : Option Addr} {c v l k M : Nat} {vz : Int} (hM : cd.length = M) (hv : vz = (v : Int)) (h : Own w w' (.slice A (pack cd).length c) (pack cd)) :
    RetX w cd v l k (.returned (.tuple #[.agg #[.slice A (pack cd).length c, .int .i64 (M : Int)], .agg #[.int .u64 vz, .int .i64 (l : Int), .int .i64 (k : Int)]])) w' := by
  subst hM hv
  exact ⟨A, c, rfl, h⟩

/-- the world behind Code's three boxes -/
def codeW (w : World) (p a n : Nat) : World := ((w.alloc (.cells #[.int .u64 (p : Int), .int .i64 (a : Int), .int .i64 (n : Int)] 149)).alloc (.cells #[.slice none 0 0, .int .i64 0] 148)).alloc (.cells #[.int .u64 0, .int .i64 0, .int .i64 0] 149)
/-- the three boxes -/
structure CodeB (w W : World) (p a n : Nat) : Prop where
  b2 : Box3 W w.heap.size (.int .u64 (p : Int)) (.int .i64 (a : Int)) (.int .i64 (n : Int))
  b4 : BoxAt W (w.heap.size + 1) (.slice none 0 0) (.int .i64 0)
  b5 : Box3 W (w.heap.size + 1 + 1) (.int .u64 0) (.int .i64 0) (.int .i64 0)
  bel : Below w.heap.size w W
theorem CodeB.new (w : World) (p a n : Nat) : CodeB w (codeW w p a n) p a n := by
  have b5 := Box3.new ((w.alloc (.cells #[.int .u64 (p : Int), .int .i64 (a : Int), .int .i64 (n : Int)] 149)).alloc (.cells #[.slice none 0 0, .int .i64 0] 148)) (.int .u64 0) (.int .i64 0) (.int .i64 0) 149
  have b4 := (BoxAt.new (w.alloc (.cells #[.int .u64 (p : Int), .int .i64 (a : Int), .int .i64 (n : Int)] 149)) (.slice none 0 0) (.int .i64 0) 148).onA (.cells #[.int .u64 0, .int .i64 0, .int .i64 0] 149)
  simp only [World.size_alloc] at b4 b5
  exact ⟨((Box3.new w (.int .u64 (p : Int)) (.int .i64 (a : Int)) (.int .i64 (n : Int)) 149).onA _).onA _, b4, b5, (two_below w _ _).alloc (by simp; omega) _⟩
theorem CodeB.below {w W W' : World} {p a n : Nat} (h : CodeB w W p a n) (hb : Below W.heap.size W W') : CodeB w W' p a n :=
  ⟨h.b2.below hb, h.b4.below hb, h.b5.below hb, h.bel.trans (hb.mono h.bel.size)⟩
theorem CodeB.drew {w W : World} {p a n : Nat} (h : CodeB w W p a n) : CodeB w W.drew p a n := ⟨h.b2.drew, h.b4.drew, h.b5.drew, h.bel.drew⟩

theorem CodeB.oth {w W : World} {p a n g : Nat} (h : CodeB w W p a n) (hg : w.heap.size + 1 + 1 < g) (k : Nat) (u : Value) : CodeB w (W.setCell ⟨g, k, none⟩ u) p a n :=
  ⟨h.b2.other (by omega) k u, h.b4.oth (by omega) k u, h.b5.other (by omega) k u, h.bel.setCell (by dsimp only; omega) u⟩
/-- the value ahead is another one -/
theorem CodeB.setp {w W : World} {p a n : Nat} (h : CodeB w W p a n) (v : Nat) : CodeB w (W.setCell ⟨w.heap.size, 0, none⟩ (.int .u64 (v : Int))) v a n := by
  have h1 : w.heap.size + 1 ≠ w.heap.size := by omega
  have h2 : w.heap.size + 1 + 1 ≠ w.heap.size := by omega
  refine ⟨?_, h.b4.oth h1 0 _, h.b5.other h2 0 _, h.bel.setCell (Nat.le_refl _) _⟩
  have c0 := h.b2.c0
  have c1 := h.b2.c1
  have c2 := h.b2.c2
  have f0 := h.b2.f0
  have f1 := h.b2.f1
  have f2 := h.b2.f2
  refine ⟨by simpa using h.b2.lt, ?_, ?_, ?_, ?_, ?_, ?_⟩ <;> go_simp

theorem put_zero : [] ++ low 0 1 = [false] := by decide

set_option maxRecDepth 20000 in
set_option maxHeartbeats 1000000 in
theorem xcode_same (p a n v : Nat) (w : World) (hp : p ≤ 18446744073709551615) (hv : v ≤ 18446744073709551615) (h0 : p ^^^ v = 0) :
    Calls Tryz.prog 115 #[.agg #[.int .u64 (p : Int), .int .i64 (a : Int), .int .i64 (n : Int)], .int .u64 (v : Int)] w (RetX w [false] p a n) := by
  have hxor := u64_xor_nat p v (by omega) (by omega)
  rw [h0] at hxor
  obtain ⟨Q, HQ⟩ : ∃ Q, Hid (Q = [] ++ low 0 1) := ⟨_, Lib.hid rfl⟩
  have HM : Hid (Q.length = 1) := Lib.hid (by rw [HQ.out]; rfl)
  rw [← put_zero, ← HQ.out]
  have hB := CodeB.new w p a n
  unfold codeW at hB
  go_enter Tryz.func115, Tryz.ntmps115
  go_upto_region 3 with fail
  generalize ((w.alloc (.cells #[.int .u64 (p : Int), .int .i64 (a : Int), .int .i64 (n : Int)] 149)).alloc (.cells #[.slice none 0 0, .int .i64 0] 148)).alloc (.cells #[.int .u64 0, .int .i64 0, .int .i64 0] 149) = W at *
  clear hxor
  have h1 : w.heap.size ≠ w.heap.size + 1 := by omega
  have h2 : w.heap.size ≠ w.heap.size + 1 + 1 := by omega
  have hB' := hB.drew
  have HPut := fun (X : World) => put_as none 0 0 [] Q 0 1 0 1 0 1 X (Rd.nil_ (w := X) (B := X.heap.size)) rfl rfl rfl HQ.out HM.out (by simp) (by omega)
  obtain ⟨_, q0, q1, q2, _, _, _⟩ := hB.drew.b2
  go_region_with (first
    | (go_at_call 125; (with_reducible refine (HPut _).mono ?_); rintro e w2 ⟨A2, c2, rfl, hown⟩; have hlt := hB'.b5.lt; replace hB' := hB'.below hown.bel; clear q0 q1 q2; obtain ⟨_, q0, q1, q2, _, _, _⟩ := hB'.b2; obtain ⟨_, y0, y1, yf0, yf1⟩ := hB'.b4; obtain ⟨_, z0, z1, z2, zf0, zf1, zf2⟩ := hB'.b5))
  all_goals
    have hF1 := Two23.one hB'.b4 hB'.b5 (by omega) (.slice A2 (pack Q).length c2) (.int .i64 1) (.int .u64 (p : Int)) (.int .i64 (a : Int)) (.int .i64 (n : Int))
    have hF2 := Two23.two hB'.b4 hB'.b5 (by omega) (.slice A2 (pack Q).length c2) (.int .i64 1) (.int .u64 (p : Int)) (.int .i64 (a : Int)) (.int .i64 (n : Int))
    clear q0 q1 q2 HPut hB'
    go_wp2_with fail
    refine bodyPost_ret (v := .tuple #[.agg #[.slice A2 (pack Q).length c2, .int .i64 1], .agg #[.int .u64 (p : Int), .int .i64 (a : Int), .int .i64 (n : Int)]]) ?_ rfl (RetX.mk HM.out rfl ?_)
    · first
        | simp [results, Tryz.results115, go_sem, hF1.e0, hF1.e1, hF1.g0, hF1.g1, hF1.g2]
        | simp [results, Tryz.results115, go_sem, hF2.e0, hF2.e1, hF2.g0, hF2.g1, hF2.g2]
    · have hmid := Mid.of hown hB.bel.drew
      refine Mid.own (B := W.drew.heap.size) ?_
      repeat' (with_reducible first | exact hmid | refine Mid.set ?_ _ _ (by dsimp only; omega) (by dsimp only; omega))

end Go.Proofs.YtaebljoacffghaaGreatDoor
