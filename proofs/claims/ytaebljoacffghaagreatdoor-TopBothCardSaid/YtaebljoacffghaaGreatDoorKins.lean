/-
  Texts of this proof, one behind the other: Kin2P, Kin3P, Kin4.
-/
import Derived.Test.YtaebljoacffghaaGreatDoorKinsG
import Derived.Test.YtaebljoacffghaaGreatDoorDods
import Derived.Test.YtaebljoacffghaaGreatDoorXorsP

/-
  The contract of layer 8's word.
-/
namespace Go.Proofs.YtaebljoacffghaaGreatDoor
open Go.RowKit

theorem word_any (v : Nat) (w : World) :
    Calls Tryz.prog 114 #[.int .u64 (v : Int)] w (RetBits w (low v 64)) := by
  have hb0 : Below w.heap.size w (w.alloc (.cells #[.slice none 0 0, .int .i64 0] 148)) := (Below.refl _ _).alloc (Nat.le_refl _) _
  go_enter Tryz.func114, Tryz.ntmps114
  go_wp2_with fail
  refine (put_yes none 0 0 [] v 64 _ Rd.nil_ (by simp) (by omega)).mono ?_
  rw [List.nil_append]
  rintro e w1 ⟨A1, c1, rfl, hown⟩
  have HL : Hid ((low v 64).length = 64) := Lib.hid (low_length _ _)
  generalize low v 64 = p at *
  rw [HL.out]
  have hx := (BoxAt.new w (.slice none 0 0) (.int .i64 0) 148).below hown.bel
  have hl : w.heap.size < (w.alloc (.cells #[.slice none 0 0, .int .i64 0] 148)).heap.size := by simp
  obtain ⟨xlt, xc0, xc1, xf0, xf1⟩ := hx
  go_wp2
  have hy := (BoxAt.mk xlt xc0 xc1 xf0 xf1).set (.slice A1 (pack p).length c1) (.int .i64 64)
  have h4 := hown.past2 hb0 (p := ⟨w.heap.size, 0, none⟩) (q := ⟨w.heap.size, 1, none⟩) (Nat.le_refl _) hl (Nat.le_refl _) hl (.slice A1 (pack p).length c1) (.int .i64 64)
  have e0 := hy.c0
  have e1 := hy.c1
  refine bodyPost_ret (v := .agg #[.slice A1 (pack p).length c1, .int .i64 64]) ?_ rfl (RetBits.mk h4 HL.out)
  simp [results, Tryz.results114, go_sem, e0, e1]

end Go.Proofs.YtaebljoacffghaaGreatDoor

/-
  The contract of layer 8's timeBits.
-/
namespace Go.Proofs.YtaebljoacffghaaGreatDoor
open Go.RowKit

set_option maxRecDepth 20000 in
set_option maxHeartbeats 400000 in
theorem timebits_any (s : KS) (t : Int) (w : World) (hR : RoomW w) :
    Calls Tryz.prog 102 #[(.agg #[.int .i64 (s.n : Int), .int .i64 s.t, .int .i64 s.d, .int .u64 (s.v : Int), .int .u64 (s.e : Int), .int .u64 (s.x.prev : Int), .int .i64 (s.x.lead : Int), .int .i64 (s.x.len : Int)]), .int .i64 t] w (RetBits w (timeK s t)) := by
  have hb0 := ((Below.refl w.heap.size w).alloc (Nat.le_refl _) (.cells #[.int .i64 (s.n : Int), .int .i64 s.t, .int .i64 s.d, .int .u64 (s.v : Int), .int .u64 (s.e : Int), .int .u64 (s.x.prev : Int), .int .i64 (s.x.lead : Int), .int .i64 (s.x.len : Int)] 151)).alloc (by simp) (.cells #[.slice none 0 0, .int .i64 0] 148)
  have hx0 := BoxAt.new (w.alloc (.cells #[.int .i64 (s.n : Int), .int .i64 s.t, .int .i64 s.d, .int .u64 (s.v : Int), .int .u64 (s.e : Int), .int .u64 (s.x.prev : Int), .int .i64 (s.x.lead : Int), .int .i64 (s.x.len : Int)] 151)) (.slice none 0 0) (.int .i64 0) 148
  simp only [World.size_alloc] at hx0
  have hl0 := hx0.lt
  have hR0 := hR.bel hb0
  by_cases h0 : s.n = 0
  · have h1 : ((s.n : Int) == 0) = true := by simp [h0]
    have huw : IntKind.u64.wrap t = ((un64 t : Nat) : Int) := by rw [u64_mod, un64_cast]
    have HP : Hid (timeK s t = low (un64 t) 64) := Lib.hid (by unfold timeK; rw [if_pos h0])
    have HL : Hid ((low (un64 t) 64).length = 64) := Lib.hid (low_length _ _)
    have hW := fun w => word_any (un64 t) w
    generalize low (un64 t) 64 = p at *
    clear h0
    go_enter Tryz.func102, Tryz.ntmps102
    go_wp2_with fail
    refine (hW _).mono ?_
    rintro e w1 ⟨A1, c1, rfl, hown⟩
    rw [HL.out]
    have hx := hx0.below hown.bel
    obtain ⟨xlt, xc0, xc1, xf0, xf1⟩ := hx
    go_wp2
    have hy := (BoxAt.mk xlt xc0 xc1 xf0 xf1).set (.slice A1 (pack p).length c1) (.int .i64 64)
    have h4 := hown.past2 hb0 (p := ⟨w.heap.size + 1, 0, none⟩) (q := ⟨w.heap.size + 1, 1, none⟩) (by simp) hl0 (by simp) hl0 (.slice A1 (pack p).length c1) (.int .i64 64)
    have e0 := hy.c0
    have e1 := hy.c1
    refine bodyPost_ret (v := .agg #[.slice A1 (pack p).length c1, .int .i64 64]) ?_ rfl (by rw [HP.out]; exact RetBits.mk h4 HL.out)
    simp [results, Tryz.results102, go_sem, e0, e1]
  · have h1 : ((s.n : Int) == 0) = false := by simp [h0]
    have HP : Hid (timeK s t = codeD (stepT s t)) := Lib.hid (by unfold timeK; rw [if_neg h0])
    have hS := stepT_wrap s t
    have hI := stepT_in s t
    have hC := fun w hR => dcode_any (stepT s t) w hI hR
    generalize stepT s t = st at *
    clear h0
    go_enter Tryz.func102, Tryz.ntmps102
    go_wp2_with fail
    refine (hC _ hR0).mono ?_
    generalize codeD st = p at *
    obtain ⟨M, HM⟩ : ∃ M, Hid (p.length = M) := ⟨_, Lib.hid rfl⟩
    rintro e w1 ⟨A1, c1, rfl, hown⟩
    rw [HM.out]
    have hx := hx0.below hown.bel
    obtain ⟨xlt, xc0, xc1, xf0, xf1⟩ := hx
    go_wp2
    have hy := (BoxAt.mk xlt xc0 xc1 xf0 xf1).set (.slice A1 (pack p).length c1) (.int .i64 (M : Int))
    have h4 := hown.past2 hb0 (p := ⟨w.heap.size + 1, 0, none⟩) (q := ⟨w.heap.size + 1, 1, none⟩) (by simp) hl0 (by simp) hl0 (.slice A1 (pack p).length c1) (.int .i64 (M : Int))
    have e0 := hy.c0
    have e1 := hy.c1
    refine bodyPost_ret (v := .agg #[.slice A1 (pack p).length c1, .int .i64 (M : Int)]) ?_ rfl (by rw [HP.out]; exact RetBits.mk h4 HM.out)
    simp [results, Tryz.results102, go_sem, e0, e1]

end Go.Proofs.YtaebljoacffghaaGreatDoor

/-
  The contract of layer 8's valueBits: a value's bits, and layer 7's state behind them.
-/
namespace Go.Proofs.YtaebljoacffghaaGreatDoor
open Go.RowKit

/-- what valueBits comes to -/
def RetV (w : World) (p : List Bool) (y : XS) (e : Ending) (w' : World) : Prop :=
  ∃ A c, e = .returned (.tuple #[.agg #[.slice A (pack p).length c, .int .i64 ((p.length : Nat) : Int)], (.agg #[.int .u64 (y.prev : Int), .int .i64 (y.lead : Int), .int .i64 (y.len : Int)])]) ∧ Own w w' (.slice A (pack p).length c) (pack p)

/-- the world behind valueBits' three boxes -/
def vworld (w : World) (s : KS) : World := ((w.alloc (.cells #[.int .i64 (s.n : Int), .int .i64 s.t, .int .i64 s.d, .int .u64 (s.v : Int), .int .u64 (s.e : Int), .int .u64 (s.x.prev : Int), .int .i64 (s.x.lead : Int), .int .i64 (s.x.len : Int)] 151)).alloc (.cells #[.slice none 0 0, .int .i64 0] 148)).alloc (.cells #[.int .u64 0, .int .i64 0, .int .i64 0] 149)
theorem vworld_below (w : World) (s : KS) : Below w.heap.size w (vworld w s) := by unfold vworld; exact by repeat (first | with_reducible exact Below.refl _ _ | assumption | with_reducible refine Below.drew ?_ | with_reducible refine Below.alloc ?_ (by (first | assumption | omega | (simp; done) | (simp; omega))) _)
theorem vworld_size (w : World) (s : KS) : (vworld w s).heap.size = w.heap.size + 3 := by unfold vworld; simp
theorem vworld_boxes (w : World) (s : KS) : BoxAt (vworld w s) (w.heap.size + 1) (.slice none 0 0) (.int .i64 0) ∧ Box3 (vworld w s) (w.heap.size + 1 + 1) (.int .u64 0) (.int .i64 0) (.int .i64 0) := by
  have h1 := (BoxAt.new (w.alloc (.cells #[.int .i64 (s.n : Int), .int .i64 s.t, .int .i64 s.d, .int .u64 (s.v : Int), .int .u64 (s.e : Int), .int .u64 (s.x.prev : Int), .int .i64 (s.x.lead : Int), .int .i64 (s.x.len : Int)] 151)) (.slice none 0 0) (.int .i64 0) 148).onA (.cells #[.int .u64 0, .int .i64 0, .int .i64 0] 149)
  have h2 := Box3.new ((w.alloc (.cells #[.int .i64 (s.n : Int), .int .i64 s.t, .int .i64 s.d, .int .u64 (s.v : Int), .int .u64 (s.e : Int), .int .u64 (s.x.prev : Int), .int .i64 (s.x.lead : Int), .int .i64 (s.x.len : Int)] 151)).alloc (.cells #[.slice none 0 0, .int .i64 0] 148)) (.int .u64 0) (.int .i64 0) (.int .i64 0) 149
  simp only [World.size_alloc] at h1 h2
  exact ⟨h1, h2⟩

/-- the end of valueBits: both boxes written behind a call that made bits -/
theorem v_end {w W w1 : World} {g : Nat} {p : List Bool} {A : Option Addr} {c : Nat} (hW : Below w.heap.size w W) (x1 : BoxAt W g (.slice none 0 0) (.int .i64 0)) (x2 : Box3 W (g + 1) (.int .u64 0) (.int .i64 0) (.int .i64 0)) (hg : w.heap.size ≤ g)
    (ho : Own W w1 (.slice A (pack p).length c) (pack p)) (M : Int) (y0 y1 y2 : Value) :
    Own w (((((w1.setCell ⟨g, 0, none⟩ (.slice A (pack p).length c)).setCell ⟨g, 1, none⟩ (.int .i64 M)).setCell ⟨g + 1, 0, none⟩ y0).setCell ⟨g + 1, 1, none⟩ y1).setCell ⟨g + 1, 2, none⟩ y2) (.slice A (pack p).length c) (pack p) ∧
    Two23 (((((w1.setCell ⟨g, 0, none⟩ (.slice A (pack p).length c)).setCell ⟨g, 1, none⟩ (.int .i64 M)).setCell ⟨g + 1, 0, none⟩ y0).setCell ⟨g + 1, 1, none⟩ y1).setCell ⟨g + 1, 2, none⟩ y2) g (g + 1) (.slice A (pack p).length c) (.int .i64 M) y0 y1 y2 := by
  have l1 := x1.lt
  have l2 := x2.lt
  refine ⟨?_, Two23.one (x1.below ho.bel) (x2.below ho.bel) (by omega) _ _ _ _ _⟩
  exact (((((Mid.of ho hW).set ⟨g, 0, none⟩ _ hg l1).set ⟨g, 1, none⟩ _ hg l1).set ⟨g + 1, 0, none⟩ _ (by simp only; omega) l2).set ⟨g + 1, 1, none⟩ _ (by simp only; omega) l2).set ⟨g + 1, 2, none⟩ _ (by simp only; omega) l2 |>.own

set_option maxRecDepth 20000 in
set_option maxHeartbeats 1000000 in
theorem valuebits_any (k : Nat) (s : KS) (v : Nat) (w : World) (hk : k = 1 ∨ k = 2) (hs : s.May) (hv : v ≤ 18446744073709551615) (hR : RoomW w) (hT : TzW w) :
    Calls Tryz.prog 101 #[.int .i64 (k : Int), (.agg #[.int .i64 (s.n : Int), .int .i64 s.t, .int .i64 s.d, .int .u64 (s.v : Int), .int .u64 (s.e : Int), .int .u64 (s.x.prev : Int), .int .i64 (s.x.lead : Int), .int .i64 (s.x.len : Int)]), .int .u64 (v : Int)] w (RetV w (valK k s v) (if s.n = 0 then zeroX else if k = 1 then nextX s.x v else zeroX)) := by
  have hW := vworld_below w s
  obtain ⟨x1, x2⟩ := vworld_boxes w s
  have hRW := hR.bel hW
  have hTW := hT.bel hW
  by_cases h0 : s.n = 0
  · have h1 : ((s.n : Int) == 0) = true := by simp [h0]
    have HP : Hid (valK k s v = low v 64) := Lib.hid (by unfold valK; rw [if_pos h0])
    have HL : Hid ((low v 64).length = 64) := Lib.hid (low_length _ _)
    have hC := fun w => word_any v w
    rw [if_pos h0, HP.out]
    generalize low v 64 = p at *
    clear h0
    go_enter Tryz.func101, Tryz.ntmps101
    go_wp2_with fail
    change Calls _ _ _ (vworld w s) _
    generalize vworld w s = W at *
    refine (hC _).mono ?_
    rintro e w1 ⟨A1, c1, rfl, hown⟩
    rw [HL.out]
    obtain ⟨_, a0, a1, af0, af1⟩ := x1.below hown.bel
    obtain ⟨_, b0, b1, b2, bf0, bf1, bf2⟩ := x2.below hown.bel
    have hE := fun M => v_end hW x1 x2 (by omega) hown M
    generalize w.heap.size + 1 = g at *
    go_wp2
    obtain ⟨h4, d0, d1, d2, d3, d4⟩ := hE 64 (.int .u64 0) (.int .i64 0) (.int .i64 0)
    refine bodyPost_ret (v := .tuple #[.agg #[.slice A1 (pack p).length c1, .int .i64 64], .agg #[.int .u64 0, .int .i64 0, .int .i64 0]]) ?_ rfl ⟨A1, c1, by rw [HL.out]; rfl, h4⟩
    simp [results, Tryz.results101, go_sem, d0, d1, d2, d3, d4]
  · have h1 : ((s.n : Int) == 0) = false := by simp [h0]
    rcases hk with rfl | rfl
    · have HP : Hid (valK 1 s v = codeX s.x v) := Lib.hid (by unfold valK; rw [if_neg h0]; rfl)
      have hC := fun w h => xcode_any s.x.prev s.x.lead s.x.len v w hs.x hv h
      unfold RetX at hC
      have hpv := nextX_prev s.x v
      rw [if_neg h0, HP.out, if_pos rfl]
      change ∀ X, TzW X → Calls _ _ _ X (fun e w' => ∃ A c, e = .returned (.tuple #[.agg #[.slice A (pack (codeX s.x v)).length c, .int .i64 (((codeX s.x v).length : Nat) : Int)], .agg #[.int .u64 (v : Int), .int .i64 ((nextX s.x v).lead : Int), .int .i64 ((nextX s.x v).len : Int)]]) ∧ Own X w' (.slice A (pack (codeX s.x v)).length c) (pack (codeX s.x v))) at hC
      generalize codeX s.x v = p at *
      generalize nextX s.x v = y at *
      obtain ⟨M, HM⟩ : ∃ M, Hid (p.length = M) := ⟨_, Lib.hid rfl⟩
      have HPV := Lib.hid hpv
      clear h0 hpv
      go_enter Tryz.func101, Tryz.ntmps101
      go_wp2_with fail
      change Calls _ _ _ (vworld w s) _
      generalize vworld w s = W at *
      refine (hC _ hTW).mono ?_
      rintro e w1 ⟨A1, c1, rfl, hown⟩
      rw [HM.out]
      obtain ⟨_, a0, a1, af0, af1⟩ := x1.below hown.bel
      obtain ⟨_, b0, b1, b2, bf0, bf1, bf2⟩ := x2.below hown.bel
      have hE := fun M => v_end hW x1 x2 (by omega) hown M
      generalize w.heap.size + 1 = g at *
      go_wp2
      obtain ⟨h4, d0, d1, d2, d3, d4⟩ := hE (M : Int) (.int .u64 (v : Int)) (.int .i64 (y.lead : Int)) (.int .i64 (y.len : Int))
      refine bodyPost_ret (v := .tuple #[.agg #[.slice A1 (pack p).length c1, .int .i64 (M : Int)], .agg #[.int .u64 (v : Int), .int .i64 (y.lead : Int), .int .i64 (y.len : Int)]]) ?_ rfl ⟨A1, c1, by rw [HM.out, HPV.out], h4⟩
      simp [results, Tryz.results101, go_sem, d0, d1, d2, d3, d4]
    · have HP : Hid (valK 2 s v = codeD (stepE s v)) := Lib.hid (by unfold valK; rw [if_neg h0]; rfl)
      have hS := stepE_wrap s v
      have hC := fun w h => dcode_any (stepE s v) w (stepE_in s v) h
      rw [if_neg h0, HP.out, if_neg (by omega)]
      generalize stepE s v = st at *
      generalize codeD st = p at *
      obtain ⟨M, HM⟩ : ∃ M, Hid (p.length = M) := ⟨_, Lib.hid rfl⟩
      clear h0
      go_enter Tryz.func101, Tryz.ntmps101
      go_wp2_with fail
      change Calls _ _ _ (vworld w s) _
      generalize vworld w s = W at *
      refine (hC _ hRW).mono ?_
      rintro e w1 ⟨A1, c1, rfl, hown⟩
      rw [HM.out]
      obtain ⟨_, a0, a1, af0, af1⟩ := x1.below hown.bel
      obtain ⟨_, b0, b1, b2, bf0, bf1, bf2⟩ := x2.below hown.bel
      have hE := fun M => v_end hW x1 x2 (by omega) hown M
      generalize w.heap.size + 1 = g at *
      go_wp2
      obtain ⟨h4, d0, d1, d2, d3, d4⟩ := hE (M : Int) (.int .u64 0) (.int .i64 0) (.int .i64 0)
      refine bodyPost_ret (v := .tuple #[.agg #[.slice A1 (pack p).length c1, .int .i64 (M : Int)], .agg #[.int .u64 0, .int .i64 0, .int .i64 0]]) ?_ rfl ⟨A1, c1, by rw [HM.out]; rfl, h4⟩
      simp [results, Tryz.results101, go_sem, d0, d1, d2, d3, d4]

end Go.Proofs.YtaebljoacffghaaGreatDoor
