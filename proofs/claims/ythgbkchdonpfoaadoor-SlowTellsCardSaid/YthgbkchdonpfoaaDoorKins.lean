/-
  Texts of this proof, one behind the other: Kin2, Kin3, Kin4.
-/
import Derived.Test.YthgbkchdonpfoaaDoorPlain
import Derived.Test.YthgbkchdonpfoaaDoorWords
import Derived.Test.YthgbkchdonpfoaaDoorDods
import Derived.Test.YthgbkchdonpfoaaDoorXorAll
import Derived.Handy

/-
  The contracts of layer 8's small functions: known, rises, word; sums and differences as the walk spells them.
-/
namespace Go.Proofs.YthgbkchdonpfoaaDoor
open Go.RowKit

theorem known_yes (k : Nat) (w : World) (hk : k = 1 ∨ k = 2) :
    Calls Tryd.prog 20 #[.int .i64 (k : Int)] w fun e w' => e = .returned (.bool true) ∧ w = w' := by
  rcases hk with rfl | rfl
  all_goals
    go_enter Tryd.func20, Tryd.ntmps20
    go_wp2
    go_ret
    exact ⟨rfl, rfl⟩
theorem known_no (z : Int) (w : World) (h1 : (z == 1) = false) (h2 : (z == 2) = false) :
    Calls Tryd.prog 20 #[.int .i64 z] w fun e w' => e = .returned (.bool false) ∧ w = w' := by
  go_enter Tryd.func20, Tryd.ntmps20
  go_wp2
  go_ret
  exact ⟨rfl, rfl⟩

set_option maxRecDepth 20000 in
theorem rises_any (s : KS) (t : Int) (v : Nat) (w : World) :
    Calls Tryd.prog 23 #[(.agg #[.int .i64 (s.n : Int), .int .i64 s.t, .int .i64 s.d, .int .u64 (s.v : Int), .int .u64 (s.e : Int), .int .u64 (s.x.prev : Int), .int .i64 (s.x.lead : Int), .int .i64 (s.x.len : Int)]), (.agg #[.int .i64 t, .int .u64 (v : Int)])] w fun e w' => e = .returned (.bool (risesK s t)) ∧ Below w.heap.size w w' := by
  have hb := ((Below.refl w.heap.size w).alloc (Nat.le_refl _) (.cells #[.int .i64 (s.n : Int), .int .i64 s.t, .int .i64 s.d, .int .u64 (s.v : Int), .int .u64 (s.e : Int), .int .u64 (s.x.prev : Int), .int .i64 (s.x.lead : Int), .int .i64 (s.x.len : Int)] 45)).alloc (by simp) (.cells #[.int .i64 t, .int .u64 (v : Int)] 40)
  by_cases h0 : s.n = 0
  · have e : risesK s t = true := by unfold risesK; simp [h0]
    have h1 : ((s.n : Int) == 0) = true := by simp [h0]
    rw [e]
    clear h0
    go_enter Tryd.func23, Tryd.ntmps23
    go_wp2
    go_ret
    exact ⟨rfl, hb⟩
  · have h1 : ((s.n : Int) == 0) = false := by simp [h0]
    have e : risesK s t = decide (s.t < t) := by unfold risesK; simp [h0]
    rw [e]
    clear h0
    by_cases h2 : s.t < t
    all_goals
      go_enter Tryd.func23, Tryd.ntmps23
      go_wp2
      go_ret
      exact ⟨by simp [h2], hb⟩

theorem word_any (v : Nat) (w : World) :
    Calls Tryd.prog 41 #[.int .u64 (v : Int)] w (RetBits w (low v 64)) := by
  have hb0 : Below w.heap.size w (w.alloc (.cells #[.slice none 0 0, .int .i64 0] 57)) := (Below.refl _ _).alloc (Nat.le_refl _) _
  go_enter Tryd.func41, Tryd.ntmps41
  go_wp2_with fail
  refine (put_yes none 0 0 [] v 64 _ Rd.nil_ (by simp) (by omega)).mono ?_
  rw [List.nil_append]
  rintro e w1 ⟨A1, c1, rfl, hown⟩
  have HL : Hid ((low v 64).length = 64) := Lib.hid (low_length _ _)
  generalize low v 64 = p at *
  rw [HL.out]
  have hx := (BoxAt.new w (.slice none 0 0) (.int .i64 0) 57).below hown.bel
  have hl : w.heap.size < (w.alloc (.cells #[.slice none 0 0, .int .i64 0] 57)).heap.size := by simp
  obtain ⟨xlt, xc0, xc1, xf0, xf1⟩ := hx
  go_wp2
  have hy := (BoxAt.mk xlt xc0 xc1 xf0 xf1).set (.slice A1 (pack p).length c1) (.int .i64 64)
  have h4 := hown.past2 hb0 (p := ⟨w.heap.size, 0, none⟩) (q := ⟨w.heap.size, 1, none⟩) (Nat.le_refl _) hl (Nat.le_refl _) hl (.slice A1 (pack p).length c1) (.int .i64 64)
  have e0 := hy.c0
  have e1 := hy.c1
  refine bodyPost_ret (v := .agg #[.slice A1 (pack p).length c1, .int .i64 64]) ?_ rfl (RetBits.mk h4 HL.out)
  simp [results, Tryd.results41, go_sem, e0, e1]

end Go.Proofs.YthgbkchdonpfoaaDoor

/-
  The contracts of layer 8's timeBits, afterFirst and After.
-/
namespace Go.Proofs.YthgbkchdonpfoaaDoor
open Go.RowKit

theorem w64_wrap (x : Int) : wrap64 x = w64 x := wrap64_mod x
theorem stepT_wrap (s : KS) (t : Int) : wrap64 (wrap64 (t - s.t) - s.d) = stepT s t := by
  unfold stepT
  rw [w64_wrap, w64_wrap]
  unfold w64
  omega
theorem stepE_wrap (s : KS) (v : Nat) : wrap64 (IntKind.u64.wrap (IntKind.u64.wrap ((v : Int) - (s.v : Int)) - (s.e : Int))) = stepE s v := by
  unfold stepE
  rw [w64_wrap, u64_mod, u64_mod]
  unfold w64
  omega

set_option maxRecDepth 20000 in
set_option maxHeartbeats 400000 in
theorem timebits_any (s : KS) (t : Int) (w : World) (hR : RoomW w) :
    Calls Tryd.prog 30 #[(.agg #[.int .i64 (s.n : Int), .int .i64 s.t, .int .i64 s.d, .int .u64 (s.v : Int), .int .u64 (s.e : Int), .int .u64 (s.x.prev : Int), .int .i64 (s.x.lead : Int), .int .i64 (s.x.len : Int)]), .int .i64 t] w (RetBits w (timeK s t)) := by
  have hb0 := ((Below.refl w.heap.size w).alloc (Nat.le_refl _) (.cells #[.int .i64 (s.n : Int), .int .i64 s.t, .int .i64 s.d, .int .u64 (s.v : Int), .int .u64 (s.e : Int), .int .u64 (s.x.prev : Int), .int .i64 (s.x.lead : Int), .int .i64 (s.x.len : Int)] 45)).alloc (by simp) (.cells #[.slice none 0 0, .int .i64 0] 57)
  have hx0 := BoxAt.new (w.alloc (.cells #[.int .i64 (s.n : Int), .int .i64 s.t, .int .i64 s.d, .int .u64 (s.v : Int), .int .u64 (s.e : Int), .int .u64 (s.x.prev : Int), .int .i64 (s.x.lead : Int), .int .i64 (s.x.len : Int)] 45)) (.slice none 0 0) (.int .i64 0) 57
  simp only [World.size_alloc] at hx0
  have hl0 := hx0.lt
  have hR0 := hR.bel hb0
  by_cases h0 : s.n = 0
  · have h1 : ((s.n : Int) == 0) = true := by simp [h0]
    have huw : IntKind.u64.wrap t = ((un64 t : Nat) : Int) := by rw [u64_mod, un64_cast]
    have HP : Hid (timeK s t = low (un64 t) 64) := Lib.hid (by unfold timeK; rw [if_pos h0])
    have HL : Hid ((low (un64 t) 64).length = 64) := Lib.hid (low_length _ _)
    have hW := fun w => word_any (un64 t) w
    generalize low (un64 t) 64 = p at *
    clear h0
    go_enter Tryd.func30, Tryd.ntmps30
    go_wp2_with fail
    refine (hW _).mono ?_
    rintro e w1 ⟨A1, c1, rfl, hown⟩
    rw [HL.out]
    have hx := hx0.below hown.bel
    obtain ⟨xlt, xc0, xc1, xf0, xf1⟩ := hx
    go_wp2
    have hy := (BoxAt.mk xlt xc0 xc1 xf0 xf1).set (.slice A1 (pack p).length c1) (.int .i64 64)
    have h4 := hown.past2 hb0 (p := ⟨w.heap.size + 1, 0, none⟩) (q := ⟨w.heap.size + 1, 1, none⟩) (by simp) hl0 (by simp) hl0 (.slice A1 (pack p).length c1) (.int .i64 64)
    have e0 := hy.c0
    have e1 := hy.c1
    refine bodyPost_ret (v := .agg #[.slice A1 (pack p).length c1, .int .i64 64]) ?_ rfl (by rw [HP.out]; exact RetBits.mk h4 HL.out)
    simp [results, Tryd.results30, go_sem, e0, e1]
  · have h1 : ((s.n : Int) == 0) = false := by simp [h0]
    have HP : Hid (timeK s t = codeD (stepT s t)) := Lib.hid (by unfold timeK; rw [if_neg h0])
    have hS := stepT_wrap s t
    have hI := stepT_in s t
    have hC := fun w hR => dcode_any (stepT s t) w hI hR
    generalize stepT s t = st at *
    clear h0
    go_enter Tryd.func30, Tryd.ntmps30
    go_wp2_with fail
    refine (hC _ hR0).mono ?_
    generalize codeD st = p at *
    obtain ⟨M, HM⟩ : ∃ M, Hid (p.length = M) := ⟨_, Lib.hid rfl⟩
    rintro e w1 ⟨A1, c1, rfl, hown⟩
    rw [HM.out]
    have hx := hx0.below hown.bel
    obtain ⟨xlt, xc0, xc1, xf0, xf1⟩ := hx
    go_wp2
    have hy := (BoxAt.mk xlt xc0 xc1 xf0 xf1).set (.slice A1 (pack p).length c1) (.int .i64 (M : Int))
    have h4 := hown.past2 hb0 (p := ⟨w.heap.size + 1, 0, none⟩) (q := ⟨w.heap.size + 1, 1, none⟩) (by simp) hl0 (by simp) hl0 (.slice A1 (pack p).length c1) (.int .i64 (M : Int))
    have e0 := hy.c0
    have e1 := hy.c1
    refine bodyPost_ret (v := .agg #[.slice A1 (pack p).length c1, .int .i64 (M : Int)]) ?_ rfl (by rw [HP.out]; exact RetBits.mk h4 HM.out)
    simp [results, Tryd.results30, go_sem, e0, e1]

/-- the state behind the first sample -/
def firstS (k : Nat) (t : Int) (v : Nat) : KS := ⟨1, t, 0, v, 0, if k = 1 then ⟨v, 0, 0⟩ else zeroX⟩
set_option maxRecDepth 20000 in
set_option maxHeartbeats 400000 in
theorem afterfirst_any (k : Nat) (t : Int) (v : Nat) (w : World) (hk : k = 1 ∨ k = 2) :
    Calls Tryd.prog 35 #[.int .i64 (k : Int), (.agg #[.int .i64 t, .int .u64 (v : Int)])] w fun e w' => e = .returned (.agg #[.int .i64 ((firstS k t v).n : Int), .int .i64 (firstS k t v).t, .int .i64 (firstS k t v).d, .int .u64 ((firstS k t v).v : Int), .int .u64 ((firstS k t v).e : Int), .int .u64 ((firstS k t v).x.prev : Int), .int .i64 ((firstS k t v).x.lead : Int), .int .i64 ((firstS k t v).x.len : Int)]) ∧ Below w.heap.size w w' := by
  rcases hk with rfl | rfl
  all_goals
    go_enter Tryd.func35, Tryd.ntmps35
    go_wp2
    go_returns
    exact ⟨rfl, by repeat (first | with_reducible exact Below.refl _ _ | assumption | with_reducible refine Below.drew ?_ | with_reducible refine Below.alloc ?_ (by (first | assumption | omega | (simp; done) | (simp; omega))) _)⟩

set_option maxRecDepth 20000 in
set_option maxHeartbeats 1000000 in
theorem after_any (k : Nat) (s : KS) (t : Int) (v : Nat) (y : XS) (w : World) (hk : k = 1 ∨ k = 2) (hn : s.n ≤ 1000000) :
    Calls Tryd.prog 24 #[.int .i64 (k : Int), (.agg #[.int .i64 (s.n : Int), .int .i64 s.t, .int .i64 s.d, .int .u64 (s.v : Int), .int .u64 (s.e : Int), .int .u64 (s.x.prev : Int), .int .i64 (s.x.lead : Int), .int .i64 (s.x.len : Int)]), (.agg #[.int .i64 t, .int .u64 (v : Int)]), (.agg #[.int .u64 (y.prev : Int), .int .i64 (y.lead : Int), .int .i64 (y.len : Int)])] w fun e w' => e = .returned (.agg #[.int .i64 ((afterK k s t v y).n : Int), .int .i64 (afterK k s t v y).t, .int .i64 (afterK k s t v y).d, .int .u64 ((afterK k s t v y).v : Int), .int .u64 ((afterK k s t v y).e : Int), .int .u64 ((afterK k s t v y).x.prev : Int), .int .i64 ((afterK k s t v y).x.lead : Int), .int .i64 ((afterK k s t v y).x.len : Int)]) ∧ Below w.heap.size w w' := by
  by_cases h0 : s.n = 0
  · have h1 : ((s.n : Int) == 0) = true := by simp [h0]
    have HA : Hid (afterK k s t v y = firstS k t v) := Lib.hid (by unfold afterK firstS; rw [if_pos h0])
    rw [HA.out]
    have hF := fun w => afterfirst_any k t v w hk
    generalize firstS k t v = s' at *
    clear h0
    go_enter Tryd.func24, Tryd.ntmps24
    go_wp2_with fail
    refine (hF _).mono ?_
    have hb0 : Below w.heap.size w ((((w.alloc (.cells #[.int .i64 (s.n : Int), .int .i64 s.t, .int .i64 s.d, .int .u64 (s.v : Int), .int .u64 (s.e : Int), .int .u64 (s.x.prev : Int), .int .i64 (s.x.lead : Int), .int .i64 (s.x.len : Int)] 45)).alloc (.cells #[.int .i64 t, .int .u64 (v : Int)] 40)).alloc (.cells #[.int .u64 (y.prev : Int), .int .i64 (y.lead : Int), .int .i64 (y.len : Int)] 43)).alloc (.cells #[.int .i64 0, .int .i64 0, .int .i64 0, .int .u64 0, .int .u64 0, .int .u64 0, .int .i64 0, .int .i64 0] 45)) := by repeat (first | with_reducible exact Below.refl _ _ | assumption | with_reducible refine Below.drew ?_ | with_reducible refine Below.alloc ?_ (by (first | assumption | omega | (simp; done) | (simp; omega))) _)
    have hx0 := BoxL.new (((w.alloc (.cells #[.int .i64 (s.n : Int), .int .i64 s.t, .int .i64 s.d, .int .u64 (s.v : Int), .int .u64 (s.e : Int), .int .u64 (s.x.prev : Int), .int .i64 (s.x.lead : Int), .int .i64 (s.x.len : Int)] 45)).alloc (.cells #[.int .i64 t, .int .u64 (v : Int)] 40)).alloc (.cells #[.int .u64 (y.prev : Int), .int .i64 (y.lead : Int), .int .i64 (y.len : Int)] 43)) [.int .i64 0, .int .i64 0, .int .i64 0, .int .u64 0, .int .u64 0, .int .u64 0, .int .i64 0, .int .i64 0] 45
    simp only [World.size_alloc] at hx0
    rintro e w1 ⟨rfl, hb1⟩
    replace hx0 := hx0.below hb1
    replace hb1 := hb0.trans (hb1.mono hb0.size)
    obtain ⟨c0, c1, c2, c3, c4, c5, c6, c7⟩ := hx0.get8
    obtain ⟨f0, f1, f2, f3, f4, f5, f6, f7⟩ := hx0.free8
    have hg : w.heap.size ≤ w.heap.size + 1 + 1 + 1 := by omega
    generalize w.heap.size + 1 + 1 + 1 = g at *
    go_wp2
    have hy := hx0.all8 (.int .i64 (s'.n : Int)) (.int .i64 s'.t) (.int .i64 s'.d) (.int .u64 (s'.v : Int)) (.int .u64 (s'.e : Int)) (.int .u64 (s'.x.prev : Int)) (.int .i64 (s'.x.lead : Int)) (.int .i64 (s'.x.len : Int))
    obtain ⟨d0, d1, d2, d3, d4, d5, d6, d7⟩ := hy.get8
    have hbs := below_set8 hb1 hg (.int .i64 (s'.n : Int)) (.int .i64 s'.t) (.int .i64 s'.d) (.int .u64 (s'.v : Int)) (.int .u64 (s'.e : Int)) (.int .u64 (s'.x.prev : Int)) (.int .i64 (s'.x.lead : Int)) (.int .i64 (s'.x.len : Int))
    refine bodyPost_ret (v := (.agg #[.int .i64 (s'.n : Int), .int .i64 s'.t, .int .i64 s'.d, .int .u64 (s'.v : Int), .int .u64 (s'.e : Int), .int .u64 (s'.x.prev : Int), .int .i64 (s'.x.lead : Int), .int .i64 (s'.x.len : Int)])) ?_ rfl ⟨rfl, hbs⟩
    clear hx0 hb1 hy hbs hF
    clear c0 c1 c2 c3 c4 c5 c6 c7 f0 f1 f2 f3 f4 f5 f6 f7
    generalize ((((((((w1.setCell ⟨g, 0, none⟩ (.int .i64 (s'.n : Int))).setCell ⟨g, 1, none⟩ (.int .i64 s'.t)).setCell ⟨g, 2, none⟩ (.int .i64 s'.d)).setCell ⟨g, 3, none⟩ (.int .u64 (s'.v : Int))).setCell ⟨g, 4, none⟩ (.int .u64 (s'.e : Int))).setCell ⟨g, 5, none⟩ (.int .u64 (s'.x.prev : Int))).setCell ⟨g, 6, none⟩ (.int .i64 (s'.x.lead : Int))).setCell ⟨g, 7, none⟩ (.int .i64 (s'.x.len : Int))) = W at *
    simp [results, Tryd.results24, go_sem, d0, d1, d2, d3, d4, d5, d6, d7]
  · have h1 : ((s.n : Int) == 0) = false := by simp [h0]
    have hw := w64_wrap (t - s.t)
    have hu : IntKind.u64.wrap ((v : Int) - (s.v : Int)) = ((un64 ((v : Int) - (s.v : Int)) : Nat) : Int) := by rw [u64_mod, un64_cast]
    rcases hk with rfl | rfl
    · have HA : Hid (afterK 1 s t v y = ⟨s.n + 1, t, w64 (t - s.t), v, 0, y⟩) := Lib.hid (by unfold afterK; rw [if_neg h0]; rfl)
      rw [HA.out]
      clear h0
      go_enter Tryd.func24, Tryd.ntmps24
      go_wp2
      go_returns
      exact ⟨rfl, by repeat (first | with_reducible exact Below.refl _ _ | assumption | with_reducible refine Below.drew ?_ | with_reducible refine Below.alloc ?_ (by (first | assumption | omega | (simp; done) | (simp; omega))) _)⟩
    · have HA : Hid (afterK 2 s t v y = ⟨s.n + 1, t, w64 (t - s.t), v, un64 ((v : Int) - (s.v : Int)), zeroX⟩) := Lib.hid (by unfold afterK; rw [if_neg h0]; rfl)
      rw [HA.out]
      clear h0
      go_enter Tryd.func24, Tryd.ntmps24
      go_wp2
      go_returns
      exact ⟨rfl, by repeat (first | with_reducible exact Below.refl _ _ | assumption | with_reducible refine Below.drew ?_ | with_reducible refine Below.alloc ?_ (by (first | assumption | omega | (simp; done) | (simp; omega))) _)⟩

end Go.Proofs.YthgbkchdonpfoaaDoor

/-
  The contract of layer 8's valueBits: a value's bits, and layer 7's state behind them.
-/
namespace Go.Proofs.YthgbkchdonpfoaaDoor
open Go.RowKit

/-- what valueBits comes to -/
def RetV (w : World) (p : List Bool) (y : XS) (e : Ending) (w' : World) : Prop :=
  ∃ A c, e = .returned (.tuple #[.agg #[.slice A (pack p).length c, .int .i64 ((p.length : Nat) : Int)], (.agg #[.int .u64 (y.prev : Int), .int .i64 (y.lead : Int), .int .i64 (y.len : Int)])]) ∧ Own w w' (.slice A (pack p).length c) (pack p)

/-- the world behind valueBits' three boxes -/
def vworld (w : World) (s : KS) : World := ((w.alloc (.cells #[.int .i64 (s.n : Int), .int .i64 s.t, .int .i64 s.d, .int .u64 (s.v : Int), .int .u64 (s.e : Int), .int .u64 (s.x.prev : Int), .int .i64 (s.x.lead : Int), .int .i64 (s.x.len : Int)] 45)).alloc (.cells #[.slice none 0 0, .int .i64 0] 57)).alloc (.cells #[.int .u64 0, .int .i64 0, .int .i64 0] 43)
theorem vworld_below (w : World) (s : KS) : Below w.heap.size w (vworld w s) := by unfold vworld; exact by repeat (first | with_reducible exact Below.refl _ _ | assumption | with_reducible refine Below.drew ?_ | with_reducible refine Below.alloc ?_ (by (first | assumption | omega | (simp; done) | (simp; omega))) _)
theorem vworld_size (w : World) (s : KS) : (vworld w s).heap.size = w.heap.size + 3 := by unfold vworld; simp
theorem vworld_boxes (w : World) (s : KS) : BoxAt (vworld w s) (w.heap.size + 1) (.slice none 0 0) (.int .i64 0) ∧ Box3 (vworld w s) (w.heap.size + 1 + 1) (.int .u64 0) (.int .i64 0) (.int .i64 0) := by
  have h1 := (BoxAt.new (w.alloc (.cells #[.int .i64 (s.n : Int), .int .i64 s.t, .int .i64 s.d, .int .u64 (s.v : Int), .int .u64 (s.e : Int), .int .u64 (s.x.prev : Int), .int .i64 (s.x.lead : Int), .int .i64 (s.x.len : Int)] 45)) (.slice none 0 0) (.int .i64 0) 57).onA (.cells #[.int .u64 0, .int .i64 0, .int .i64 0] 43)
  have h2 := Box3.new ((w.alloc (.cells #[.int .i64 (s.n : Int), .int .i64 s.t, .int .i64 s.d, .int .u64 (s.v : Int), .int .u64 (s.e : Int), .int .u64 (s.x.prev : Int), .int .i64 (s.x.lead : Int), .int .i64 (s.x.len : Int)] 45)).alloc (.cells #[.slice none 0 0, .int .i64 0] 57)) (.int .u64 0) (.int .i64 0) (.int .i64 0) 43
  simp only [World.size_alloc] at h1 h2
  exact ⟨h1, h2⟩

/-- the end of valueBits: both boxes written behind a call that made bits -/
theorem v_end {w W w1 : World} {g : Nat} {p : List Bool} {A : Option Addr} {c : Nat} (hW : Below w.heap.size w W) (x1 : BoxAt W g (.slice none 0 0) (.int .i64 0)) (x2 : Box3 W (g + 1) (.int .u64 0) (.int .i64 0) (.int .i64 0)) (hg : w.heap.size ≤ g)
    (ho : Own W w1 (.slice A (pack p).length c) (pack p)) (M : Int) (y0 y1 y2 : Value) :
    Own w (((((w1.setCell ⟨g, 0, none⟩ (.slice A (pack p).length c)).setCell ⟨g, 1, none⟩ (.int .i64 M)).setCell ⟨g + 1, 0, none⟩ y0).setCell ⟨g + 1, 1, none⟩ y1).setCell ⟨g + 1, 2, none⟩ y2) (.slice A (pack p).length c) (pack p) ∧
    Two23 (((((w1.setCell ⟨g, 0, none⟩ (.slice A (pack p).length c)).setCell ⟨g, 1, none⟩ (.int .i64 M)).setCell ⟨g + 1, 0, none⟩ y0).setCell ⟨g + 1, 1, none⟩ y1).setCell ⟨g + 1, 2, none⟩ y2) g (g + 1) (.slice A (pack p).length c) (.int .i64 M) y0 y1 y2 := by
  have l1 := x1.lt
  have l2 := x2.lt
  refine ⟨?_, Two23.one (x1.below ho.bel) (x2.below ho.bel) (by omega) _ _ _ _ _⟩
  exact (((((Mid.of ho hW).set ⟨g, 0, none⟩ _ hg l1).set ⟨g, 1, none⟩ _ hg l1).set ⟨g + 1, 0, none⟩ _ (by simp only; omega) l2).set ⟨g + 1, 1, none⟩ _ (by simp only; omega) l2).set ⟨g + 1, 2, none⟩ _ (by simp only; omega) l2 |>.own

set_option maxRecDepth 20000 in
set_option maxHeartbeats 1000000 in
theorem valuebits_any (k : Nat) (s : KS) (v : Nat) (w : World) (hk : k = 1 ∨ k = 2) (hs : s.May) (hv : v ≤ 18446744073709551615) (hR : RoomW w) (hT : TzW w) :
    Calls Tryd.prog 29 #[.int .i64 (k : Int), (.agg #[.int .i64 (s.n : Int), .int .i64 s.t, .int .i64 s.d, .int .u64 (s.v : Int), .int .u64 (s.e : Int), .int .u64 (s.x.prev : Int), .int .i64 (s.x.lead : Int), .int .i64 (s.x.len : Int)]), .int .u64 (v : Int)] w (RetV w (valK k s v) (if s.n = 0 then zeroX else if k = 1 then nextX s.x v else zeroX)) := by
  have hW := vworld_below w s
  obtain ⟨x1, x2⟩ := vworld_boxes w s
  have hRW := hR.bel hW
  have hTW := hT.bel hW
  by_cases h0 : s.n = 0
  · have h1 : ((s.n : Int) == 0) = true := by simp [h0]
    have HP : Hid (valK k s v = low v 64) := Lib.hid (by unfold valK; rw [if_pos h0])
    have HL : Hid ((low v 64).length = 64) := Lib.hid (low_length _ _)
    have hC := fun w => word_any v w
    rw [if_pos h0, HP.out]
    generalize low v 64 = p at *
    clear h0
    go_enter Tryd.func29, Tryd.ntmps29
    go_wp2_with fail
    change Calls _ _ _ (vworld w s) _
    generalize vworld w s = W at *
    refine (hC _).mono ?_
    rintro e w1 ⟨A1, c1, rfl, hown⟩
    rw [HL.out]
    obtain ⟨_, a0, a1, af0, af1⟩ := x1.below hown.bel
    obtain ⟨_, b0, b1, b2, bf0, bf1, bf2⟩ := x2.below hown.bel
    have hE := fun M => v_end hW x1 x2 (by omega) hown M
    generalize w.heap.size + 1 = g at *
    go_wp2
    obtain ⟨h4, d0, d1, d2, d3, d4⟩ := hE 64 (.int .u64 0) (.int .i64 0) (.int .i64 0)
    refine bodyPost_ret (v := .tuple #[.agg #[.slice A1 (pack p).length c1, .int .i64 64], .agg #[.int .u64 0, .int .i64 0, .int .i64 0]]) ?_ rfl ⟨A1, c1, by rw [HL.out]; rfl, h4⟩
    simp [results, Tryd.results29, go_sem, d0, d1, d2, d3, d4]
  · have h1 : ((s.n : Int) == 0) = false := by simp [h0]
    rcases hk with rfl | rfl
    · have HP : Hid (valK 1 s v = codeX s.x v) := Lib.hid (by unfold valK; rw [if_neg h0]; rfl)
      have hC := fun w h => xcode_any s.x.prev s.x.lead s.x.len v w hs.x hv h
      unfold RetX at hC
      have hpv := nextX_prev s.x v
      rw [if_neg h0, HP.out, if_pos rfl]
      change ∀ X, TzW X → Calls _ _ _ X (fun e w' => ∃ A c, e = .returned (.tuple #[.agg #[.slice A (pack (codeX s.x v)).length c, .int .i64 (((codeX s.x v).length : Nat) : Int)], .agg #[.int .u64 (v : Int), .int .i64 ((nextX s.x v).lead : Int), .int .i64 ((nextX s.x v).len : Int)]]) ∧ Own X w' (.slice A (pack (codeX s.x v)).length c) (pack (codeX s.x v))) at hC
      generalize codeX s.x v = p at *
      generalize nextX s.x v = y at *
      obtain ⟨M, HM⟩ : ∃ M, Hid (p.length = M) := ⟨_, Lib.hid rfl⟩
      have HPV := Lib.hid hpv
      clear h0 hpv
      go_enter Tryd.func29, Tryd.ntmps29
      go_wp2_with fail
      change Calls _ _ _ (vworld w s) _
      generalize vworld w s = W at *
      refine (hC _ hTW).mono ?_
      rintro e w1 ⟨A1, c1, rfl, hown⟩
      rw [HM.out]
      obtain ⟨_, a0, a1, af0, af1⟩ := x1.below hown.bel
      obtain ⟨_, b0, b1, b2, bf0, bf1, bf2⟩ := x2.below hown.bel
      have hE := fun M => v_end hW x1 x2 (by omega) hown M
      generalize w.heap.size + 1 = g at *
      go_wp2
      obtain ⟨h4, d0, d1, d2, d3, d4⟩ := hE (M : Int) (.int .u64 (v : Int)) (.int .i64 (y.lead : Int)) (.int .i64 (y.len : Int))
      refine bodyPost_ret (v := .tuple #[.agg #[.slice A1 (pack p).length c1, .int .i64 (M : Int)], .agg #[.int .u64 (v : Int), .int .i64 (y.lead : Int), .int .i64 (y.len : Int)]]) ?_ rfl ⟨A1, c1, by rw [HM.out, HPV.out], h4⟩
      simp [results, Tryd.results29, go_sem, d0, d1, d2, d3, d4]
    · have HP : Hid (valK 2 s v = codeD (stepE s v)) := Lib.hid (by unfold valK; rw [if_neg h0]; rfl)
      have hS := stepE_wrap s v
      have hC := fun w h => dcode_any (stepE s v) w (stepE_in s v) h
      rw [if_neg h0, HP.out, if_neg (by omega)]
      generalize stepE s v = st at *
      generalize codeD st = p at *
      obtain ⟨M, HM⟩ : ∃ M, Hid (p.length = M) := ⟨_, Lib.hid rfl⟩
      clear h0
      go_enter Tryd.func29, Tryd.ntmps29
      go_wp2_with fail
      change Calls _ _ _ (vworld w s) _
      generalize vworld w s = W at *
      refine (hC _ hRW).mono ?_
      rintro e w1 ⟨A1, c1, rfl, hown⟩
      rw [HM.out]
      obtain ⟨_, a0, a1, af0, af1⟩ := x1.below hown.bel
      obtain ⟨_, b0, b1, b2, bf0, bf1, bf2⟩ := x2.below hown.bel
      have hE := fun M => v_end hW x1 x2 (by omega) hown M
      generalize w.heap.size + 1 = g at *
      go_wp2
      obtain ⟨h4, d0, d1, d2, d3, d4⟩ := hE (M : Int) (.int .u64 0) (.int .i64 0) (.int .i64 0)
      refine bodyPost_ret (v := .tuple #[.agg #[.slice A1 (pack p).length c1, .int .i64 (M : Int)], .agg #[.int .u64 0, .int .i64 0, .int .i64 0]]) ?_ rfl ⟨A1, c1, by rw [HM.out]; rfl, h4⟩
      simp [results, Tryd.results29, go_sem, d0, d1, d2, d3, d4]

end Go.Proofs.YthgbkchdonpfoaaDoor
