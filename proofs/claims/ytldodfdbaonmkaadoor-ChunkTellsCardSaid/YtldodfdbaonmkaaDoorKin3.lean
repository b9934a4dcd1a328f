/-
  The contracts of layer 8's timeBits, afterFirst and After.
-/
import Derived.Test.YtldodfdbaonmkaaDoorKin2
namespace Go.Proofs.YtldodfdbaonmkaaDoor
open Go.RowKit

theorem w64_wrap (x : Int) : wrap64 x = w64 x := wrap64_mod x
theorem stepT_wrap (s : KS) (t : Int) : wrap64 (wrap64 (t - s.t) - s.d) = stepT s t := by
  unfold stepT
  rw [w64_wrap, w64_wrap]
  unfold w64
  omega
theorem stepE_wrap (s : KS) (v : Nat) : wrap64 (IntKind.u64.wrap (IntKind.u64.wrap ((v : Int) - (s.v : Int)) - (s.e : Int))) = stepE s v := by
  unfold stepE
  rw [w64_wrap, u64_mod, u64_mod]
  unfold w64
  omega

set_option maxRecDepth 20000 in
set_option maxHeartbeats 400000 in
theorem timebits_any (s : KS) (t : Int) (w : World) (hR : RoomW w) :
    Calls Tryd.prog 19 #[(.agg #[.int .i64 (s.n : Int), .int .i64 s.t, .int .i64 s.d, .int .u64 (s.v : Int), .int .u64 (s.e : Int), .int .u64 (s.x.prev : Int), .int .i64 (s.x.lead : Int), .int .i64 (s.x.len : Int)]), .int .i64 t] w (RetBits w (timeK s t)) := by
  have hb0 := ((Below.refl w.heap.size w).alloc (Nat.le_refl _) (.cells #[.int .i64 (s.n : Int), .int .i64 s.t, .int .i64 s.d, .int .u64 (s.v : Int), .int .u64 (s.e : Int), .int .u64 (s.x.prev : Int), .int .i64 (s.x.lead : Int), .int .i64 (s.x.len : Int)] 45)).alloc (by simp) (.cells #[.slice none 0 0, .int .i64 0] 41)
  have hx0 := BoxAt.new (w.alloc (.cells #[.int .i64 (s.n : Int), .int .i64 s.t, .int .i64 s.d, .int .u64 (s.v : Int), .int .u64 (s.e : Int), .int .u64 (s.x.prev : Int), .int .i64 (s.x.lead : Int), .int .i64 (s.x.len : Int)] 45)) (.slice none 0 0) (.int .i64 0) 41
  simp only [World.size_alloc] at hx0
  have hl0 := hx0.lt
  have hR0 := hR.bel hb0
  by_cases h0 : s.n = 0
  · have h1 : ((s.n : Int) == 0) = true := by simp [h0]
    have huw : IntKind.u64.wrap t = ((un64 t : Nat) : Int) := by rw [u64_mod, un64_cast]
    have HP : Hid (timeK s t = low (un64 t) 64) := Lib.hid (by unfold timeK; rw [if_pos h0])
    have HL : Hid ((low (un64 t) 64).length = 64) := Lib.hid (low_length _ _)
    have hW := fun w => word_any (un64 t) w
    generalize low (un64 t) 64 = p at *
    clear h0
    go_enter Tryd.func19, Tryd.ntmps19
    go_wp2_with fail
    refine (hW _).mono ?_
    rintro e w1 ⟨A1, c1, rfl, hown⟩
    rw [HL.out]
    have hx := hx0.below hown.bel
    obtain ⟨xlt, xc0, xc1, xf0, xf1⟩ := hx
    go_wp2
    have hy := (BoxAt.mk xlt xc0 xc1 xf0 xf1).set (.slice A1 (pack p).length c1) (.int .i64 64)
    have h4 := hown.past2 hb0 (p := ⟨w.heap.size + 1, 0, none⟩) (q := ⟨w.heap.size + 1, 1, none⟩) (by simp) hl0 (by simp) hl0 (.slice A1 (pack p).length c1) (.int .i64 64)
    have e0 := hy.c0
    have e1 := hy.c1
    refine bodyPost_ret (v := .agg #[.slice A1 (pack p).length c1, .int .i64 64]) ?_ rfl (by rw [HP.out]; exact RetBits.mk h4 HL.out)
    simp [results, Tryd.results19, go_sem, e0, e1]
  · have h1 : ((s.n : Int) == 0) = false := by simp [h0]
    have HP : Hid (timeK s t = codeD (stepT s t)) := Lib.hid (by unfold timeK; rw [if_neg h0])
    have hS := stepT_wrap s t
    have hI := stepT_in s t
    have hC := fun w hR => dcode_any (stepT s t) w hI hR
    generalize stepT s t = st at *
    clear h0
    go_enter Tryd.func19, Tryd.ntmps19
    go_wp2_with fail
    refine (hC _ hR0).mono ?_
    generalize codeD st = p at *
    obtain ⟨M, HM⟩ : ∃ M, Hid (p.length = M) := ⟨_, Lib.hid rfl⟩
    rintro e w1 ⟨A1, c1, rfl, hown⟩
    rw [HM.out]
    have hx := hx0.below hown.bel
    obtain ⟨xlt, xc0, xc1, xf0, xf1⟩ := hx
    go_wp2
    have hy := (BoxAt.mk xlt xc0 xc1 xf0 xf1).set (.slice A1 (pack p).length c1) (.int .i64 (M : Int))
    have h4 := hown.past2 hb0 (p := ⟨w.heap.size + 1, 0, none⟩) (q := ⟨w.heap.size + 1, 1, none⟩) (by simp) hl0 (by simp) hl0 (.slice A1 (pack p).length c1) (.int .i64 (M : Int))
    have e0 := hy.c0
    have e1 := hy.c1
    refine bodyPost_ret (v := .agg #[.slice A1 (pack p).length c1, .int .i64 (M : Int)]) ?_ rfl (by rw [HP.out]; exact RetBits.mk h4 HM.out)
    simp [results, Tryd.results19, go_sem, e0, e1]

/-- the state behind the first sample -/
def firstS (k : Nat) (t : Int) (v : Nat) : KS := ⟨1, t, 0, v, 0, if k = 1 then ⟨v, 0, 0⟩ else zeroX⟩
set_option maxRecDepth 20000 in
set_option maxHeartbeats 400000 in
theorem afterfirst_any (k : Nat) (t : Int) (v : Nat) (w : World) (hk : k = 1 ∨ k = 2) :
    Calls Tryd.prog 29 #[.int .i64 (k : Int), (.agg #[.int .i64 t, .int .u64 (v : Int)])] w fun e w' => e = .returned (.agg #[.int .i64 ((firstS k t v).n : Int), .int .i64 (firstS k t v).t, .int .i64 (firstS k t v).d, .int .u64 ((firstS k t v).v : Int), .int .u64 ((firstS k t v).e : Int), .int .u64 ((firstS k t v).x.prev : Int), .int .i64 ((firstS k t v).x.lead : Int), .int .i64 ((firstS k t v).x.len : Int)]) ∧ Below w.heap.size w w' := by
  rcases hk with rfl | rfl
  all_goals
    go_enter Tryd.func29, Tryd.ntmps29
    go_wp2
    go_returns
    exact ⟨rfl, by repeat (first | with_reducible exact Below.refl _ _ | assumption | with_reducible refine Below.drew ?_ | with_reducible refine Below.alloc ?_ (by (first | assumption | omega | (simp; done) | (simp; omega))) _)⟩

set_option maxRecDepth 20000 in
set_option maxHeartbeats 1000000 in
theorem after_any (k : Nat) (s : KS) (t : Int) (v : Nat) (y : XS) (w : World) (hk : k = 1 ∨ k = 2) (hn : s.n ≤ 1000000) :
    Calls Tryd.prog 20 #[.int .i64 (k : Int), (.agg #[.int .i64 (s.n : Int), .int .i64 s.t, .int .i64 s.d, .int .u64 (s.v : Int), .int .u64 (s.e : Int), .int .u64 (s.x.prev : Int), .int .i64 (s.x.lead : Int), .int .i64 (s.x.len : Int)]), (.agg #[.int .i64 t, .int .u64 (v : Int)]), (.agg #[.int .u64 (y.prev : Int), .int .i64 (y.lead : Int), .int .i64 (y.len : Int)])] w fun e w' => e = .returned (.agg #[.int .i64 ((afterK k s t v y).n : Int), .int .i64 (afterK k s t v y).t, .int .i64 (afterK k s t v y).d, .int .u64 ((afterK k s t v y).v : Int), .int .u64 ((afterK k s t v y).e : Int), .int .u64 ((afterK k s t v y).x.prev : Int), .int .i64 ((afterK k s t v y).x.lead : Int), .int .i64 ((afterK k s t v y).x.len : Int)]) ∧ Below w.heap.size w w' := by
  by_cases h0 : s.n = 0
  · have h1 : ((s.n : Int) == 0) = true := by simp [h0]
    have HA : Hid (afterK k s t v y = firstS k t v) := Lib.hid (by unfold afterK firstS; rw [if_pos h0])
    rw [HA.out]
    have hF := fun w => afterfirst_any k t v w hk
    generalize firstS k t v = s' at *
    clear h0
    go_enter Tryd.func20, Tryd.ntmps20
    go_wp2_with fail
    refine (hF _).mono ?_
    have hb0 : Below w.heap.size w ((((w.alloc (.cells #[.int .i64 (s.n : Int), .int .i64 s.t, .int .i64 s.d, .int .u64 (s.v : Int), .int .u64 (s.e : Int), .int .u64 (s.x.prev : Int), .int .i64 (s.x.lead : Int), .int .i64 (s.x.len : Int)] 45)).alloc (.cells #[.int .i64 t, .int .u64 (v : Int)] 38)).alloc (.cells #[.int .u64 (y.prev : Int), .int .i64 (y.lead : Int), .int .i64 (y.len : Int)] 43)).alloc (.cells #[.int .i64 0, .int .i64 0, .int .i64 0, .int .u64 0, .int .u64 0, .int .u64 0, .int .i64 0, .int .i64 0] 45)) := by repeat (first | with_reducible exact Below.refl _ _ | assumption | with_reducible refine Below.drew ?_ | with_reducible refine Below.alloc ?_ (by (first | assumption | omega | (simp; done) | (simp; omega))) _)
    have hx0 := BoxL.new (((w.alloc (.cells #[.int .i64 (s.n : Int), .int .i64 s.t, .int .i64 s.d, .int .u64 (s.v : Int), .int .u64 (s.e : Int), .int .u64 (s.x.prev : Int), .int .i64 (s.x.lead : Int), .int .i64 (s.x.len : Int)] 45)).alloc (.cells #[.int .i64 t, .int .u64 (v : Int)] 38)).alloc (.cells #[.int .u64 (y.prev : Int), .int .i64 (y.lead : Int), .int .i64 (y.len : Int)] 43)) [.int .i64 0, .int .i64 0, .int .i64 0, .int .u64 0, .int .u64 0, .int .u64 0, .int .i64 0, .int .i64 0] 45
    simp only [World.size_alloc] at hx0
    rintro e w1 ⟨rfl, hb1⟩
    replace hx0 := hx0.below hb1
    replace hb1 := hb0.trans (hb1.mono hb0.size)
    obtain ⟨c0, c1, c2, c3, c4, c5, c6, c7⟩ := hx0.get8
    obtain ⟨f0, f1, f2, f3, f4, f5, f6, f7⟩ := hx0.free8
    have hg : w.heap.size ≤ w.heap.size + 1 + 1 + 1 := by omega
    generalize w.heap.size + 1 + 1 + 1 = g at *
    go_wp2
    have hy := hx0.all8 (.int .i64 (s'.n : Int)) (.int .i64 s'.t) (.int .i64 s'.d) (.int .u64 (s'.v : Int)) (.int .u64 (s'.e : Int)) (.int .u64 (s'.x.prev : Int)) (.int .i64 (s'.x.lead : Int)) (.int .i64 (s'.x.len : Int))
    obtain ⟨d0, d1, d2, d3, d4, d5, d6, d7⟩ := hy.get8
    have hbs := below_set8 hb1 hg (.int .i64 (s'.n : Int)) (.int .i64 s'.t) (.int .i64 s'.d) (.int .u64 (s'.v : Int)) (.int .u64 (s'.e : Int)) (.int .u64 (s'.x.prev : Int)) (.int .i64 (s'.x.lead : Int)) (.int .i64 (s'.x.len : Int))
    refine bodyPost_ret (v := (.agg #[.int .i64 (s'.n : Int), .int .i64 s'.t, .int .i64 s'.d, .int .u64 (s'.v : Int), .int .u64 (s'.e : Int), .int .u64 (s'.x.prev : Int), .int .i64 (s'.x.lead : Int), .int .i64 (s'.x.len : Int)])) ?_ rfl ⟨rfl, hbs⟩
    clear hx0 hb1 hy hbs hF
    clear c0 c1 c2 c3 c4 c5 c6 c7 f0 f1 f2 f3 f4 f5 f6 f7
    generalize ((((((((w1.setCell ⟨g, 0, none⟩ (.int .i64 (s'.n : Int))).setCell ⟨g, 1, none⟩ (.int .i64 s'.t)).setCell ⟨g, 2, none⟩ (.int .i64 s'.d)).setCell ⟨g, 3, none⟩ (.int .u64 (s'.v : Int))).setCell ⟨g, 4, none⟩ (.int .u64 (s'.e : Int))).setCell ⟨g, 5, none⟩ (.int .u64 (s'.x.prev : Int))).setCell ⟨g, 6, none⟩ (.int .i64 (s'.x.lead : Int))).setCell ⟨g, 7, none⟩ (.int .i64 (s'.x.len : Int))) = W at *
    simp [results, Tryd.results20, go_sem, d0, d1, d2, d3, d4, d5, d6, d7]
  · have h1 : ((s.n : Int) == 0) = false := by simp [h0]
    have hw := w64_wrap (t - s.t)
    have hu : IntKind.u64.wrap ((v : Int) - (s.v : Int)) = ((un64 ((v : Int) - (s.v : Int)) : Nat) : Int) := by rw [u64_mod, un64_cast]
    rcases hk with rfl | rfl
    · have HA : Hid (afterK 1 s t v y = ⟨s.n + 1, t, w64 (t - s.t), v, 0, y⟩) := Lib.hid (by unfold afterK; rw [if_neg h0]; rfl)
      rw [HA.out]
      clear h0
      go_enter Tryd.func20, Tryd.ntmps20
      go_wp2
      go_returns
      exact ⟨rfl, by repeat (first | with_reducible exact Below.refl _ _ | assumption | with_reducible refine Below.drew ?_ | with_reducible refine Below.alloc ?_ (by (first | assumption | omega | (simp; done) | (simp; omega))) _)⟩
    · have HA : Hid (afterK 2 s t v y = ⟨s.n + 1, t, w64 (t - s.t), v, un64 ((v : Int) - (s.v : Int)), zeroX⟩) := Lib.hid (by unfold afterK; rw [if_neg h0]; rfl)
      rw [HA.out]
      clear h0
      go_enter Tryd.func20, Tryd.ntmps20
      go_wp2
      go_returns
      exact ⟨rfl, by repeat (first | with_reducible exact Below.refl _ _ | assumption | with_reducible refine Below.drew ?_ | with_reducible refine Below.alloc ?_ (by (first | assumption | omega | (simp; done) | (simp; omega))) _)⟩

end Go.Proofs.YtldodfdbaonmkaaDoor
