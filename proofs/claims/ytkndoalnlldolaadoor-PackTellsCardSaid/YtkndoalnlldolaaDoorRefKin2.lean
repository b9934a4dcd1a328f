/-
  The contract of the reference's PutSample behind the first sample; and for any state.
-/
import Derived.Test.YtkndoalnlldolaaDoorRefKinP
namespace Go.Proofs.YtkndoalnlldolaaDoor
open Go.RowKit

set_option maxRecDepth 20000 in
set_option maxHeartbeats 4000000 in
theorem rput_ints (s : KS) (t : Int) (v : Nat) (w : World) (hn : s.n ≤ 1000000) (h0 : s.n ≠ 0) (hr : risesK s t = true) :
    Calls Tryd.prog 27 #[.int .i64 2, (.agg #[.int .i64 (s.n : Int), .int .i64 s.t, .int .i64 s.d, .int .u64 (s.v : Int), .int .u64 (s.e : Int), .int .u64 (s.x.prev : Int), .int .i64 (s.x.lead : Int), .int .i64 (s.x.len : Int)]), (.agg #[.int .i64 t, .int .u64 (v : Int)])] w (RetRP w (putK 2 s t v) (nextK 2 s t v)) := by
  have hX := rworld_is w s t v
  have h1 : ((s.n : Int) == 0) = false := by simp [h0]
  have hlt : s.t < t := by unfold risesK at hr; simp [h0] at hr; exact hr
  have HQ : Hid (putK 2 s t v = codeD (stepT s t) ++ codeD (stepE s v)) := Lib.hid (by unfold putK timeK valK; rw [if_neg h0, if_neg h0]; rfl)
  have HN : Hid (afterK 2 s t v zeroX = nextK 2 s t v) := Lib.hid (by unfold nextK afterK; rw [if_neg h0, if_neg h0]; rfl)
  have hAF : ∀ X, Calls Tryd.prog 37 #[.int .i64 2, (.agg #[.int .i64 (s.n : Int), .int .i64 s.t, .int .i64 s.d, .int .u64 (s.v : Int), .int .u64 (s.e : Int), .int .u64 (s.x.prev : Int), .int .i64 (s.x.lead : Int), .int .i64 (s.x.len : Int)]), (.agg #[.int .i64 t, .int .u64 (v : Int)]), .agg #[.int .u64 0, .int .i64 0, .int .i64 0]] X fun e w' => e = .returned (.agg #[.int .i64 ((nextK 2 s t v).n : Int), .int .i64 (nextK 2 s t v).t, .int .i64 (nextK 2 s t v).d, .int .u64 ((nextK 2 s t v).v : Int), .int .u64 ((nextK 2 s t v).e : Int), .int .u64 ((nextK 2 s t v).x.prev : Int), .int .i64 ((nextK 2 s t v).x.lead : Int), .int .i64 ((nextK 2 s t v).x.len : Int)]) ∧ Below X.heap.size X w' := fun X => by
    rw [← HN.out]
    exact refafter_any 2 s t v zeroX X (.inr rfl) (by omega)
  have hT := refT_wrap s t
  have hE := stepE_wrap' s v
  have hL1 := fun X => refdod_any (stepT s t) X (stepT_in s t)
  have hL2 := fun X => refdod_any (stepE s v) X (stepE_in s v)
  have hl1 := (codeD_pos (stepT s t)).2
  have hl2 := (codeD_pos (stepE s v)).2
  rw [HQ.out]
  generalize nextK 2 s t v = s' at *
  generalize stepT s t = st at *
  generalize stepE s v = se at *
  generalize codeD st = p1 at *
  generalize codeD se = p2 at *
  unfold RetB at hL1 hL2
  obtain ⟨M1, HM1⟩ : ∃ M, Hid (p1.length = M) := ⟨_, Lib.hid rfl⟩
  obtain ⟨M2, HM2⟩ : ∃ M, Hid (p2.length = M) := ⟨_, Lib.hid rfl⟩
  rw [enc_length p1, HM1.out] at hL1
  rw [enc_length p2, HM2.out] at hL2
  rw [HM1.out] at hl1
  rw [HM2.out] at hl2
  clear h0 hr HQ HN
  go_enter Tryd.func27, Tryd.ntmps27
  go_wp2_with fail
  refine (hL1 _).mono ?_
  rintro e w5 ⟨A5, c5, rfl, ho5⟩
  have m1 := Mid.of ho5 hX.bel
  have hB1 := hX.hi
  have hS5 := ho5.bel.size
  replace hX := hX.below ho5.bel hB1
  clear ho5 hL1
  generalize hWe : (rworld w s t v).heap.size = B at *
  have hBs : ((w.alloc (.cells #[.int .i64 (s.n : Int), .int .i64 s.t, .int .i64 s.d, .int .u64 (s.v : Int), .int .u64 (s.e : Int), .int .u64 (s.x.prev : Int), .int .i64 (s.x.lead : Int), .int .i64 (s.x.len : Int)] 65)).alloc (.cells #[.int .i64 t, .int .u64 (v : Int)] 44) |>.alloc (.cells #[.int .i64 0, .int .i64 0, .int .i64 0, .int .u64 0, .int .u64 0, .int .u64 0, .int .i64 0, .int .i64 0] 65)).heap.size = B := hWe
  rw [hBs] at m1 hS5
  clear hWe hBs
  go_upto_region 9 with fail
  replace hX := hX.drew
  replace m1 : Mid w B w5.drew (.slice A5 M1 c5) (enc p1) := ⟨m1.row, m1.bel.drew, m1.le⟩
  go_cut [6, 8] (fun x6 x8 wx => x8 = .int .i64 0 ∧ Own w wx x6 (enc (p1 ++ p2)) ∧ BoxL wx (w.heap.size + 1 + 1) [.int .i64 (s'.n : Int), .int .i64 s'.t, .int .i64 s'.d, .int .u64 (s'.v : Int), .int .u64 (s'.e : Int), .int .u64 (s'.x.prev : Int), .int .i64 (s'.x.lead : Int), .int .i64 (s'.x.len : Int)])
  case first =>
    have q0 := hX.cells
    go_region_held3 (fun w' => (w'.cell? ⟨w.heap.size, 0, none⟩ = some (.int .i64 (s.n : Int)) ∧ w'.cell? ⟨w.heap.size, 1, none⟩ = some (.int .i64 s.t) ∧ w'.cell? ⟨w.heap.size, 2, none⟩ = some (.int .i64 s.d) ∧ w'.cell? ⟨w.heap.size, 3, none⟩ = some (.int .u64 (s.v : Int)) ∧ w'.cell? ⟨w.heap.size, 4, none⟩ = some (.int .u64 (s.e : Int)) ∧ w'.cell? ⟨w.heap.size, 5, none⟩ = some (.int .u64 (s.x.prev : Int)) ∧ w'.cell? ⟨w.heap.size, 6, none⟩ = some (.int .i64 (s.x.lead : Int)) ∧ w'.cell? ⟨w.heap.size, 7, none⟩ = some (.int .i64 (s.x.len : Int))) ∧ (w'.cell? ⟨w.heap.size + 1, 0, none⟩ = some (.int .i64 t) ∧ w'.cell? ⟨w.heap.size + 1, 1, none⟩ = some (.int .u64 (v : Int))))
      (with_reducible first | exact hX.cells | exact (hX.set7 _ _ _ _ _ _ _ _).cells) (first
      | (go_at_call 38; (with_reducible refine (hL2 _).mono ?_); rintro e w6 ⟨A6, c6, rfl, ho6⟩; have hr6 := ho6.rd; have hC1 := ho6.bel.size; have hM1 := hX.hi; replace m1 := m1.on ho6.bel; replace hX := hX.below ho6.bel hM1; clear ho6)
      | (go_at_call 37; (with_reducible refine (hAF _).mono ?_); rintro e w8 ⟨rfl, HB⟩; have hM8 := hX.hi; replace hX := hX.below HB hM8; replace m7 := m7.on HB; clear HB; obtain ⟨u70, u71, u72, u73, u74, u75, u76, u77⟩ := hX.b7.get8; obtain ⟨v70, v71, v72, v73, v74, v75, v76, v77⟩ := hX.b7.free8)
      | (refine step_appM (by rfl) (.tmp 56) (.tmp 66) (by rfl) (by rfl) (by rfl) m1 hX.hi hr6 (by rw [enc_length, HM1.out]; omega) ?_; intro v7 w7 m7 hb7 _; replace hX := hX.below hb7 (Nat.le_refl _); clear hr6 m1))
    all_goals
      clear q0 u70 u71 u72 u73 u74 u75 u76 u77 v70 v71 v72 v73 v74 v75 v76 v77 hAF hL2
      go_wp2_with fail
      go_meet
      rw [← enc_app] at m7
      have hlo := hX.lo
      exact ⟨rfl, (m7.set8 (by omega) (by omega) _ _ _ _ _ _ _ _).own, (hX.set7 _ _ _ _ _ _ _ _).b7⟩
  case rest =>
    obtain ⟨rfl, ho, b7⟩ := hcut
    obtain ⟨A6, c6, rfl⟩ := own_form ho
    obtain ⟨d0, d1, d2, d3, d4, d5, d6, d7⟩ := b7.get8
    go_wp2
    refine bodyPost_ret (v := .tuple #[.slice A6 (p1 ++ p2).length c6, (.agg #[.int .i64 (s'.n : Int), .int .i64 s'.t, .int .i64 s'.d, .int .u64 (s'.v : Int), .int .u64 (s'.e : Int), .int .u64 (s'.x.prev : Int), .int .i64 (s'.x.lead : Int), .int .i64 (s'.x.len : Int)]), .int .i64 0]) ?_ rfl ⟨A6, c6, rfl, ho⟩
    simp [results, Tryd.results27, go_sem, d0, d1, d2, d3, d4, d5, d6, d7]

set_option maxRecDepth 20000 in
set_option maxHeartbeats 4000000 in
theorem rput_xor (s : KS) (t : Int) (v : Nat) (w : World) (hs : s.May) (hn : s.n ≤ 1000000) (hv : v ≤ 18446744073709551615) (h0 : s.n ≠ 0) (hr : risesK s t = true) :
    Calls Tryd.prog 27 #[.int .i64 1, (.agg #[.int .i64 (s.n : Int), .int .i64 s.t, .int .i64 s.d, .int .u64 (s.v : Int), .int .u64 (s.e : Int), .int .u64 (s.x.prev : Int), .int .i64 (s.x.lead : Int), .int .i64 (s.x.len : Int)]), (.agg #[.int .i64 t, .int .u64 (v : Int)])] w (RetRP w (putK 1 s t v) (nextK 1 s t v)) := by
  have hX := rworld_is w s t v
  have h1 : ((s.n : Int) == 0) = false := by simp [h0]
  have hlt : s.t < t := by unfold risesK at hr; simp [h0] at hr; exact hr
  have HQ : Hid (putK 1 s t v = codeD (stepT s t) ++ codeX s.x v) := Lib.hid (by unfold putK timeK valK; rw [if_neg h0, if_neg h0]; rfl)
  have hAF : ∀ X, Calls Tryd.prog 37 #[.int .i64 1, (.agg #[.int .i64 (s.n : Int), .int .i64 s.t, .int .i64 s.d, .int .u64 (s.v : Int), .int .u64 (s.e : Int), .int .u64 (s.x.prev : Int), .int .i64 (s.x.lead : Int), .int .i64 (s.x.len : Int)]), (.agg #[.int .i64 t, .int .u64 (v : Int)]), (.agg #[.int .u64 ((nextX s.x v).prev : Int), .int .i64 ((nextX s.x v).lead : Int), .int .i64 ((nextX s.x v).len : Int)])] X fun e w' => e = .returned (.agg #[.int .i64 ((nextK 1 s t v).n : Int), .int .i64 (nextK 1 s t v).t, .int .i64 (nextK 1 s t v).d, .int .u64 ((nextK 1 s t v).v : Int), .int .u64 ((nextK 1 s t v).e : Int), .int .u64 ((nextK 1 s t v).x.prev : Int), .int .i64 ((nextK 1 s t v).x.lead : Int), .int .i64 ((nextK 1 s t v).x.len : Int)]) ∧ Below X.heap.size X w' := fun X =>
    refafter_any 1 s t v (nextX s.x v) X (.inl rfl) (by omega)
  have hT := refT_wrap s t
  have hL1 := fun X => refdod_any (stepT s t) X (stepT_in s t)
  have hL2 := fun X => rcode_loop s.x.prev s.x.lead s.x.len v _ X hs.x hv rfl
  have hl1 := (codeD_pos (stepT s t)).2
  have hl2 := (codeX_pos hs.x hv).2
  have hpv := nextX_prev s.x v
  rw [hpv] at hAF
  rw [HQ.out]
  unfold RetRX at hL2
  change ∀ X, Calls _ _ _ X (fun e w' => ∃ A c, e = .returned (.tuple #[.slice A (codeX s.x v).length c, .agg #[.int .u64 (v : Int), .int .i64 ((nextX s.x v).lead : Int), .int .i64 ((nextX s.x v).len : Int)]]) ∧ Own X w' (.slice A (codeX s.x v).length c) (enc (codeX s.x v))) at hL2
  generalize nextK 1 s t v = s' at *
  generalize stepT s t = st at *
  generalize nextX s.x v = y at *
  generalize codeD st = p1 at *
  generalize codeX s.x v = p2 at *
  unfold RetB at hL1
  obtain ⟨M1, HM1⟩ : ∃ M, Hid (p1.length = M) := ⟨_, Lib.hid rfl⟩
  obtain ⟨M2, HM2⟩ : ∃ M, Hid (p2.length = M) := ⟨_, Lib.hid rfl⟩
  rw [enc_length p1, HM1.out] at hL1
  rw [HM2.out] at hL2
  rw [HM1.out] at hl1
  rw [HM2.out] at hl2
  clear h0 hr HQ hpv
  go_enter Tryd.func27, Tryd.ntmps27
  go_wp2_with fail
  refine (hL1 _).mono ?_
  rintro e w5 ⟨A5, c5, rfl, ho5⟩
  have m1 := Mid.of ho5 hX.bel
  have hB1 := hX.hi
  have hS5 := ho5.bel.size
  replace hX := hX.below ho5.bel hB1
  clear ho5 hL1
  generalize hWe : (rworld w s t v).heap.size = B at *
  have hBs : ((w.alloc (.cells #[.int .i64 (s.n : Int), .int .i64 s.t, .int .i64 s.d, .int .u64 (s.v : Int), .int .u64 (s.e : Int), .int .u64 (s.x.prev : Int), .int .i64 (s.x.lead : Int), .int .i64 (s.x.len : Int)] 65)).alloc (.cells #[.int .i64 t, .int .u64 (v : Int)] 44) |>.alloc (.cells #[.int .i64 0, .int .i64 0, .int .i64 0, .int .u64 0, .int .u64 0, .int .u64 0, .int .i64 0, .int .i64 0] 65)).heap.size = B := hWe
  rw [hBs] at m1 hS5
  clear hWe hBs
  replace m1 : Mid w B w5 (.slice A5 M1 c5) (enc p1) := m1
  have hown5 : ∀ k, (Value.slice A5 M1 c5).ownBlock = some k → k < w5.heap.size := fun k hk => (m1.row.lt k hk).2
  obtain ⟨q0, q1, q2, q3, q4, q5, q6, q7⟩ := hX.b4.get8
  obtain ⟨z0, z1⟩ := hX.b5.get2
  go_wp2_with fail
  refine (hL2 _).mono ?_
  rintro e w6 ⟨A6, c6, rfl, ho6⟩
  clear q0 q1 q2 q3 q4 q5 q6 q7 z0 z1 hL2
  go_upto_region 11 with fail
  have hal : Below w6.heap.size w6 (w6.alloc (.cells #[.int .u64 (v : Int), .int .i64 (y.lead : Int), .int .i64 (y.len : Int)] 63)) := by repeat (first | with_reducible exact Below.refl _ _ | assumption | with_reducible refine Below.drew ?_ | with_reducible refine Below.alloc ?_ (by (first | assumption | omega | (simp; done) | (simp; omega))) _)
  have b11 := (BoxL.new w6 [.int .u64 (v : Int), .int .i64 (y.lead : Int), .int .i64 (y.len : Int)] 63)
  have hbb := ho6.bel.trans (hal.mono ho6.bel.size)
  have hr6 := (ho6.rd.below hal).more hal.size
  have hM1 := hX.hi
  have hg11 : B ≤ w6.heap.size := Nat.le_trans hX.hi ho6.bel.size
  have hne : (Value.slice A5 M1 c5).ownBlock ≠ some w6.heap.size := fun e => by have h1 := hown5 _ e; have h2 := ho6.bel.size; omega
  replace m1 := m1.on hbb
  replace hX := hX.below hbb hM1
  clear ho6 hal hbb hM1
  generalize w6.alloc (.cells #[.int .u64 (v : Int), .int .i64 (y.lead : Int), .int .i64 (y.len : Int)] 63) = W6 at *
  generalize w6.heap.size = g11 at *
  have hn11 : g11 ≠ w.heap.size + 1 + 1 := by have := hX.lo; omega
  replace hX := hX.drew
  replace m1 : Mid w B W6.drew (.slice A5 M1 c5) (enc p1) := ⟨m1.row, m1.bel.drew, m1.le⟩
  replace b11 := b11.drew
  replace hr6 := hr6.drew
  go_cut [6, 8] (fun x6 x8 wx => x8 = .int .i64 0 ∧ Own w wx x6 (enc (p1 ++ p2)) ∧ BoxL wx (w.heap.size + 1 + 1) [.int .i64 (s'.n : Int), .int .i64 s'.t, .int .i64 s'.d, .int .u64 (s'.v : Int), .int .u64 (s'.e : Int), .int .u64 (s'.x.prev : Int), .int .i64 (s'.x.lead : Int), .int .i64 (s'.x.len : Int)])
  case first =>
    have q0 := hX.cells
    have r0 := b11.get3
    go_region_held3 (fun w' => ((w'.cell? ⟨w.heap.size, 0, none⟩ = some (.int .i64 (s.n : Int)) ∧ w'.cell? ⟨w.heap.size, 1, none⟩ = some (.int .i64 s.t) ∧ w'.cell? ⟨w.heap.size, 2, none⟩ = some (.int .i64 s.d) ∧ w'.cell? ⟨w.heap.size, 3, none⟩ = some (.int .u64 (s.v : Int)) ∧ w'.cell? ⟨w.heap.size, 4, none⟩ = some (.int .u64 (s.e : Int)) ∧ w'.cell? ⟨w.heap.size, 5, none⟩ = some (.int .u64 (s.x.prev : Int)) ∧ w'.cell? ⟨w.heap.size, 6, none⟩ = some (.int .i64 (s.x.lead : Int)) ∧ w'.cell? ⟨w.heap.size, 7, none⟩ = some (.int .i64 (s.x.len : Int))) ∧ (w'.cell? ⟨w.heap.size + 1, 0, none⟩ = some (.int .i64 t) ∧ w'.cell? ⟨w.heap.size + 1, 1, none⟩ = some (.int .u64 (v : Int)))) ∧ (w'.cell? ⟨g11, 0, none⟩ = some (.int .u64 (v : Int)) ∧ w'.cell? ⟨g11, 1, none⟩ = some (.int .i64 (y.lead : Int)) ∧ w'.cell? ⟨g11, 2, none⟩ = some (.int .i64 (y.len : Int))))
      (with_reducible first | exact ⟨hX.cells, b11.get3⟩ | exact ⟨(hX.set7 _ _ _ _ _ _ _ _).cells, (b11.oth8 hn11 _ _ _ _ _ _ _ _).get3⟩) (first
      | (go_at_call 37; (with_reducible refine (hAF _).mono ?_); rintro e w8 ⟨rfl, HB⟩; have hM8 := hX.hi; replace hX := hX.below HB hM8; replace m7 := m7.on HB; replace b11 := b11.below HB; clear HB; obtain ⟨u70, u71, u72, u73, u74, u75, u76, u77⟩ := hX.b7.get8; obtain ⟨v70, v71, v72, v73, v74, v75, v76, v77⟩ := hX.b7.free8)
      | (refine step_appM (by rfl) (.tmp 81) (.tmp 82) (by rfl) (by rfl) (by rfl) m1 hX.hi hr6 (by rw [enc_length, HM1.out]; omega) ?_; intro v7 w7 m7 hb7 hg7; replace hX := hX.below hb7 (Nat.le_refl _); replace b11 := b11.grown hg7 hne; clear hr6 m1 hg7))
    all_goals
      clear q0 r0 u70 u71 u72 u73 u74 u75 u76 u77 v70 v71 v72 v73 v74 v75 v76 v77 hAF
      go_wp2_with fail
      go_meet
      rw [← enc_app] at m7
      have hlo := hX.lo
      exact ⟨rfl, (m7.set8 (by omega) (by omega) _ _ _ _ _ _ _ _).own, (hX.set7 _ _ _ _ _ _ _ _).b7⟩
  case rest =>
    obtain ⟨rfl, ho, b7⟩ := hcut
    obtain ⟨A6, c6, rfl⟩ := own_form ho
    obtain ⟨d0, d1, d2, d3, d4, d5, d6, d7⟩ := b7.get8
    go_wp2
    refine bodyPost_ret (v := .tuple #[.slice A6 (p1 ++ p2).length c6, (.agg #[.int .i64 (s'.n : Int), .int .i64 s'.t, .int .i64 s'.d, .int .u64 (s'.v : Int), .int .u64 (s'.e : Int), .int .u64 (s'.x.prev : Int), .int .i64 (s'.x.lead : Int), .int .i64 (s'.x.len : Int)]), .int .i64 0]) ?_ rfl ⟨A6, c6, rfl, ho⟩
    simp [results, Tryd.results27, go_sem, d0, d1, d2, d3, d4, d5, d6, d7]

/-- for any state and any sample that may stand behind it -/
theorem rput_yes (k : Nat) (s : KS) (t : Int) (v : Nat) (w : World) (hk : k = 1 ∨ k = 2) (hs : s.May) (hn : s.n ≤ 1000000) (hv : v ≤ 18446744073709551615) (hr : risesK s t = true) :
    Calls Tryd.prog 27 #[.int .i64 (k : Int), (.agg #[.int .i64 (s.n : Int), .int .i64 s.t, .int .i64 s.d, .int .u64 (s.v : Int), .int .u64 (s.e : Int), .int .u64 (s.x.prev : Int), .int .i64 (s.x.lead : Int), .int .i64 (s.x.len : Int)]), (.agg #[.int .i64 t, .int .u64 (v : Int)])] w (RetRP w (putK k s t v) (nextK k s t v)) := by
  by_cases h0 : s.n = 0
  · exact rput_first k s t v w hk hv h0
  · rcases hk with rfl | rfl
    · exact rput_xor s t v w hs hn hv h0 hr
    · exact rput_ints s t v w hn h0 hr

end Go.Proofs.YtkndoalnlldolaaDoor
