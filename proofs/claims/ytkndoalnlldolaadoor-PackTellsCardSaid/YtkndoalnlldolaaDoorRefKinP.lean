/-
  The contract of the reference's PutSample: the first sample, and what is amiss.
-/
import Derived.Test.YtkndoalnlldolaaDoorRefKin
import Derived.Test.YtkndoalnlldolaaDoorRefXor
namespace Go.Proofs.YtkndoalnlldolaaDoor
open Go.RowKit

set_option maxRecDepth 20000 in
set_option maxHeartbeats 1000000 in
theorem rput_kind (z : Int) (s : KS) (t : Int) (v : Nat) (w : World) (h1 : (z != 1) = true) (h2 : (z != 2) = true) :
    Calls Tryd.prog 27 #[.int .i64 z, (.agg #[.int .i64 (s.n : Int), .int .i64 s.t, .int .i64 s.d, .int .u64 (s.v : Int), .int .u64 (s.e : Int), .int .u64 (s.x.prev : Int), .int .i64 (s.x.lead : Int), .int .i64 (s.x.len : Int)]), (.agg #[.int .i64 t, .int .u64 (v : Int)])] w fun e w' => e = .returned (.tuple #[.slice none 0 0, (.agg #[.int .i64 0, .int .i64 0, .int .i64 0, .int .u64 0, .int .u64 0, .int .u64 0, .int .i64 0, .int .i64 0]), .int .i64 6]) ∧ Below w.heap.size w w' := by
  go_enter Tryd.func27, Tryd.ntmps27
  go_wp2
  go_returns
  exact ⟨rfl, by repeat (first | with_reducible exact Below.refl _ _ | assumption | with_reducible refine Below.drew ?_ | with_reducible refine Below.alloc ?_ (by (first | assumption | omega | (simp; done) | (simp; omega))) _)⟩
set_option maxRecDepth 20000 in
set_option maxHeartbeats 1000000 in
theorem rput_order (k : Nat) (s : KS) (t : Int) (v : Nat) (w : World) (hk : k = 1 ∨ k = 2) (hr : risesK s t = false) :
    Calls Tryd.prog 27 #[.int .i64 (k : Int), (.agg #[.int .i64 (s.n : Int), .int .i64 s.t, .int .i64 s.d, .int .u64 (s.v : Int), .int .u64 (s.e : Int), .int .u64 (s.x.prev : Int), .int .i64 (s.x.lead : Int), .int .i64 (s.x.len : Int)]), (.agg #[.int .i64 t, .int .u64 (v : Int)])] w fun e w' => e = .returned (.tuple #[.slice none 0 0, (.agg #[.int .i64 0, .int .i64 0, .int .i64 0, .int .u64 0, .int .u64 0, .int .u64 0, .int .i64 0, .int .i64 0]), .int .i64 4]) ∧ Below w.heap.size w w' := by
  have h0 : s.n ≠ 0 := by intro h; unfold risesK at hr; simp [h] at hr
  have h1 : ((s.n : Int) == 0) = false := by simp [h0]
  have h2 : t ≤ s.t := by unfold risesK at hr; simp [h0] at hr; exact hr
  clear h0
  rcases hk with rfl | rfl
  all_goals
    go_enter Tryd.func27, Tryd.ntmps27
    go_wp2
    go_returns
    exact ⟨rfl, by repeat (first | with_reducible exact Below.refl _ _ | assumption | with_reducible refine Below.drew ?_ | with_reducible refine Below.alloc ?_ (by (first | assumption | omega | (simp; done) | (simp; omega))) _)⟩

/-- the world behind PutSample's three boxes -/
def rworld (w : World) (s : KS) (t : Int) (v : Nat) : World := ((w.alloc (.cells #[.int .i64 (s.n : Int), .int .i64 s.t, .int .i64 s.d, .int .u64 (s.v : Int), .int .u64 (s.e : Int), .int .u64 (s.x.prev : Int), .int .i64 (s.x.lead : Int), .int .i64 (s.x.len : Int)] 65)).alloc (.cells #[.int .i64 t, .int .u64 (v : Int)] 44)).alloc (.cells #[.int .i64 0, .int .i64 0, .int .i64 0, .int .u64 0, .int .u64 0, .int .u64 0, .int .i64 0, .int .i64 0] 65)
/-- what lies in PutSample's boxes -/
structure RX (w X : World) (s : KS) (t : Int) (v B : Nat) (l7 : List Value) : Prop where
  bel : Below w.heap.size w X
  b4 : BoxL X w.heap.size [.int .i64 (s.n : Int), .int .i64 s.t, .int .i64 s.d, .int .u64 (s.v : Int), .int .u64 (s.e : Int), .int .u64 (s.x.prev : Int), .int .i64 (s.x.lead : Int), .int .i64 (s.x.len : Int)]
  b5 : BoxL X (w.heap.size + 1) [.int .i64 t, .int .u64 (v : Int)]
  b7 : BoxL X (w.heap.size + 1 + 1) l7
  lo : w.heap.size + 1 + 1 < B
  hi : B ≤ X.heap.size
theorem rworld_is (w : World) (s : KS) (t : Int) (v : Nat) : RX w (rworld w s t v) s t v (rworld w s t v).heap.size [.int .i64 0, .int .i64 0, .int .i64 0, .int .u64 0, .int .u64 0, .int .u64 0, .int .i64 0, .int .i64 0] := by
  have h5 := ((BoxL.new w [.int .i64 (s.n : Int), .int .i64 s.t, .int .i64 s.d, .int .u64 (s.v : Int), .int .u64 (s.e : Int), .int .u64 (s.x.prev : Int), .int .i64 (s.x.lead : Int), .int .i64 (s.x.len : Int)] 65).onA (.cells #[.int .i64 t, .int .u64 (v : Int)] 44)).onA (.cells #[.int .i64 0, .int .i64 0, .int .i64 0, .int .u64 0, .int .u64 0, .int .u64 0, .int .i64 0, .int .i64 0] 65)
  have h8 := (BoxL.new (w.alloc (.cells #[.int .i64 (s.n : Int), .int .i64 s.t, .int .i64 s.d, .int .u64 (s.v : Int), .int .u64 (s.e : Int), .int .u64 (s.x.prev : Int), .int .i64 (s.x.lead : Int), .int .i64 (s.x.len : Int)] 65)) [.int .i64 t, .int .u64 (v : Int)] 44).onA (.cells #[.int .i64 0, .int .i64 0, .int .i64 0, .int .u64 0, .int .u64 0, .int .u64 0, .int .i64 0, .int .i64 0] 65)
  have h9 := BoxL.new ((w.alloc (.cells #[.int .i64 (s.n : Int), .int .i64 s.t, .int .i64 s.d, .int .u64 (s.v : Int), .int .u64 (s.e : Int), .int .u64 (s.x.prev : Int), .int .i64 (s.x.lead : Int), .int .i64 (s.x.len : Int)] 65)).alloc (.cells #[.int .i64 t, .int .u64 (v : Int)] 44)) [.int .i64 0, .int .i64 0, .int .i64 0, .int .u64 0, .int .u64 0, .int .u64 0, .int .i64 0, .int .i64 0] 65
  simp only [World.size_alloc] at h8 h9
  unfold rworld
  exact ⟨by repeat (first | with_reducible exact Below.refl _ _ | assumption | with_reducible refine Below.drew ?_ | with_reducible refine Below.alloc ?_ (by (first | assumption | omega | (simp; done) | (simp; omega))) _), h5, h8, h9, by simp, Nat.le_refl _⟩
section
variable {w X X' : World} {s : KS} {t : Int} {v B C : Nat} {l7 : List Value}
theorem RX.below (h : RX w X s t v B l7) (hb : Below C X X') (hC : B ≤ C) : RX w X' s t v B l7 :=
  have h1 := h.lo
  have h2 := h.hi
  ⟨h.bel.trans (hb.mono (by omega)), h.b4.belowB hb (by omega), h.b5.belowB hb (by omega), h.b7.belowB hb (by omega), h.lo, Nat.le_trans h.hi hb.size⟩
theorem RX.drew (h : RX w X s t v B l7) : RX w X.drew s t v B l7 := ⟨h.bel.drew, h.b4.drew, h.b5.drew, h.b7.drew, h.lo, h.hi⟩
theorem RX.set7 {x0 x1 x2 x3 x4 x5 x6 x7 : Value} (h : RX w X s t v B [x0, x1, x2, x3, x4, x5, x6, x7]) (u0 u1 u2 u3 u4 u5 u6 u7 : Value) : RX w ((((((((X.setCell ⟨w.heap.size + 1 + 1, 0, none⟩ (u0)).setCell ⟨w.heap.size + 1 + 1, 1, none⟩ (u1)).setCell ⟨w.heap.size + 1 + 1, 2, none⟩ (u2)).setCell ⟨w.heap.size + 1 + 1, 3, none⟩ (u3)).setCell ⟨w.heap.size + 1 + 1, 4, none⟩ (u4)).setCell ⟨w.heap.size + 1 + 1, 5, none⟩ (u5)).setCell ⟨w.heap.size + 1 + 1, 6, none⟩ (u6)).setCell ⟨w.heap.size + 1 + 1, 7, none⟩ (u7)) s t v B [u0, u1, u2, u3, u4, u5, u6, u7] :=
  ⟨below_set8 h.bel (by omega) _ _ _ _ _ _ _ _, h.b4.oth8 (by omega) _ _ _ _ _ _ _ _, h.b5.oth8 (by omega) _ _ _ _ _ _ _ _, h.b7.all8 _ _ _ _ _ _ _ _, h.lo, by simpa using h.hi⟩
theorem RX.cells (h : RX w X s t v B l7) : (X.cell? ⟨w.heap.size, 0, none⟩ = some (.int .i64 (s.n : Int)) ∧ X.cell? ⟨w.heap.size, 1, none⟩ = some (.int .i64 s.t) ∧ X.cell? ⟨w.heap.size, 2, none⟩ = some (.int .i64 s.d) ∧ X.cell? ⟨w.heap.size, 3, none⟩ = some (.int .u64 (s.v : Int)) ∧ X.cell? ⟨w.heap.size, 4, none⟩ = some (.int .u64 (s.e : Int)) ∧ X.cell? ⟨w.heap.size, 5, none⟩ = some (.int .u64 (s.x.prev : Int)) ∧ X.cell? ⟨w.heap.size, 6, none⟩ = some (.int .i64 (s.x.lead : Int)) ∧ X.cell? ⟨w.heap.size, 7, none⟩ = some (.int .i64 (s.x.len : Int))) ∧ (X.cell? ⟨w.heap.size + 1, 0, none⟩ = some (.int .i64 t) ∧ X.cell? ⟨w.heap.size + 1, 1, none⟩ = some (.int .u64 (v : Int))) := ⟨h.b4.get8, h.b5.get2⟩
end

set_option maxRecDepth 20000 in
set_option maxHeartbeats 4000000 in
theorem rput_first (k : Nat) (s : KS) (t : Int) (v : Nat) (w : World) (hk : k = 1 ∨ k = 2) (hv : v ≤ 18446744073709551615) (h0 : s.n = 0) :
    Calls Tryd.prog 27 #[.int .i64 (k : Int), (.agg #[.int .i64 (s.n : Int), .int .i64 s.t, .int .i64 s.d, .int .u64 (s.v : Int), .int .u64 (s.e : Int), .int .u64 (s.x.prev : Int), .int .i64 (s.x.lead : Int), .int .i64 (s.x.len : Int)]), (.agg #[.int .i64 t, .int .u64 (v : Int)])] w (RetRP w (putK k s t v) (nextK k s t v)) := by
  have hX := rworld_is w s t v
  have h1 : ((s.n : Int) == 0) = true := by simp [h0]
  have huw : IntKind.u64.wrap t = ((un64 t : Nat) : Int) := by rw [u64_mod, un64_cast]
  have HQ : Hid (putK k s t v = low (un64 t) 64 ++ low v 64) := Lib.hid (by unfold putK timeK valK; rw [if_pos h0, if_pos h0])
  have HN : Hid (afterK k s t v zeroX = nextK k s t v) := Lib.hid (by unfold nextK afterK; rw [if_pos h0, if_pos h0])
  have hL1 : ∀ X, Calls Tryd.prog 36 #[.int .u64 ((un64 t : Nat) : Int), .int .i64 64] X (RetB X (enc (low (un64 t) 64))) := fun X => low_any (un64 t) 64 X (un64_lt t) (by omega)
  have hL2 : ∀ X, Calls Tryd.prog 36 #[.int .u64 (v : Int), .int .i64 64] X (RetB X (enc (low v 64))) := fun X => low_any v 64 X hv (by omega)
  have hAF : ∀ X, Calls Tryd.prog 37 #[.int .i64 (k : Int), (.agg #[.int .i64 (s.n : Int), .int .i64 s.t, .int .i64 s.d, .int .u64 (s.v : Int), .int .u64 (s.e : Int), .int .u64 (s.x.prev : Int), .int .i64 (s.x.lead : Int), .int .i64 (s.x.len : Int)]), (.agg #[.int .i64 t, .int .u64 (v : Int)]), .agg #[.int .u64 0, .int .i64 0, .int .i64 0]] X fun e w' => e = .returned (.agg #[.int .i64 ((nextK k s t v).n : Int), .int .i64 (nextK k s t v).t, .int .i64 (nextK k s t v).d, .int .u64 ((nextK k s t v).v : Int), .int .u64 ((nextK k s t v).e : Int), .int .u64 ((nextK k s t v).x.prev : Int), .int .i64 ((nextK k s t v).x.lead : Int), .int .i64 ((nextK k s t v).x.len : Int)]) ∧ Below X.heap.size X w' := fun X => by
    rw [← HN.out]
    exact refafter_any k s t v zeroX X hk (by omega)
  have HP1 : Hid ((low (un64 t) 64).length = 64) := Lib.hid (low_length _ _)
  have HP2 : Hid ((low v 64).length = 64) := Lib.hid (low_length _ _)
  rw [HQ.out]
  generalize low (un64 t) 64 = p1 at *
  generalize low v 64 = p2 at *
  generalize nextK k s t v = s' at *
  have HL1 : Hid ((enc p1).length = 64) := Lib.hid (by rw [enc_length, HP1.out])
  have HL2 : Hid ((enc p2).length = 64) := Lib.hid (by rw [enc_length, HP2.out])
  unfold RetB at hL1 hL2
  rw [HL1.out] at hL1
  rw [HL2.out] at hL2
  have hk12 : (((k : Int) != 1) = false ∧ ((k : Int) == 1) = true) ∨ (((k : Int) != 1) = true ∧ ((k : Int) != 2) = false) := by rcases hk with rfl | rfl <;> simp
  clear h0 hk HQ HN
  rcases hk12 with ⟨hk1, hk2⟩ | ⟨hk1, hk2⟩
  all_goals
    go_enter Tryd.func27, Tryd.ntmps27
    go_upto_region 4 with fail
    generalize hWe : ((w.alloc (.cells #[.int .i64 (s.n : Int), .int .i64 s.t, .int .i64 s.d, .int .u64 (s.v : Int), .int .u64 (s.e : Int), .int .u64 (s.x.prev : Int), .int .i64 (s.x.lead : Int), .int .i64 (s.x.len : Int)] 65)).alloc (.cells #[.int .i64 t, .int .u64 (v : Int)] 44)).alloc (.cells #[.int .i64 0, .int .i64 0, .int .i64 0, .int .u64 0, .int .u64 0, .int .u64 0, .int .i64 0, .int .i64 0] 65) = W
    rw [show rworld w s t v = W from hWe] at hX
    clear hWe
    generalize W.heap.size = B at *
    replace hX := hX.drew
    go_cut [6, 8] (fun x6 x8 wx => x8 = .int .i64 0 ∧ Own w wx x6 (enc (p1 ++ p2)) ∧ BoxL wx (w.heap.size + 1 + 1) [.int .i64 (s'.n : Int), .int .i64 s'.t, .int .i64 s'.d, .int .u64 (s'.v : Int), .int .u64 (s'.e : Int), .int .u64 (s'.x.prev : Int), .int .i64 (s'.x.lead : Int), .int .i64 (s'.x.len : Int)])
    case first =>
      have q0 := hX.cells
      go_region_held3 (fun w' => (w'.cell? ⟨w.heap.size, 0, none⟩ = some (.int .i64 (s.n : Int)) ∧ w'.cell? ⟨w.heap.size, 1, none⟩ = some (.int .i64 s.t) ∧ w'.cell? ⟨w.heap.size, 2, none⟩ = some (.int .i64 s.d) ∧ w'.cell? ⟨w.heap.size, 3, none⟩ = some (.int .u64 (s.v : Int)) ∧ w'.cell? ⟨w.heap.size, 4, none⟩ = some (.int .u64 (s.e : Int)) ∧ w'.cell? ⟨w.heap.size, 5, none⟩ = some (.int .u64 (s.x.prev : Int)) ∧ w'.cell? ⟨w.heap.size, 6, none⟩ = some (.int .i64 (s.x.lead : Int)) ∧ w'.cell? ⟨w.heap.size, 7, none⟩ = some (.int .i64 (s.x.len : Int))) ∧ (w'.cell? ⟨w.heap.size + 1, 0, none⟩ = some (.int .i64 t) ∧ w'.cell? ⟨w.heap.size + 1, 1, none⟩ = some (.int .u64 (v : Int))))
        (with_reducible first | exact hX.cells | exact (hX.set7 _ _ _ _ _ _ _ _).cells) (first
        | (go_at_call 36; (with_reducible refine (hL1 _).mono ?_); rintro e w5 ⟨A5, c5, rfl, ho5⟩; have m1 := Mid.of ho5 hX.bel; have hB1 := hX.hi; have hS5 := ho5.bel.size; replace hX := hX.below ho5.bel hB1; clear ho5)
        | (go_at_call 36; (with_reducible refine (hL2 _).mono ?_); rintro e w6 ⟨A6, c6, rfl, ho6⟩; have hr6 := ho6.rd; have hC1 := ho6.bel.size; have hM1 := hX.hi; replace m1 := m1.on ho6.bel; replace hX := hX.below ho6.bel hM1; clear ho6)
        | (go_at_call 37; (with_reducible refine (hAF _).mono ?_); rintro e w8 ⟨rfl, HB⟩; have hM8 := hX.hi; replace hX := hX.below HB hM8; replace m7 := m7.on HB; clear HB; obtain ⟨u70, u71, u72, u73, u74, u75, u76, u77⟩ := hX.b7.get8; obtain ⟨v70, v71, v72, v73, v74, v75, v76, v77⟩ := hX.b7.free8)
        | (refine step_appM (by rfl) (.tmp 25) (.tmp 28) (by rfl) (by rfl) (by rfl) m1 (by omega) hr6 (by rw [HL1.out]; omega) ?_; intro v7 w7 m7 hb7 _; replace hX := hX.below hb7 (by first | assumption | omega); clear hr6 m1))
      all_goals
        clear q0 u70 u71 u72 u73 u74 u75 u76 u77 v70 v71 v72 v73 v74 v75 v76 v77 hAF hL1 hL2
        go_wp2_with fail
        go_meet
        rw [← enc_app] at m7
        have hlo := hX.lo
        exact ⟨rfl, (m7.set8 (by omega) (by omega) _ _ _ _ _ _ _ _).own, (hX.set7 _ _ _ _ _ _ _ _).b7⟩
    case rest =>
      obtain ⟨rfl, ho, b7⟩ := hcut
      obtain ⟨A6, c6, rfl⟩ := own_form ho
      obtain ⟨d0, d1, d2, d3, d4, d5, d6, d7⟩ := b7.get8
      go_wp2
      refine bodyPost_ret (v := .tuple #[.slice A6 (p1 ++ p2).length c6, (.agg #[.int .i64 (s'.n : Int), .int .i64 s'.t, .int .i64 s'.d, .int .u64 (s'.v : Int), .int .u64 (s'.e : Int), .int .u64 (s'.x.prev : Int), .int .i64 (s'.x.lead : Int), .int .i64 (s'.x.len : Int)]), .int .i64 0]) ?_ rfl ⟨A6, c6, rfl, ho⟩
      simp [results, Tryd.results27, go_sem, d0, d1, d2, d3, d4, d5, d6, d7]

end Go.Proofs.YtkndoalnlldolaaDoor
