/-
  Texts of this proof, one behind the other: RefKin, RefKin2, RefKin3, RefKin4.
-/
import Derived.Test.YtcnhoohcdkfgkaaDoorM7
import Derived.Test.YtcnhoohcdkfgkaaDoorM3
import Derived.Test.YtcnhoohcdkfgkaaDoorYRefGetDod
import Derived.Test.YtcnhoohcdkfgkaaDoorYRefXor
import Derived.Test.YtcnhoohcdkfgkaaDoorYRefGetX
import Derived.Test.YtcnhoohcdkfgkaaDoorM2
import Derived.Deep.RegionHeld3

/-
  The contracts of the reference's After and PutSample.
-/
namespace Go.Proofs.YtcnhoohcdkfgkaaDoor
open Go.RowKit

theorem refD_wrap (a b : Int) : wrap64 (IntKind.u64.wrap (IntKind.u64.wrap a - IntKind.u64.wrap b)) = w64 (a - b) := by
  rw [w64_wrap, u64_mod, u64_mod, u64_mod]
  unfold w64
  omega

set_option maxRecDepth 20000 in
set_option maxHeartbeats 1000000 in
theorem refafter_any (k : Nat) (s : KS) (t : Int) (v : Nat) (y : XS) (w : World) (hk : k = 1 ∨ k = 2) (hn : s.n ≤ 1000000) :
    Calls Tryd.prog 23 #[.int .i64 (k : Int), (.agg #[.int .i64 (s.n : Int), .int .i64 s.t, .int .i64 s.d, .int .u64 (s.v : Int), .int .u64 (s.e : Int), .int .u64 (s.x.prev : Int), .int .i64 (s.x.lead : Int), .int .i64 (s.x.len : Int)]), (.agg #[.int .i64 t, .int .u64 (v : Int)]), (.agg #[.int .u64 (y.prev : Int), .int .i64 (y.lead : Int), .int .i64 (y.len : Int)])] w fun e w' => e = .returned (.agg #[.int .i64 ((afterK k s t v y).n : Int), .int .i64 (afterK k s t v y).t, .int .i64 (afterK k s t v y).d, .int .u64 ((afterK k s t v y).v : Int), .int .u64 ((afterK k s t v y).e : Int), .int .u64 ((afterK k s t v y).x.prev : Int), .int .i64 ((afterK k s t v y).x.lead : Int), .int .i64 ((afterK k s t v y).x.len : Int)]) ∧ Below w.heap.size w w' := by
  have hw := refD_wrap t s.t
  have hu : IntKind.u64.wrap ((v : Int) - (s.v : Int)) = ((un64 ((v : Int) - (s.v : Int)) : Nat) : Int) := by rw [u64_mod, un64_cast]
  have hsn : IntKind.i64.wrap ((s.n : Int) + 1) = (s.n : Int) + 1 := by rw [IntKind.wrap_i64]; omega
  by_cases h0 : s.n = 0
  · have h1 : ((s.n : Int) == 0) = true := by simp [h0]
    have hs1 : (s.n : Int) + 1 = 1 := by omega
    rcases hk with rfl | rfl
    · have HA : Hid (afterK 1 s t v y = ⟨s.n + 1, t, 0, v, 0, ⟨v, 0, 0⟩⟩) := Lib.hid (by unfold afterK; rw [if_pos h0, h0]; rfl)
      rw [HA.out]
      clear h0 hs1
      go_enter Tryd.func23, Tryd.ntmps23
      go_wp2
      go_returns
      exact ⟨rfl, by repeat (first | with_reducible exact Below.refl _ _ | assumption | with_reducible refine Below.drew ?_ | with_reducible refine Below.alloc ?_ (by (first | assumption | omega | (simp; done) | (simp; omega))) _)⟩
    · have HA : Hid (afterK 2 s t v y = ⟨s.n + 1, t, 0, v, 0, zeroX⟩) := Lib.hid (by unfold afterK; rw [if_pos h0, h0]; rfl)
      rw [HA.out]
      clear h0 hs1
      go_enter Tryd.func23, Tryd.ntmps23
      go_wp2
      go_returns
      exact ⟨rfl, by repeat (first | with_reducible exact Below.refl _ _ | assumption | with_reducible refine Below.drew ?_ | with_reducible refine Below.alloc ?_ (by (first | assumption | omega | (simp; done) | (simp; omega))) _)⟩
  · have h1 : ((s.n : Int) == 0) = false := by simp [h0]
    rcases hk with rfl | rfl
    · have HA : Hid (afterK 1 s t v y = ⟨s.n + 1, t, w64 (t - s.t), v, 0, y⟩) := Lib.hid (by unfold afterK; rw [if_neg h0]; rfl)
      rw [HA.out]
      clear h0
      go_enter Tryd.func23, Tryd.ntmps23
      go_wp2
      go_returns
      exact ⟨rfl, by repeat (first | with_reducible exact Below.refl _ _ | assumption | with_reducible refine Below.drew ?_ | with_reducible refine Below.alloc ?_ (by (first | assumption | omega | (simp; done) | (simp; omega))) _)⟩
    · have HA : Hid (afterK 2 s t v y = ⟨s.n + 1, t, w64 (t - s.t), v, un64 ((v : Int) - (s.v : Int)), zeroX⟩) := Lib.hid (by unfold afterK; rw [if_neg h0]; rfl)
      rw [HA.out]
      clear h0
      go_enter Tryd.func23, Tryd.ntmps23
      go_wp2
      go_returns
      exact ⟨rfl, by repeat (first | with_reducible exact Below.refl _ _ | assumption | with_reducible refine Below.drew ?_ | with_reducible refine Below.alloc ?_ (by (first | assumption | omega | (simp; done) | (simp; omega))) _)⟩

/-- what PutSample comes to -/
def RetRP (w : World) (p : List Bool) (s : KS) (e : Ending) (w' : World) : Prop :=
  ∃ A c, e = .returned (.tuple #[.slice A p.length c, (.agg #[.int .i64 (s.n : Int), .int .i64 s.t, .int .i64 s.d, .int .u64 (s.v : Int), .int .u64 (s.e : Int), .int .u64 (s.x.prev : Int), .int .i64 (s.x.lead : Int), .int .i64 (s.x.len : Int)]), .int .i64 0]) ∧ Own w w' (.slice A p.length c) (enc p)
theorem own_form {w0 w : World} {v : Value} {p : List Bool} (h : Own w0 w v (enc p)) : ∃ A c, v = .slice A p.length c := by
  obtain ⟨A, c, e, _⟩ := h.form
  rw [enc_length] at e
  exact ⟨A, c, e⟩

set_option maxRecDepth 20000 in
set_option maxHeartbeats 1000000 in
theorem rput_kind (z : Int) (s : KS) (t : Int) (v : Nat) (w : World) (h1 : (z != 1) = true) (h2 : (z != 2) = true) :
    Calls Tryd.prog 7 #[.int .i64 z, (.agg #[.int .i64 (s.n : Int), .int .i64 s.t, .int .i64 s.d, .int .u64 (s.v : Int), .int .u64 (s.e : Int), .int .u64 (s.x.prev : Int), .int .i64 (s.x.lead : Int), .int .i64 (s.x.len : Int)]), (.agg #[.int .i64 t, .int .u64 (v : Int)])] w fun e w' => e = .returned (.tuple #[.slice none 0 0, (.agg #[.int .i64 0, .int .i64 0, .int .i64 0, .int .u64 0, .int .u64 0, .int .u64 0, .int .i64 0, .int .i64 0]), .int .i64 6]) ∧ Below w.heap.size w w' := by
  go_enter Tryd.func7, Tryd.ntmps7
  go_wp2
  go_returns
  exact ⟨rfl, by repeat (first | with_reducible exact Below.refl _ _ | assumption | with_reducible refine Below.drew ?_ | with_reducible refine Below.alloc ?_ (by (first | assumption | omega | (simp; done) | (simp; omega))) _)⟩
set_option maxRecDepth 20000 in
set_option maxHeartbeats 1000000 in
theorem rput_order (k : Nat) (s : KS) (t : Int) (v : Nat) (w : World) (hk : k = 1 ∨ k = 2) (hr : risesK s t = false) :
    Calls Tryd.prog 7 #[.int .i64 (k : Int), (.agg #[.int .i64 (s.n : Int), .int .i64 s.t, .int .i64 s.d, .int .u64 (s.v : Int), .int .u64 (s.e : Int), .int .u64 (s.x.prev : Int), .int .i64 (s.x.lead : Int), .int .i64 (s.x.len : Int)]), (.agg #[.int .i64 t, .int .u64 (v : Int)])] w fun e w' => e = .returned (.tuple #[.slice none 0 0, (.agg #[.int .i64 0, .int .i64 0, .int .i64 0, .int .u64 0, .int .u64 0, .int .u64 0, .int .i64 0, .int .i64 0]), .int .i64 4]) ∧ Below w.heap.size w w' := by
  have h0 : s.n ≠ 0 := by intro h; unfold risesK at hr; simp [h] at hr
  have h1 : ((s.n : Int) == 0) = false := by simp [h0]
  have h2 : t ≤ s.t := by unfold risesK at hr; simp [h0] at hr; exact hr
  clear h0
  rcases hk with rfl | rfl
  all_goals
    go_enter Tryd.func7, Tryd.ntmps7
    go_wp2
    go_returns
    exact ⟨rfl, by repeat (first | with_reducible exact Below.refl _ _ | assumption | with_reducible refine Below.drew ?_ | with_reducible refine Below.alloc ?_ (by (first | assumption | omega | (simp; done) | (simp; omega))) _)⟩

/-- the world behind PutSample's three boxes -/
def rworld (w : World) (s : KS) (t : Int) (v : Nat) : World := ((w.alloc (.cells #[.int .i64 (s.n : Int), .int .i64 s.t, .int .i64 s.d, .int .u64 (s.v : Int), .int .u64 (s.e : Int), .int .u64 (s.x.prev : Int), .int .i64 (s.x.lead : Int), .int .i64 (s.x.len : Int)] 32)).alloc (.cells #[.int .i64 t, .int .u64 (v : Int)] 40)).alloc (.cells #[.int .i64 0, .int .i64 0, .int .i64 0, .int .u64 0, .int .u64 0, .int .u64 0, .int .i64 0, .int .i64 0] 32)
/-- what lies in PutSample's boxes -/
structure RX (w X : World) (s : KS) (t : Int) (v B : Nat) (l7 : List Value) : Prop where
  bel : Below w.heap.size w X
  b4 : BoxL X w.heap.size [.int .i64 (s.n : Int), .int .i64 s.t, .int .i64 s.d, .int .u64 (s.v : Int), .int .u64 (s.e : Int), .int .u64 (s.x.prev : Int), .int .i64 (s.x.lead : Int), .int .i64 (s.x.len : Int)]
  b5 : BoxL X (w.heap.size + 1) [.int .i64 t, .int .u64 (v : Int)]
  b7 : BoxL X (w.heap.size + 1 + 1) l7
  lo : w.heap.size + 1 + 1 < B
  hi : B ≤ X.heap.size
theorem rworld_is (w : World) (s : KS) (t : Int) (v : Nat) : RX w (rworld w s t v) s t v (rworld w s t v).heap.size [.int .i64 0, .int .i64 0, .int .i64 0, .int .u64 0, .int .u64 0, .int .u64 0, .int .i64 0, .int .i64 0] := by
  have h5 := ((BoxL.new w [.int .i64 (s.n : Int), .int .i64 s.t, .int .i64 s.d, .int .u64 (s.v : Int), .int .u64 (s.e : Int), .int .u64 (s.x.prev : Int), .int .i64 (s.x.lead : Int), .int .i64 (s.x.len : Int)] 32).onA (.cells #[.int .i64 t, .int .u64 (v : Int)] 40)).onA (.cells #[.int .i64 0, .int .i64 0, .int .i64 0, .int .u64 0, .int .u64 0, .int .u64 0, .int .i64 0, .int .i64 0] 32)
  have h8 := (BoxL.new (w.alloc (.cells #[.int .i64 (s.n : Int), .int .i64 s.t, .int .i64 s.d, .int .u64 (s.v : Int), .int .u64 (s.e : Int), .int .u64 (s.x.prev : Int), .int .i64 (s.x.lead : Int), .int .i64 (s.x.len : Int)] 32)) [.int .i64 t, .int .u64 (v : Int)] 40).onA (.cells #[.int .i64 0, .int .i64 0, .int .i64 0, .int .u64 0, .int .u64 0, .int .u64 0, .int .i64 0, .int .i64 0] 32)
  have h9 := BoxL.new ((w.alloc (.cells #[.int .i64 (s.n : Int), .int .i64 s.t, .int .i64 s.d, .int .u64 (s.v : Int), .int .u64 (s.e : Int), .int .u64 (s.x.prev : Int), .int .i64 (s.x.lead : Int), .int .i64 (s.x.len : Int)] 32)).alloc (.cells #[.int .i64 t, .int .u64 (v : Int)] 40)) [.int .i64 0, .int .i64 0, .int .i64 0, .int .u64 0, .int .u64 0, .int .u64 0, .int .i64 0, .int .i64 0] 32
  simp only [World.size_alloc] at h8 h9
  unfold rworld
  exact ⟨by repeat (first | with_reducible exact Below.refl _ _ | assumption | with_reducible refine Below.drew ?_ | with_reducible refine Below.alloc ?_ (by (first | assumption | omega | (simp; done) | (simp; omega))) _), h5, h8, h9, by simp, Nat.le_refl _⟩
section
variable {w X X' : World} {s : KS} {t : Int} {v B C : Nat} {l7 : List Value}
theorem RX.below (h : RX w X s t v B l7) (hb : Below C X X') (hC : B ≤ C) : RX w X' s t v B l7 :=
  have h1 := h.lo
  have h2 := h.hi
  ⟨h.bel.trans (hb.mono (by omega)), h.b4.belowB hb (by omega), h.b5.belowB hb (by omega), h.b7.belowB hb (by omega), h.lo, Nat.le_trans h.hi hb.size⟩
theorem RX.drew (h : RX w X s t v B l7) : RX w X.drew s t v B l7 := ⟨h.bel.drew, h.b4.drew, h.b5.drew, h.b7.drew, h.lo, h.hi⟩
theorem RX.set7 {x0 x1 x2 x3 x4 x5 x6 x7 : Value} (h : RX w X s t v B [x0, x1, x2, x3, x4, x5, x6, x7]) (u0 u1 u2 u3 u4 u5 u6 u7 : Value) : RX w ((((((((X.setCell ⟨w.heap.size + 1 + 1, 0, none⟩ (u0)).setCell ⟨w.heap.size + 1 + 1, 1, none⟩ (u1)).setCell ⟨w.heap.size + 1 + 1, 2, none⟩ (u2)).setCell ⟨w.heap.size + 1 + 1, 3, none⟩ (u3)).setCell ⟨w.heap.size + 1 + 1, 4, none⟩ (u4)).setCell ⟨w.heap.size + 1 + 1, 5, none⟩ (u5)).setCell ⟨w.heap.size + 1 + 1, 6, none⟩ (u6)).setCell ⟨w.heap.size + 1 + 1, 7, none⟩ (u7)) s t v B [u0, u1, u2, u3, u4, u5, u6, u7] :=
  ⟨below_set8 h.bel (by omega) _ _ _ _ _ _ _ _, h.b4.oth8 (by omega) _ _ _ _ _ _ _ _, h.b5.oth8 (by omega) _ _ _ _ _ _ _ _, h.b7.all8 _ _ _ _ _ _ _ _, h.lo, by simpa using h.hi⟩
theorem RX.cells (h : RX w X s t v B l7) : (X.cell? ⟨w.heap.size, 0, none⟩ = some (.int .i64 (s.n : Int)) ∧ X.cell? ⟨w.heap.size, 1, none⟩ = some (.int .i64 s.t) ∧ X.cell? ⟨w.heap.size, 2, none⟩ = some (.int .i64 s.d) ∧ X.cell? ⟨w.heap.size, 3, none⟩ = some (.int .u64 (s.v : Int)) ∧ X.cell? ⟨w.heap.size, 4, none⟩ = some (.int .u64 (s.e : Int)) ∧ X.cell? ⟨w.heap.size, 5, none⟩ = some (.int .u64 (s.x.prev : Int)) ∧ X.cell? ⟨w.heap.size, 6, none⟩ = some (.int .i64 (s.x.lead : Int)) ∧ X.cell? ⟨w.heap.size, 7, none⟩ = some (.int .i64 (s.x.len : Int))) ∧ (X.cell? ⟨w.heap.size + 1, 0, none⟩ = some (.int .i64 t) ∧ X.cell? ⟨w.heap.size + 1, 1, none⟩ = some (.int .u64 (v : Int))) := ⟨h.b4.get8, h.b5.get2⟩
end

set_option maxRecDepth 20000 in
set_option maxHeartbeats 4000000 in
theorem rput_first (k : Nat) (s : KS) (t : Int) (v : Nat) (w : World) (hk : k = 1 ∨ k = 2) (hv : v ≤ 18446744073709551615) (h0 : s.n = 0) :
    Calls Tryd.prog 7 #[.int .i64 (k : Int), (.agg #[.int .i64 (s.n : Int), .int .i64 s.t, .int .i64 s.d, .int .u64 (s.v : Int), .int .u64 (s.e : Int), .int .u64 (s.x.prev : Int), .int .i64 (s.x.lead : Int), .int .i64 (s.x.len : Int)]), (.agg #[.int .i64 t, .int .u64 (v : Int)])] w (RetRP w (putK k s t v) (nextK k s t v)) := by
  have hX := rworld_is w s t v
  have h1 : ((s.n : Int) == 0) = true := by simp [h0]
  have huw : IntKind.u64.wrap t = ((un64 t : Nat) : Int) := by rw [u64_mod, un64_cast]
  have HQ : Hid (putK k s t v = low (un64 t) 64 ++ low v 64) := Lib.hid (by unfold putK timeK valK; rw [if_pos h0, if_pos h0])
  have HN : Hid (afterK k s t v zeroX = nextK k s t v) := Lib.hid (by unfold nextK afterK; rw [if_pos h0, if_pos h0])
  have hL1 : ∀ X, Calls Tryd.prog 22 #[.int .u64 ((un64 t : Nat) : Int), .int .i64 64] X (RetB X (enc (low (un64 t) 64))) := fun X => low_any (un64 t) 64 X (un64_lt t) (by omega)
  have hL2 : ∀ X, Calls Tryd.prog 22 #[.int .u64 (v : Int), .int .i64 64] X (RetB X (enc (low v 64))) := fun X => low_any v 64 X hv (by omega)
  have hAF : ∀ X, Calls Tryd.prog 23 #[.int .i64 (k : Int), (.agg #[.int .i64 (s.n : Int), .int .i64 s.t, .int .i64 s.d, .int .u64 (s.v : Int), .int .u64 (s.e : Int), .int .u64 (s.x.prev : Int), .int .i64 (s.x.lead : Int), .int .i64 (s.x.len : Int)]), (.agg #[.int .i64 t, .int .u64 (v : Int)]), .agg #[.int .u64 0, .int .i64 0, .int .i64 0]] X fun e w' => e = .returned (.agg #[.int .i64 ((nextK k s t v).n : Int), .int .i64 (nextK k s t v).t, .int .i64 (nextK k s t v).d, .int .u64 ((nextK k s t v).v : Int), .int .u64 ((nextK k s t v).e : Int), .int .u64 ((nextK k s t v).x.prev : Int), .int .i64 ((nextK k s t v).x.lead : Int), .int .i64 ((nextK k s t v).x.len : Int)]) ∧ Below X.heap.size X w' := fun X => by
    rw [← HN.out]
    exact refafter_any k s t v zeroX X hk (by omega)
  have HP1 : Hid ((low (un64 t) 64).length = 64) := Lib.hid (low_length _ _)
  have HP2 : Hid ((low v 64).length = 64) := Lib.hid (low_length _ _)
  rw [HQ.out]
  generalize low (un64 t) 64 = p1 at *
  generalize low v 64 = p2 at *
  generalize nextK k s t v = s' at *
  have HL1 : Hid ((enc p1).length = 64) := Lib.hid (by rw [enc_length, HP1.out])
  have HL2 : Hid ((enc p2).length = 64) := Lib.hid (by rw [enc_length, HP2.out])
  unfold RetB at hL1 hL2
  rw [HL1.out] at hL1
  rw [HL2.out] at hL2
  have hk12 : (((k : Int) != 1) = false ∧ ((k : Int) == 1) = true) ∨ (((k : Int) != 1) = true ∧ ((k : Int) != 2) = false) := by rcases hk with rfl | rfl <;> simp
  clear h0 hk HQ HN
  rcases hk12 with ⟨hk1, hk2⟩ | ⟨hk1, hk2⟩
  all_goals
    go_enter Tryd.func7, Tryd.ntmps7
    go_upto_region 4 with fail
    generalize hWe : ((w.alloc (.cells #[.int .i64 (s.n : Int), .int .i64 s.t, .int .i64 s.d, .int .u64 (s.v : Int), .int .u64 (s.e : Int), .int .u64 (s.x.prev : Int), .int .i64 (s.x.lead : Int), .int .i64 (s.x.len : Int)] 32)).alloc (.cells #[.int .i64 t, .int .u64 (v : Int)] 40)).alloc (.cells #[.int .i64 0, .int .i64 0, .int .i64 0, .int .u64 0, .int .u64 0, .int .u64 0, .int .i64 0, .int .i64 0] 32) = W
    rw [show rworld w s t v = W from hWe] at hX
    clear hWe
    generalize W.heap.size = B at *
    replace hX := hX.drew
    go_cut [6, 8] (fun x6 x8 wx => x8 = .int .i64 0 ∧ Own w wx x6 (enc (p1 ++ p2)) ∧ BoxL wx (w.heap.size + 1 + 1) [.int .i64 (s'.n : Int), .int .i64 s'.t, .int .i64 s'.d, .int .u64 (s'.v : Int), .int .u64 (s'.e : Int), .int .u64 (s'.x.prev : Int), .int .i64 (s'.x.lead : Int), .int .i64 (s'.x.len : Int)])
    case first =>
      have q0 := hX.cells
      go_region_held3 (fun w' => (w'.cell? ⟨w.heap.size, 0, none⟩ = some (.int .i64 (s.n : Int)) ∧ w'.cell? ⟨w.heap.size, 1, none⟩ = some (.int .i64 s.t) ∧ w'.cell? ⟨w.heap.size, 2, none⟩ = some (.int .i64 s.d) ∧ w'.cell? ⟨w.heap.size, 3, none⟩ = some (.int .u64 (s.v : Int)) ∧ w'.cell? ⟨w.heap.size, 4, none⟩ = some (.int .u64 (s.e : Int)) ∧ w'.cell? ⟨w.heap.size, 5, none⟩ = some (.int .u64 (s.x.prev : Int)) ∧ w'.cell? ⟨w.heap.size, 6, none⟩ = some (.int .i64 (s.x.lead : Int)) ∧ w'.cell? ⟨w.heap.size, 7, none⟩ = some (.int .i64 (s.x.len : Int))) ∧ (w'.cell? ⟨w.heap.size + 1, 0, none⟩ = some (.int .i64 t) ∧ w'.cell? ⟨w.heap.size + 1, 1, none⟩ = some (.int .u64 (v : Int))))
        (with_reducible first | exact hX.cells | exact (hX.set7 _ _ _ _ _ _ _ _).cells) (first
        | (go_at_call 22; (with_reducible refine (hL1 _).mono ?_); rintro e w5 ⟨A5, c5, rfl, ho5⟩; have m1 := Mid.of ho5 hX.bel; have hB1 := hX.hi; have hS5 := ho5.bel.size; replace hX := hX.below ho5.bel hB1; clear ho5)
        | (go_at_call 22; (with_reducible refine (hL2 _).mono ?_); rintro e w6 ⟨A6, c6, rfl, ho6⟩; have hr6 := ho6.rd; have hC1 := ho6.bel.size; have hM1 := hX.hi; replace m1 := m1.on ho6.bel; replace hX := hX.below ho6.bel hM1; clear ho6)
        | (go_at_call 23; (with_reducible refine (hAF _).mono ?_); rintro e w8 ⟨rfl, HB⟩; have hM8 := hX.hi; replace hX := hX.below HB hM8; replace m7 := m7.on HB; clear HB; obtain ⟨u70, u71, u72, u73, u74, u75, u76, u77⟩ := hX.b7.get8; obtain ⟨v70, v71, v72, v73, v74, v75, v76, v77⟩ := hX.b7.free8)
        | (refine step_appM (by rfl) (.tmp 25) (.tmp 28) (by rfl) (by rfl) (by rfl) m1 (by omega) hr6 (by rw [HL1.out]; omega) ?_; intro v7 w7 m7 hb7 _; replace hX := hX.below hb7 (by first | assumption | omega); clear hr6 m1))
      all_goals
        clear q0 u70 u71 u72 u73 u74 u75 u76 u77 v70 v71 v72 v73 v74 v75 v76 v77 hAF hL1 hL2
        go_wp2_with fail
        go_meet
        rw [← enc_app] at m7
        have hlo := hX.lo
        exact ⟨rfl, (m7.set8 (by omega) (by omega) _ _ _ _ _ _ _ _).own, (hX.set7 _ _ _ _ _ _ _ _).b7⟩
    case rest =>
      obtain ⟨rfl, ho, b7⟩ := hcut
      obtain ⟨A6, c6, rfl⟩ := own_form ho
      obtain ⟨d0, d1, d2, d3, d4, d5, d6, d7⟩ := b7.get8
      go_wp2
      refine bodyPost_ret (v := .tuple #[.slice A6 (p1 ++ p2).length c6, (.agg #[.int .i64 (s'.n : Int), .int .i64 s'.t, .int .i64 s'.d, .int .u64 (s'.v : Int), .int .u64 (s'.e : Int), .int .u64 (s'.x.prev : Int), .int .i64 (s'.x.lead : Int), .int .i64 (s'.x.len : Int)]), .int .i64 0]) ?_ rfl ⟨A6, c6, rfl, ho⟩
      simp [results, Tryd.results7, go_sem, d0, d1, d2, d3, d4, d5, d6, d7]

end Go.Proofs.YtcnhoohcdkfgkaaDoor

/-
  The contract of the reference's PutSample behind the first sample; and for any state.
-/
namespace Go.Proofs.YtcnhoohcdkfgkaaDoor
open Go.RowKit

theorem refT_wrap (s : KS) (t : Int) : wrap64 (IntKind.u64.wrap (IntKind.u64.wrap (IntKind.u64.wrap t - IntKind.u64.wrap s.t) - IntKind.u64.wrap s.d)) = stepT s t := by
  unfold stepT
  rw [w64_wrap, u64_mod, u64_mod, u64_mod, u64_mod, u64_mod]
  unfold w64
  omega
theorem wrap_w64 (x : Int) : IntKind.i64.wrap x = w64 x := by rw [IntKind.wrap_i64]; unfold w64; rfl
theorem stepE_wrap' (s : KS) (v : Nat) : IntKind.i64.wrap (IntKind.u64.wrap (IntKind.u64.wrap ((v : Int) - (s.v : Int)) - (s.e : Int))) = stepE s v := by
  rw [wrap_w64, ← w64_wrap]
  exact stepE_wrap s v

set_option maxRecDepth 20000 in
set_option maxHeartbeats 4000000 in
theorem rput_ints (s : KS) (t : Int) (v : Nat) (w : World) (hn : s.n ≤ 1000000) (h0 : s.n ≠ 0) (hr : risesK s t = true) :
    Calls Tryd.prog 7 #[.int .i64 2, (.agg #[.int .i64 (s.n : Int), .int .i64 s.t, .int .i64 s.d, .int .u64 (s.v : Int), .int .u64 (s.e : Int), .int .u64 (s.x.prev : Int), .int .i64 (s.x.lead : Int), .int .i64 (s.x.len : Int)]), (.agg #[.int .i64 t, .int .u64 (v : Int)])] w (RetRP w (putK 2 s t v) (nextK 2 s t v)) := by
  have hX := rworld_is w s t v
  have h1 : ((s.n : Int) == 0) = false := by simp [h0]
  have hlt : s.t < t := by unfold risesK at hr; simp [h0] at hr; exact hr
  have HQ : Hid (putK 2 s t v = codeD (stepT s t) ++ codeD (stepE s v)) := Lib.hid (by unfold putK timeK valK; rw [if_neg h0, if_neg h0]; rfl)
  have HN : Hid (afterK 2 s t v zeroX = nextK 2 s t v) := Lib.hid (by unfold nextK afterK; rw [if_neg h0, if_neg h0]; rfl)
  have hAF : ∀ X, Calls Tryd.prog 23 #[.int .i64 2, (.agg #[.int .i64 (s.n : Int), .int .i64 s.t, .int .i64 s.d, .int .u64 (s.v : Int), .int .u64 (s.e : Int), .int .u64 (s.x.prev : Int), .int .i64 (s.x.lead : Int), .int .i64 (s.x.len : Int)]), (.agg #[.int .i64 t, .int .u64 (v : Int)]), .agg #[.int .u64 0, .int .i64 0, .int .i64 0]] X fun e w' => e = .returned (.agg #[.int .i64 ((nextK 2 s t v).n : Int), .int .i64 (nextK 2 s t v).t, .int .i64 (nextK 2 s t v).d, .int .u64 ((nextK 2 s t v).v : Int), .int .u64 ((nextK 2 s t v).e : Int), .int .u64 ((nextK 2 s t v).x.prev : Int), .int .i64 ((nextK 2 s t v).x.lead : Int), .int .i64 ((nextK 2 s t v).x.len : Int)]) ∧ Below X.heap.size X w' := fun X => by
    rw [← HN.out]
    exact refafter_any 2 s t v zeroX X (.inr rfl) (by omega)
  have hT := refT_wrap s t
  have hE := stepE_wrap' s v
  have hL1 := fun X => refdod_any (stepT s t) X (stepT_in s t)
  have hL2 := fun X => refdod_any (stepE s v) X (stepE_in s v)
  have hl1 := (codeD_pos (stepT s t)).2
  have hl2 := (codeD_pos (stepE s v)).2
  rw [HQ.out]
  generalize nextK 2 s t v = s' at *
  generalize stepT s t = st at *
  generalize stepE s v = se at *
  generalize codeD st = p1 at *
  generalize codeD se = p2 at *
  unfold RetB at hL1 hL2
  obtain ⟨M1, HM1⟩ : ∃ M, Hid (p1.length = M) := ⟨_, Lib.hid rfl⟩
  obtain ⟨M2, HM2⟩ : ∃ M, Hid (p2.length = M) := ⟨_, Lib.hid rfl⟩
  rw [enc_length p1, HM1.out] at hL1
  rw [enc_length p2, HM2.out] at hL2
  rw [HM1.out] at hl1
  rw [HM2.out] at hl2
  clear h0 hr HQ HN
  go_enter Tryd.func7, Tryd.ntmps7
  go_wp2_with fail
  refine (hL1 _).mono ?_
  rintro e w5 ⟨A5, c5, rfl, ho5⟩
  have m1 := Mid.of ho5 hX.bel
  have hB1 := hX.hi
  have hS5 := ho5.bel.size
  replace hX := hX.below ho5.bel hB1
  clear ho5 hL1
  generalize hWe : (rworld w s t v).heap.size = B at *
  have hBs : ((w.alloc (.cells #[.int .i64 (s.n : Int), .int .i64 s.t, .int .i64 s.d, .int .u64 (s.v : Int), .int .u64 (s.e : Int), .int .u64 (s.x.prev : Int), .int .i64 (s.x.lead : Int), .int .i64 (s.x.len : Int)] 32)).alloc (.cells #[.int .i64 t, .int .u64 (v : Int)] 40) |>.alloc (.cells #[.int .i64 0, .int .i64 0, .int .i64 0, .int .u64 0, .int .u64 0, .int .u64 0, .int .i64 0, .int .i64 0] 32)).heap.size = B := hWe
  rw [hBs] at m1 hS5
  clear hWe hBs
  go_upto_region 9 with fail
  replace hX := hX.drew
  replace m1 : Mid w B w5.drew (.slice A5 M1 c5) (enc p1) := ⟨m1.row, m1.bel.drew, m1.le⟩
  go_cut [6, 8] (fun x6 x8 wx => x8 = .int .i64 0 ∧ Own w wx x6 (enc (p1 ++ p2)) ∧ BoxL wx (w.heap.size + 1 + 1) [.int .i64 (s'.n : Int), .int .i64 s'.t, .int .i64 s'.d, .int .u64 (s'.v : Int), .int .u64 (s'.e : Int), .int .u64 (s'.x.prev : Int), .int .i64 (s'.x.lead : Int), .int .i64 (s'.x.len : Int)])
  case first =>
    have q0 := hX.cells
    go_region_held3 (fun w' => (w'.cell? ⟨w.heap.size, 0, none⟩ = some (.int .i64 (s.n : Int)) ∧ w'.cell? ⟨w.heap.size, 1, none⟩ = some (.int .i64 s.t) ∧ w'.cell? ⟨w.heap.size, 2, none⟩ = some (.int .i64 s.d) ∧ w'.cell? ⟨w.heap.size, 3, none⟩ = some (.int .u64 (s.v : Int)) ∧ w'.cell? ⟨w.heap.size, 4, none⟩ = some (.int .u64 (s.e : Int)) ∧ w'.cell? ⟨w.heap.size, 5, none⟩ = some (.int .u64 (s.x.prev : Int)) ∧ w'.cell? ⟨w.heap.size, 6, none⟩ = some (.int .i64 (s.x.lead : Int)) ∧ w'.cell? ⟨w.heap.size, 7, none⟩ = some (.int .i64 (s.x.len : Int))) ∧ (w'.cell? ⟨w.heap.size + 1, 0, none⟩ = some (.int .i64 t) ∧ w'.cell? ⟨w.heap.size + 1, 1, none⟩ = some (.int .u64 (v : Int))))
      (with_reducible first | exact hX.cells | exact (hX.set7 _ _ _ _ _ _ _ _).cells) (first
      | (go_at_call 24; (with_reducible refine (hL2 _).mono ?_); rintro e w6 ⟨A6, c6, rfl, ho6⟩; have hr6 := ho6.rd; have hC1 := ho6.bel.size; have hM1 := hX.hi; replace m1 := m1.on ho6.bel; replace hX := hX.below ho6.bel hM1; clear ho6)
      | (go_at_call 23; (with_reducible refine (hAF _).mono ?_); rintro e w8 ⟨rfl, HB⟩; have hM8 := hX.hi; replace hX := hX.below HB hM8; replace m7 := m7.on HB; clear HB; obtain ⟨u70, u71, u72, u73, u74, u75, u76, u77⟩ := hX.b7.get8; obtain ⟨v70, v71, v72, v73, v74, v75, v76, v77⟩ := hX.b7.free8)
      | (refine step_appM (by rfl) (.tmp 56) (.tmp 66) (by rfl) (by rfl) (by rfl) m1 hX.hi hr6 (by rw [enc_length, HM1.out]; omega) ?_; intro v7 w7 m7 hb7 _; replace hX := hX.below hb7 (Nat.le_refl _); clear hr6 m1))
    all_goals
      clear q0 u70 u71 u72 u73 u74 u75 u76 u77 v70 v71 v72 v73 v74 v75 v76 v77 hAF hL2
      go_wp2_with fail
      go_meet
      rw [← enc_app] at m7
      have hlo := hX.lo
      exact ⟨rfl, (m7.set8 (by omega) (by omega) _ _ _ _ _ _ _ _).own, (hX.set7 _ _ _ _ _ _ _ _).b7⟩
  case rest =>
    obtain ⟨rfl, ho, b7⟩ := hcut
    obtain ⟨A6, c6, rfl⟩ := own_form ho
    obtain ⟨d0, d1, d2, d3, d4, d5, d6, d7⟩ := b7.get8
    go_wp2
    refine bodyPost_ret (v := .tuple #[.slice A6 (p1 ++ p2).length c6, (.agg #[.int .i64 (s'.n : Int), .int .i64 s'.t, .int .i64 s'.d, .int .u64 (s'.v : Int), .int .u64 (s'.e : Int), .int .u64 (s'.x.prev : Int), .int .i64 (s'.x.lead : Int), .int .i64 (s'.x.len : Int)]), .int .i64 0]) ?_ rfl ⟨A6, c6, rfl, ho⟩
    simp [results, Tryd.results7, go_sem, d0, d1, d2, d3, d4, d5, d6, d7]

set_option maxRecDepth 20000 in
set_option maxHeartbeats 4000000 in
theorem rput_xor (s : KS) (t : Int) (v : Nat) (w : World) (hs : s.May) (hn : s.n ≤ 1000000) (hv : v ≤ 18446744073709551615) (h0 : s.n ≠ 0) (hr : risesK s t = true) :
    Calls Tryd.prog 7 #[.int .i64 1, (.agg #[.int .i64 (s.n : Int), .int .i64 s.t, .int .i64 s.d, .int .u64 (s.v : Int), .int .u64 (s.e : Int), .int .u64 (s.x.prev : Int), .int .i64 (s.x.lead : Int), .int .i64 (s.x.len : Int)]), (.agg #[.int .i64 t, .int .u64 (v : Int)])] w (RetRP w (putK 1 s t v) (nextK 1 s t v)) := by
  have hX := rworld_is w s t v
  have h1 : ((s.n : Int) == 0) = false := by simp [h0]
  have hlt : s.t < t := by unfold risesK at hr; simp [h0] at hr; exact hr
  have HQ : Hid (putK 1 s t v = codeD (stepT s t) ++ codeX s.x v) := Lib.hid (by unfold putK timeK valK; rw [if_neg h0, if_neg h0]; rfl)
  have hAF : ∀ X, Calls Tryd.prog 23 #[.int .i64 1, (.agg #[.int .i64 (s.n : Int), .int .i64 s.t, .int .i64 s.d, .int .u64 (s.v : Int), .int .u64 (s.e : Int), .int .u64 (s.x.prev : Int), .int .i64 (s.x.lead : Int), .int .i64 (s.x.len : Int)]), (.agg #[.int .i64 t, .int .u64 (v : Int)]), (.agg #[.int .u64 ((nextX s.x v).prev : Int), .int .i64 ((nextX s.x v).lead : Int), .int .i64 ((nextX s.x v).len : Int)])] X fun e w' => e = .returned (.agg #[.int .i64 ((nextK 1 s t v).n : Int), .int .i64 (nextK 1 s t v).t, .int .i64 (nextK 1 s t v).d, .int .u64 ((nextK 1 s t v).v : Int), .int .u64 ((nextK 1 s t v).e : Int), .int .u64 ((nextK 1 s t v).x.prev : Int), .int .i64 ((nextK 1 s t v).x.lead : Int), .int .i64 ((nextK 1 s t v).x.len : Int)]) ∧ Below X.heap.size X w' := fun X =>
    refafter_any 1 s t v (nextX s.x v) X (.inl rfl) (by omega)
  have hT := refT_wrap s t
  have hL1 := fun X => refdod_any (stepT s t) X (stepT_in s t)
  have hL2 := fun X => rcode_loop s.x.prev s.x.lead s.x.len v _ X hs.x hv rfl
  have hl1 := (codeD_pos (stepT s t)).2
  have hl2 := (codeX_pos hs.x hv).2
  have hpv := nextX_prev s.x v
  rw [hpv] at hAF
  rw [HQ.out]
  unfold RetRX at hL2
  change ∀ X, Calls _ _ _ X (fun e w' => ∃ A c, e = .returned (.tuple #[.slice A (codeX s.x v).length c, .agg #[.int .u64 (v : Int), .int .i64 ((nextX s.x v).lead : Int), .int .i64 ((nextX s.x v).len : Int)]]) ∧ Own X w' (.slice A (codeX s.x v).length c) (enc (codeX s.x v))) at hL2
  generalize nextK 1 s t v = s' at *
  generalize stepT s t = st at *
  generalize nextX s.x v = y at *
  generalize codeD st = p1 at *
  generalize codeX s.x v = p2 at *
  unfold RetB at hL1
  obtain ⟨M1, HM1⟩ : ∃ M, Hid (p1.length = M) := ⟨_, Lib.hid rfl⟩
  obtain ⟨M2, HM2⟩ : ∃ M, Hid (p2.length = M) := ⟨_, Lib.hid rfl⟩
  rw [enc_length p1, HM1.out] at hL1
  rw [HM2.out] at hL2
  rw [HM1.out] at hl1
  rw [HM2.out] at hl2
  clear h0 hr HQ hpv
  go_enter Tryd.func7, Tryd.ntmps7
  go_wp2_with fail
  refine (hL1 _).mono ?_
  rintro e w5 ⟨A5, c5, rfl, ho5⟩
  have m1 := Mid.of ho5 hX.bel
  have hB1 := hX.hi
  have hS5 := ho5.bel.size
  replace hX := hX.below ho5.bel hB1
  clear ho5 hL1
  generalize hWe : (rworld w s t v).heap.size = B at *
  have hBs : ((w.alloc (.cells #[.int .i64 (s.n : Int), .int .i64 s.t, .int .i64 s.d, .int .u64 (s.v : Int), .int .u64 (s.e : Int), .int .u64 (s.x.prev : Int), .int .i64 (s.x.lead : Int), .int .i64 (s.x.len : Int)] 32)).alloc (.cells #[.int .i64 t, .int .u64 (v : Int)] 40) |>.alloc (.cells #[.int .i64 0, .int .i64 0, .int .i64 0, .int .u64 0, .int .u64 0, .int .u64 0, .int .i64 0, .int .i64 0] 32)).heap.size = B := hWe
  rw [hBs] at m1 hS5
  clear hWe hBs
  replace m1 : Mid w B w5 (.slice A5 M1 c5) (enc p1) := m1
  have hown5 : ∀ k, (Value.slice A5 M1 c5).ownBlock = some k → k < w5.heap.size := fun k hk => (m1.row.lt k hk).2
  obtain ⟨q0, q1, q2, q3, q4, q5, q6, q7⟩ := hX.b4.get8
  obtain ⟨z0, z1⟩ := hX.b5.get2
  go_wp2_with fail
  refine (hL2 _).mono ?_
  rintro e w6 ⟨A6, c6, rfl, ho6⟩
  clear q0 q1 q2 q3 q4 q5 q6 q7 z0 z1 hL2
  go_upto_region 11 with fail
  have hal : Below w6.heap.size w6 (w6.alloc (.cells #[.int .u64 (v : Int), .int .i64 (y.lead : Int), .int .i64 (y.len : Int)] 30)) := by repeat (first | with_reducible exact Below.refl _ _ | assumption | with_reducible refine Below.drew ?_ | with_reducible refine Below.alloc ?_ (by (first | assumption | omega | (simp; done) | (simp; omega))) _)
  have b11 := (BoxL.new w6 [.int .u64 (v : Int), .int .i64 (y.lead : Int), .int .i64 (y.len : Int)] 30)
  have hbb := ho6.bel.trans (hal.mono ho6.bel.size)
  have hr6 := (ho6.rd.below hal).more hal.size
  have hM1 := hX.hi
  have hg11 : B ≤ w6.heap.size := Nat.le_trans hX.hi ho6.bel.size
  have hne : (Value.slice A5 M1 c5).ownBlock ≠ some w6.heap.size := fun e => by have h1 := hown5 _ e; have h2 := ho6.bel.size; omega
  replace m1 := m1.on hbb
  replace hX := hX.below hbb hM1
  clear ho6 hal hbb hM1
  generalize w6.alloc (.cells #[.int .u64 (v : Int), .int .i64 (y.lead : Int), .int .i64 (y.len : Int)] 30) = W6 at *
  generalize w6.heap.size = g11 at *
  have hn11 : g11 ≠ w.heap.size + 1 + 1 := by have := hX.lo; omega
  replace hX := hX.drew
  replace m1 : Mid w B W6.drew (.slice A5 M1 c5) (enc p1) := ⟨m1.row, m1.bel.drew, m1.le⟩
  replace b11 := b11.drew
  replace hr6 := hr6.drew
  go_cut [6, 8] (fun x6 x8 wx => x8 = .int .i64 0 ∧ Own w wx x6 (enc (p1 ++ p2)) ∧ BoxL wx (w.heap.size + 1 + 1) [.int .i64 (s'.n : Int), .int .i64 s'.t, .int .i64 s'.d, .int .u64 (s'.v : Int), .int .u64 (s'.e : Int), .int .u64 (s'.x.prev : Int), .int .i64 (s'.x.lead : Int), .int .i64 (s'.x.len : Int)])
  case first =>
    have q0 := hX.cells
    have r0 := b11.get3
    go_region_held3 (fun w' => ((w'.cell? ⟨w.heap.size, 0, none⟩ = some (.int .i64 (s.n : Int)) ∧ w'.cell? ⟨w.heap.size, 1, none⟩ = some (.int .i64 s.t) ∧ w'.cell? ⟨w.heap.size, 2, none⟩ = some (.int .i64 s.d) ∧ w'.cell? ⟨w.heap.size, 3, none⟩ = some (.int .u64 (s.v : Int)) ∧ w'.cell? ⟨w.heap.size, 4, none⟩ = some (.int .u64 (s.e : Int)) ∧ w'.cell? ⟨w.heap.size, 5, none⟩ = some (.int .u64 (s.x.prev : Int)) ∧ w'.cell? ⟨w.heap.size, 6, none⟩ = some (.int .i64 (s.x.lead : Int)) ∧ w'.cell? ⟨w.heap.size, 7, none⟩ = some (.int .i64 (s.x.len : Int))) ∧ (w'.cell? ⟨w.heap.size + 1, 0, none⟩ = some (.int .i64 t) ∧ w'.cell? ⟨w.heap.size + 1, 1, none⟩ = some (.int .u64 (v : Int)))) ∧ (w'.cell? ⟨g11, 0, none⟩ = some (.int .u64 (v : Int)) ∧ w'.cell? ⟨g11, 1, none⟩ = some (.int .i64 (y.lead : Int)) ∧ w'.cell? ⟨g11, 2, none⟩ = some (.int .i64 (y.len : Int))))
      (with_reducible first | exact ⟨hX.cells, b11.get3⟩ | exact ⟨(hX.set7 _ _ _ _ _ _ _ _).cells, (b11.oth8 hn11 _ _ _ _ _ _ _ _).get3⟩) (first
      | (go_at_call 23; (with_reducible refine (hAF _).mono ?_); rintro e w8 ⟨rfl, HB⟩; have hM8 := hX.hi; replace hX := hX.below HB hM8; replace m7 := m7.on HB; replace b11 := b11.below HB; clear HB; obtain ⟨u70, u71, u72, u73, u74, u75, u76, u77⟩ := hX.b7.get8; obtain ⟨v70, v71, v72, v73, v74, v75, v76, v77⟩ := hX.b7.free8)
      | (refine step_appM (by rfl) (.tmp 81) (.tmp 82) (by rfl) (by rfl) (by rfl) m1 hX.hi hr6 (by rw [enc_length, HM1.out]; omega) ?_; intro v7 w7 m7 hb7 hg7; replace hX := hX.below hb7 (Nat.le_refl _); replace b11 := b11.grown hg7 hne; clear hr6 m1 hg7))
    all_goals
      clear q0 r0 u70 u71 u72 u73 u74 u75 u76 u77 v70 v71 v72 v73 v74 v75 v76 v77 hAF
      go_wp2_with fail
      go_meet
      rw [← enc_app] at m7
      have hlo := hX.lo
      exact ⟨rfl, (m7.set8 (by omega) (by omega) _ _ _ _ _ _ _ _).own, (hX.set7 _ _ _ _ _ _ _ _).b7⟩
  case rest =>
    obtain ⟨rfl, ho, b7⟩ := hcut
    obtain ⟨A6, c6, rfl⟩ := own_form ho
    obtain ⟨d0, d1, d2, d3, d4, d5, d6, d7⟩ := b7.get8
    go_wp2
    refine bodyPost_ret (v := .tuple #[.slice A6 (p1 ++ p2).length c6, (.agg #[.int .i64 (s'.n : Int), .int .i64 s'.t, .int .i64 s'.d, .int .u64 (s'.v : Int), .int .u64 (s'.e : Int), .int .u64 (s'.x.prev : Int), .int .i64 (s'.x.lead : Int), .int .i64 (s'.x.len : Int)]), .int .i64 0]) ?_ rfl ⟨A6, c6, rfl, ho⟩
    simp [results, Tryd.results7, go_sem, d0, d1, d2, d3, d4, d5, d6, d7]

/-- for any state and any sample that may stand behind it -/
theorem rput_yes (k : Nat) (s : KS) (t : Int) (v : Nat) (w : World) (hk : k = 1 ∨ k = 2) (hs : s.May) (hn : s.n ≤ 1000000) (hv : v ≤ 18446744073709551615) (hr : risesK s t = true) :
    Calls Tryd.prog 7 #[.int .i64 (k : Int), (.agg #[.int .i64 (s.n : Int), .int .i64 s.t, .int .i64 s.d, .int .u64 (s.v : Int), .int .u64 (s.e : Int), .int .u64 (s.x.prev : Int), .int .i64 (s.x.lead : Int), .int .i64 (s.x.len : Int)]), (.agg #[.int .i64 t, .int .u64 (v : Int)])] w (RetRP w (putK k s t v) (nextK k s t v)) := by
  by_cases h0 : s.n = 0
  · exact rput_first k s t v w hk hv h0
  · rcases hk with rfl | rfl
    · exact rput_xor s t v w hs hn hv h0 hr
    · exact rput_ints s t v w hn h0 hr

end Go.Proofs.YtcnhoohcdkfgkaaDoor

/-
  The contract of the reference's GetSample.
-/
namespace Go.Proofs.YtcnhoohcdkfgkaaDoor
open Go.RowKit

/-- what GetSample comes to -/
def RetRG8 (w : World) (k : Nat) (s : KS) (p : List Bool) (e : Ending) (w' : World) : Prop :=
  ∃ r, KGets k s p r ∧ e = .returned (.tuple #[(.agg #[.int .i64 r.t, .int .u64 (r.v : Int)]), (.agg #[.int .i64 (r.s.n : Int), .int .i64 r.s.t, .int .i64 r.s.d, .int .u64 (r.s.v : Int), .int .u64 (r.s.e : Int), .int .u64 (r.s.x.prev : Int), .int .i64 (r.s.x.lead : Int), .int .i64 (r.s.x.len : Int)]), .int .i64 (r.n : Int), .int .i64 (r.e : Int)]) ∧ Below w.heap.size w w'

set_option maxRecDepth 20000 in
set_option maxHeartbeats 1000000 in
theorem rget_kind (z : Int) (s : KS) (A : Option Addr) (m c : Nat) (w : World) (h1 : (z != 1) = true) (h2 : (z != 2) = true) :
    Calls Tryd.prog 14 #[.int .i64 z, (.agg #[.int .i64 (s.n : Int), .int .i64 s.t, .int .i64 s.d, .int .u64 (s.v : Int), .int .u64 (s.e : Int), .int .u64 (s.x.prev : Int), .int .i64 (s.x.lead : Int), .int .i64 (s.x.len : Int)]), .slice A m c] w fun e w' => e = .returned (.tuple #[.agg #[.int .i64 0, .int .u64 0], (.agg #[.int .i64 0, .int .i64 0, .int .i64 0, .int .u64 0, .int .u64 0, .int .u64 0, .int .i64 0, .int .i64 0]), .int .i64 0, .int .i64 6]) ∧ Below w.heap.size w w' := by
  go_enter Tryd.func14, Tryd.ntmps14
  go_wp2
  go_returns
  exact ⟨rfl, by repeat (first | with_reducible exact Below.refl _ _ | assumption | with_reducible refine Below.drew ?_ | with_reducible refine Below.alloc ?_ (by (first | assumption | omega | (simp; done) | (simp; omega))) _)⟩
theorem kind_tests {k : Nat} (hk : k = 1 ∨ k = 2) : (((k : Int) != 1) = false ∧ ((k : Int) == 1) = true ∧ ((k : Int) == 2) = false) ∨ (((k : Int) != 1) = true ∧ ((k : Int) != 2) = false ∧ ((k : Int) == 1) = false ∧ ((k : Int) == 2) = true) := by
  rcases hk with rfl | rfl <;> simp
set_option maxRecDepth 20000 in
set_option maxHeartbeats 1000000 in
theorem rget_short (k : Nat) (s : KS) (A : Option Addr) (m c : Nat) (w : World) (hk : k = 1 ∨ k = 2) (h0 : s.n = 0) (hm : m < 128) :
    Calls Tryd.prog 14 #[.int .i64 (k : Int), (.agg #[.int .i64 (s.n : Int), .int .i64 s.t, .int .i64 s.d, .int .u64 (s.v : Int), .int .u64 (s.e : Int), .int .u64 (s.x.prev : Int), .int .i64 (s.x.lead : Int), .int .i64 (s.x.len : Int)]), .slice A m c] w fun e w' => e = .returned (.tuple #[.agg #[.int .i64 0, .int .u64 0], (.agg #[.int .i64 0, .int .i64 0, .int .i64 0, .int .u64 0, .int .u64 0, .int .u64 0, .int .i64 0, .int .i64 0]), .int .i64 0, .int .i64 2]) ∧ Below w.heap.size w w' := by
  have h1 : ((s.n : Int) == 0) = true := by simp [h0]
  clear h0
  rcases kind_tests hk with ⟨k1, k2, k3⟩ | ⟨k1, k2, k3, k4⟩
  all_goals
    clear hk
    go_enter Tryd.func14, Tryd.ntmps14
    go_wp2
    go_returns
    exact ⟨rfl, by repeat (first | with_reducible exact Below.refl _ _ | assumption | with_reducible refine Below.drew ?_ | with_reducible refine Below.alloc ?_ (by (first | assumption | omega | (simp; done) | (simp; omega))) _)⟩

/-- the world behind GetSample's three boxes -/
def sworld (w : World) (s : KS) : World := ((w.alloc (.cells #[.int .i64 (s.n : Int), .int .i64 s.t, .int .i64 s.d, .int .u64 (s.v : Int), .int .u64 (s.e : Int), .int .u64 (s.x.prev : Int), .int .i64 (s.x.lead : Int), .int .i64 (s.x.len : Int)] 32)).alloc (.cells #[.int .i64 0, .int .u64 0] 40)).alloc (.cells #[.int .i64 0, .int .i64 0, .int .i64 0, .int .u64 0, .int .u64 0, .int .u64 0, .int .i64 0, .int .i64 0] 32)
theorem sworld_is (w : World) (s : KS) : GX w (sworld w s) s [.int .i64 0, .int .u64 0] [.int .i64 0, .int .i64 0, .int .i64 0, .int .u64 0, .int .u64 0, .int .u64 0, .int .i64 0, .int .i64 0] := by
  have h5 := ((BoxL.new w [.int .i64 (s.n : Int), .int .i64 s.t, .int .i64 s.d, .int .u64 (s.v : Int), .int .u64 (s.e : Int), .int .u64 (s.x.prev : Int), .int .i64 (s.x.lead : Int), .int .i64 (s.x.len : Int)] 32).onA (.cells #[.int .i64 0, .int .u64 0] 40)).onA (.cells #[.int .i64 0, .int .i64 0, .int .i64 0, .int .u64 0, .int .u64 0, .int .u64 0, .int .i64 0, .int .i64 0] 32)
  have h8 := (BoxL.new (w.alloc (.cells #[.int .i64 (s.n : Int), .int .i64 s.t, .int .i64 s.d, .int .u64 (s.v : Int), .int .u64 (s.e : Int), .int .u64 (s.x.prev : Int), .int .i64 (s.x.lead : Int), .int .i64 (s.x.len : Int)] 32)) [.int .i64 0, .int .u64 0] 40).onA (.cells #[.int .i64 0, .int .i64 0, .int .i64 0, .int .u64 0, .int .u64 0, .int .u64 0, .int .i64 0, .int .i64 0] 32)
  have h9 := BoxL.new ((w.alloc (.cells #[.int .i64 (s.n : Int), .int .i64 s.t, .int .i64 s.d, .int .u64 (s.v : Int), .int .u64 (s.e : Int), .int .u64 (s.x.prev : Int), .int .i64 (s.x.lead : Int), .int .i64 (s.x.len : Int)] 32)).alloc (.cells #[.int .i64 0, .int .u64 0] 40)) [.int .i64 0, .int .i64 0, .int .i64 0, .int .u64 0, .int .u64 0, .int .u64 0, .int .i64 0, .int .i64 0] 32
  simp only [World.size_alloc] at h8 h9
  unfold sworld
  exact ⟨by repeat (first | with_reducible exact Below.refl _ _ | assumption | with_reducible refine Below.drew ?_ | with_reducible refine Below.alloc ?_ (by (first | assumption | omega | (simp; done) | (simp; omega))) _), h5, h8, h9⟩

theorem boxl_nil {w : World} {g : Nat} (h : g < w.heap.size) : BoxL w g [] := ⟨h, fun i v e => (by cases e), fun i v e => (by cases e)⟩
theorem gxdrew {w X : World} {s : KS} {l8 l9 : List Value} (h : GX w X s l8 l9) : GX w X.drew s l8 l9 := ⟨h.bel.drew, h.b5.drew, h.b8.drew, h.b9.drew⟩
set_option maxRecDepth 20000 in
set_option maxHeartbeats 4000000 in
theorem rget_first (k : Nat) (s : KS) (A : Option Addr) (m c : Nat) (p : List Bool) (w : World) (hk : k = 1 ∨ k = 2) (h0 : s.n = 0) (h : Rd w w.heap.size A m c (enc p)) (hm : 128 ≤ m) (hm2 : m ≤ 100000) :
    Calls Tryd.prog 14 #[.int .i64 (k : Int), (.agg #[.int .i64 (s.n : Int), .int .i64 s.t, .int .i64 s.d, .int .u64 (s.v : Int), .int .u64 (s.e : Int), .int .u64 (s.x.prev : Int), .int .i64 (s.x.lead : Int), .int .i64 (s.x.len : Int)]), .slice A m c] w fun e w' => e = .returned (.tuple #[(.agg #[.int .i64 (firstK k s p).t, .int .u64 ((firstK k s p).v : Int)]), (.agg #[.int .i64 ((firstK k s p).s.n : Int), .int .i64 (firstK k s p).s.t, .int .i64 (firstK k s p).s.d, .int .u64 ((firstK k s p).s.v : Int), .int .u64 ((firstK k s p).s.e : Int), .int .u64 ((firstK k s p).s.x.prev : Int), .int .i64 ((firstK k s p).s.x.lead : Int), .int .i64 ((firstK k s p).s.x.len : Int)]), .int .i64 128, .int .i64 0]) ∧ Below w.heap.size w w' := by
  have hl : p.length = m := by have := h.len; rwa [enc_length] at this
  have hX := sworld_is w s
  have h1 : ((s.n : Int) == 0) = true := by simp [h0]
  have hc := h.cap
  obtain ⟨ad, rfl, hbl, _⟩ := h.cell (by omega)
  have hr1 := h.cutHead (n := 64) (by omega)
  have hr2 := h.cutTo (a := 64) (n := 64) (by omega)
  rw [enc_take] at hr1
  rw [enc_cut] at hr2
  have HF : Hid (firstK k s p = ⟨sgnN (num (cut p 0 64)) 64, num (cut p 64 64), afterK k s (sgnN (num (cut p 0 64)) 64) (num (cut p 64 64)) zeroX, 128, 0⟩) := Lib.hid (by unfold firstK; rw [if_neg (by omega)])
  have e0 : p.take 64 = cut p 0 64 := by unfold cut; rw [List.drop_zero]
  rw [e0] at hr1
  rw [HF.out]
  have hsg := sg_64 (num (cut p 0 64))
  have hAF : ∀ X, Calls Tryd.prog 23 #[.int .i64 (k : Int), (.agg #[.int .i64 (s.n : Int), .int .i64 s.t, .int .i64 s.d, .int .u64 (s.v : Int), .int .u64 (s.e : Int), .int .u64 (s.x.prev : Int), .int .i64 (s.x.lead : Int), .int .i64 (s.x.len : Int)]), (.agg #[.int .i64 (sgnN (num (cut p 0 64)) 64), .int .u64 ((num (cut p 64 64)) : Int)]), .agg #[.int .u64 0, .int .i64 0, .int .i64 0]] X fun e w' => e = .returned (.agg #[.int .i64 ((afterK k s (sgnN (num (cut p 0 64)) 64) (num (cut p 64 64)) zeroX).n : Int), .int .i64 (afterK k s (sgnN (num (cut p 0 64)) 64) (num (cut p 64 64)) zeroX).t, .int .i64 (afterK k s (sgnN (num (cut p 0 64)) 64) (num (cut p 64 64)) zeroX).d, .int .u64 ((afterK k s (sgnN (num (cut p 0 64)) 64) (num (cut p 64 64)) zeroX).v : Int), .int .u64 ((afterK k s (sgnN (num (cut p 0 64)) 64) (num (cut p 64 64)) zeroX).e : Int), .int .u64 ((afterK k s (sgnN (num (cut p 0 64)) 64) (num (cut p 64 64)) zeroX).x.prev : Int), .int .i64 ((afterK k s (sgnN (num (cut p 0 64)) 64) (num (cut p 64 64)) zeroX).x.lead : Int), .int .i64 ((afterK k s (sgnN (num (cut p 0 64)) 64) (num (cut p 64 64)) zeroX).x.len : Int)]) ∧ Below X.heap.size X w' := fun X => refafter_any k s _ _ zeroX X hk (by omega)
  have hN1 := fun X (hX : Below w.heap.size w X) => number_any _ _ _ _ _ X (hr1.below hX) (by omega)
  have hN2 : ∀ X, Below w.heap.size w X → Calls Tryd.prog 32 #[.slice (some ⟨ad.block, ad.off + 64, none⟩) 64 (c - 64)] X fun e w' => e = .returned (.int .u64 ((num (cut p 64 64) : Nat) : Int)) ∧ X = w' := fun X hX => number_any _ _ _ _ _ X (hr2.below hX) (by omega)
  dsimp only
  generalize afterK k s (sgnN (num (cut p 0 64)) 64) (num (cut p 64 64)) zeroX = s' at *
  generalize sgnN (num (cut p 0 64)) 64 = t at *
  generalize num (cut p 0 64) = x at *
  generalize num (cut p 64 64) = v at *
  have hc1 : (128 : Int) ≤ (c : Int) := by omega
  have hc2 : (64 : Int) ≤ (c : Int) := by omega
  have hm1 : (128 : Int) ≤ (m : Int) := by omega
  have hc3 : 64 ≤ c := by omega
  have hc4 : 128 ≤ c := by omega
  clear h0 HF e0 h
  rcases kind_tests hk with ⟨k1, k2, k3⟩ | ⟨k1, k2, k3, k4⟩
  all_goals
    clear hk
    go_enter Tryd.func14, Tryd.ntmps14
    go_upto_region 6 with fail
    generalize hWe : ((w.alloc (.cells #[.int .i64 (s.n : Int), .int .i64 s.t, .int .i64 s.d, .int .u64 (s.v : Int), .int .u64 (s.e : Int), .int .u64 (s.x.prev : Int), .int .i64 (s.x.lead : Int), .int .i64 (s.x.len : Int)] 32)).alloc (.cells #[.int .i64 0, .int .u64 0] 40)).alloc (.cells #[.int .i64 0, .int .i64 0, .int .i64 0, .int .u64 0, .int .u64 0, .int .u64 0, .int .i64 0, .int .i64 0] 32) = W
    rw [show sworld w s = W from hWe] at hX
    clear hWe
    have hbW := hX.bel
    have hsW := hbW.size
    have hsg' : IntKind.i64.wrap (x : Int) = t := by rw [wrap_w64, ← w64_wrap]; exact hsg
    have h9 := hX.b9.lt
    go_cut [10] (fun x10 wx => ∃ g, x10 = .pointer (some ⟨g, 0, none⟩) ∧ BoxL wx g [.int .i64 t, .int .u64 (v : Int)] ∧ GX w wx s [.int .i64 0, .int .u64 0] [.int .i64 0, .int .i64 0, .int .i64 0, .int .u64 0, .int .u64 0, .int .u64 0, .int .i64 0, .int .i64 0] ∧ w.heap.size + 1 + 1 < g)
    case first =>
      go_region_held3 (fun _ => True) (trivial) (first
        | (go_at_call 32; (with_reducible refine (hN1 _ (by repeat (first | with_reducible exact Below.refl _ _ | assumption | with_reducible refine Below.drew ?_ | with_reducible refine Below.alloc ?_ (by (first | assumption | omega | (simp; done) | (simp; omega))) _))).mono ?_); rintro e w5 ⟨rfl, rfl⟩)
        | (go_at_call 32; (with_reducible refine (hN2 _ (by repeat (first | with_reducible exact Below.refl _ _ | assumption | with_reducible refine Below.drew ?_ | with_reducible refine Below.alloc ?_ (by (first | assumption | omega | (simp; done) | (simp; omega))) _))).mono ?_); rintro e w6 ⟨rfl, rfl⟩))
      all_goals
        clear hN1 hN2
        go_wp2_with fail
        go_meet
        with_reducible first
          | exact ⟨_, rfl, (BoxL.new _ _ _).drew, gxdrew (hX.below ((Below.refl _ _).alloc (Nat.le_refl _) _)), h9⟩
          | exact ⟨_, rfl, BoxL.new _ _ _, gxdrew (hX.below ((Below.refl _ _).alloc (Nat.le_refl _) _)), h9⟩
    case rest =>
      obtain ⟨g, rfl, b10, hX, hg⟩ := hcut
      clear hN1 hN2 hr1 hr2 hsg
      go_upto_region 7 with fail
      have px := (GY.mk hX (boxl_nil b10.lt) b10 hg hg : GY w wc s g g _ _ [] _).drew
      clear hX b10 hg
      go_cut [8, 9] (fun x8 x9 wx => x8 = .int .i64 128 ∧ x9 = .int .i64 0 ∧ GX w wx s [.int .i64 t, .int .u64 (v : Int)] [.int .i64 (s'.n : Int), .int .i64 s'.t, .int .i64 s'.d, .int .u64 (s'.v : Int), .int .u64 (s'.e : Int), .int .u64 (s'.x.prev : Int), .int .i64 (s'.x.lead : Int), .int .i64 (s'.x.len : Int)])
      case first =>
        have q0 := px.gx.b5.get8
        have q1 := px.b18.get2
        obtain ⟨u60, u61⟩ := px.gx.b8.get2
        obtain ⟨v60, v61⟩ := px.gx.b8.free2
        obtain ⟨u70, u71, u72, u73, u74, u75, u76, u77⟩ := px.gx.b9.get8
        obtain ⟨v70, v71, v72, v73, v74, v75, v76, v77⟩ := px.gx.b9.free8
        go_region_held3 (fun w' => (w'.cell? ⟨w.heap.size, 0, none⟩ = some (.int .i64 (s.n : Int)) ∧ w'.cell? ⟨w.heap.size, 1, none⟩ = some (.int .i64 s.t) ∧ w'.cell? ⟨w.heap.size, 2, none⟩ = some (.int .i64 s.d) ∧ w'.cell? ⟨w.heap.size, 3, none⟩ = some (.int .u64 (s.v : Int)) ∧ w'.cell? ⟨w.heap.size, 4, none⟩ = some (.int .u64 (s.e : Int)) ∧ w'.cell? ⟨w.heap.size, 5, none⟩ = some (.int .u64 (s.x.prev : Int)) ∧ w'.cell? ⟨w.heap.size, 6, none⟩ = some (.int .i64 (s.x.lead : Int)) ∧ w'.cell? ⟨w.heap.size, 7, none⟩ = some (.int .i64 (s.x.len : Int))) ∧ (w'.cell? ⟨g, 0, none⟩ = some (.int .i64 t) ∧ w'.cell? ⟨g, 1, none⟩ = some (.int .u64 (v : Int))))
          (with_reducible first | exact ⟨px.gx.b5.get8, px.b18.get2⟩ | exact ⟨(px.set8 _ _).gx.b5.get8, (px.set8 _ _).b18.get2⟩ | exact ⟨(px.set9 _ _ _ _ _ _ _ _).gx.b5.get8, (px.set9 _ _ _ _ _ _ _ _).b18.get2⟩ | exact ⟨((px.set8 _ _).set9 _ _ _ _ _ _ _ _).gx.b5.get8, ((px.set8 _ _).set9 _ _ _ _ _ _ _ _).b18.get2⟩ | exact ⟨((px.set9 _ _ _ _ _ _ _ _).set8 _ _).gx.b5.get8, ((px.set9 _ _ _ _ _ _ _ _).set8 _ _).b18.get2⟩) (first
          | (go_at_call 23; (with_reducible refine (hAF _).mono ?_); rintro e w7 ⟨rfl, HB⟩; (with_reducible first | replace px := px.below HB | replace px := (px.set8 _ _).below HB); clear HB u60 u61 v60 v61 u70 u71 u72 u73 u74 u75 u76 u77 v70 v71 v72 v73 v74 v75 v76 v77; obtain ⟨u60, u61⟩ := px.gx.b8.get2; obtain ⟨v60, v61⟩ := px.gx.b8.free2; obtain ⟨u70, u71, u72, u73, u74, u75, u76, u77⟩ := px.gx.b9.get8; obtain ⟨v70, v71, v72, v73, v74, v75, v76, v77⟩ := px.gx.b9.free8))
        all_goals
          clear q0 q1 u60 u61 v60 v61 u70 u71 u72 u73 u74 u75 u76 u77 v70 v71 v72 v73 v74 v75 v76 v77 hAF
          go_wp2_with fail
          go_meet
          with_reducible first
            | exact ⟨rfl, rfl, (px.set9 _ _ _ _ _ _ _ _).gx⟩
            | exact ⟨rfl, rfl, ((px.set8 _ _).set9 _ _ _ _ _ _ _ _).gx⟩
            | exact ⟨rfl, rfl, ((px.set9 _ _ _ _ _ _ _ _).set8 _ _).gx⟩
      case rest =>
        obtain ⟨rfl, rfl, hY⟩ := hcut
        obtain ⟨a0, a1⟩ := hY.b8.get2
        obtain ⟨d0, d1, d2, d3, d4, d5, d6, d7⟩ := hY.b9.get8
        clear px
        go_wp2
        refine bodyPost_ret (v := .tuple #[(.agg #[.int .i64 t, .int .u64 (v : Int)]), (.agg #[.int .i64 (s'.n : Int), .int .i64 s'.t, .int .i64 s'.d, .int .u64 (s'.v : Int), .int .u64 (s'.e : Int), .int .u64 (s'.x.prev : Int), .int .i64 (s'.x.lead : Int), .int .i64 (s'.x.len : Int)]), .int .i64 128, .int .i64 0]) ?_ rfl ⟨rfl, hY.bel⟩
        simp [results, Tryd.results14, go_sem, a0, a1, d0, d1, d2, d3, d4, d5, d6, d7]

end Go.Proofs.YtcnhoohcdkfgkaaDoor

/-
  The contract of the reference's GetSample behind the first sample; and for any state.
-/
namespace Go.Proofs.YtcnhoohcdkfgkaaDoor
open Go.RowKit

theorem rd_tail_end {w : World} {B m c n : Nat} {A : Option Addr} {bs : List Nat} (h : Rd w B A m c bs) (hk : n ≤ m) (he : c = n) : Rd w B A (m - n) (c - n) (bs.drop n) := by
  subst he
  rw [Nat.sub_self]
  exact h.tailEnd hk
theorem GY.onA {w X : World} {s : KS} {g16 g18 : Nat} {l8 l9 l16 l18 : List Value} (h : GY w X s g16 g18 l8 l9 l16 l18) (o : Obj) : GY w (X.alloc o) s g16 g18 l8 l9 l16 l18 := h.below ((Below.refl _ _).alloc (Nat.le_refl _) o)
theorem GY.oth3 {w X : World} {s : KS} {g16 g18 d : Nat} {l8 l9 l16 l18 : List Value} (h : GY w X s g16 g18 l8 l9 l16 l18) (h1 : d ≠ g16) (h2 : d ≠ g18) (h3 : w.heap.size + 1 + 1 < d) (u0 u1 u2 : Value) : GY w (((X.setCell ⟨d, 0, none⟩ (u0)).setCell ⟨d, 1, none⟩ (u1)).setCell ⟨d, 2, none⟩ (u2)) s g16 g18 l8 l9 l16 l18 :=
  ⟨⟨below_set3' h.gx.bel (by omega) _ _ _, ((h.gx.b5.oth (by omega) _ _).oth (by omega) _ _).oth (by omega) _ _, ((h.gx.b8.oth (by omega) _ _).oth (by omega) _ _).oth (by omega) _ _, ((h.gx.b9.oth (by omega) _ _).oth (by omega) _ _).oth (by omega) _ _⟩,
    ((h.b16.oth (Ne.symm h1) _ _).oth (Ne.symm h1) _ _).oth (Ne.symm h1) _ _, ((h.b18.oth (Ne.symm h2) _ _).oth (Ne.symm h2) _ _).oth (Ne.symm h2) _ _, h.h16, h.h18⟩
theorem GY.setV {w X : World} {s : KS} {g16 g18 : Nat} {l8 l9 l16 : List Value} {a b : Value} (h : GY w X s g16 g18 l8 l9 l16 [a, b]) (hne : g16 ≠ g18) (u : Value) : GY w (X.setCell ⟨g18, 1, none⟩ u) s g16 g18 l8 l9 l16 [a, u] :=
  have := h.h18
  ⟨⟨below_set h.gx.bel (by omega) _ _, h.gx.b5.oth (by omega) _ _, h.gx.b8.oth (by omega) _ _, h.gx.b9.oth (by omega) _ _⟩, h.b16.oth hne _ _, h.b18.put 1 _, h.h16, h.h18⟩
theorem GY.set16 {w X : World} {s : KS} {g16 g18 : Nat} {l8 l9 l18 : List Value} {a b c : Value} (h : GY w X s g16 g18 l8 l9 [a, b, c] l18) (hne : g18 ≠ g16) (u0 u1 u2 : Value) : GY w (((X.setCell ⟨g16, 0, none⟩ (u0)).setCell ⟨g16, 1, none⟩ (u1)).setCell ⟨g16, 2, none⟩ (u2)) s g16 g18 l8 l9 [u0, u1, u2] l18 :=
  have := h.h16
  ⟨⟨below_set3' h.gx.bel (by omega) _ _ _, ((h.gx.b5.oth (by omega) _ _).oth (by omega) _ _).oth (by omega) _ _, ((h.gx.b8.oth (by omega) _ _).oth (by omega) _ _).oth (by omega) _ _, ((h.gx.b9.oth (by omega) _ _).oth (by omega) _ _).oth (by omega) _ _⟩,
    h.b16.all3 _ _ _, ((h.b18.oth hne _ _).oth hne _ _).oth hne _ _, h.h16, h.h18⟩
theorem refS_wrap (a b c : Int) : wrap64 (IntKind.u64.wrap (IntKind.u64.wrap (IntKind.u64.wrap a + IntKind.u64.wrap b) + IntKind.u64.wrap c)) = w64 (a + b + c) := by
  rw [w64_wrap, u64_mod, u64_mod, u64_mod, u64_mod, u64_mod]
  unfold w64
  omega

set_option maxRecDepth 20000 in
set_option maxHeartbeats 2000000 in
theorem rget_terr (k : Nat) (s : KS) (A : Option Addr) (m c : Nat) (p : List Bool) (w : World) (hk : k = 1 ∨ k = 2) (h0 : s.n ≠ 0) (h : Rd w w.heap.size A m c (enc p)) (hm : m ≤ 100000) (st : Int) (n e : Nat) (hd : DGets p st n e) (he : e ≠ 0) :
    Calls Tryd.prog 14 #[.int .i64 (k : Int), (.agg #[.int .i64 (s.n : Int), .int .i64 s.t, .int .i64 s.d, .int .u64 (s.v : Int), .int .u64 (s.e : Int), .int .u64 (s.x.prev : Int), .int .i64 (s.x.lead : Int), .int .i64 (s.x.len : Int)]), .slice A m c] w fun f w' => f = .returned (.tuple #[.agg #[.int .i64 0, .int .u64 0], (.agg #[.int .i64 0, .int .i64 0, .int .i64 0, .int .u64 0, .int .u64 0, .int .u64 0, .int .i64 0, .int .i64 0]), .int .i64 0, .int .i64 (e : Int)]) ∧ Below w.heap.size w w' := by
  have hX := sworld_is w s
  have h1 : ((s.n : Int) == 0) = false := by simp [h0]
  have hne : ((e : Int) != 0) = true := by simp [he]
  have hG : ∀ X, Rd X X.heap.size A m c (enc p) → Calls Tryd.prog 33 #[.slice A m c] X fun f X' => f = .returned (.tuple #[.int .i64 st, .int .i64 (n : Int), .int .i64 (e : Int)]) ∧ Below X.heap.size X X' := fun X hX =>
    (rgetdod_any A m c p X hX hm).mono fun f X' ⟨v', n', k', h1, h2, h3⟩ => by
      obtain ⟨rfl, rfl, rfl⟩ := hd.same h1
      exact ⟨h2, h3⟩
  have hr := (h.below hX.bel).more hX.bel.size
  clear h0 he hd h
  rcases kind_tests hk with ⟨k1, k2, k3⟩ | ⟨k1, k2, k3, k4⟩
  all_goals
    clear hk
    go_enter Tryd.func14, Tryd.ntmps14
    go_wp2_with fail
    change Calls _ _ _ (sworld w s) _
    generalize sworld w s = W at *
    refine (hG _ hr).mono ?_
    rintro e' w1 ⟨rfl, hb1⟩
    replace hX := hX.below hb1
    clear hb1 hG hr
    obtain ⟨a0, a1⟩ := hX.b8.get2
    obtain ⟨af0, af1⟩ := hX.b8.free2
    obtain ⟨d0, d1, d2, d3, d4, d5, d6, d7⟩ := hX.b9.get8
    obtain ⟨df0, df1, df2, df3, df4, df5, df6, df7⟩ := hX.b9.free8
    go_wp2
    have hY := hX.zero (.int .i64 0) (.int .u64 0) (.int .i64 0) (.int .i64 0) (.int .i64 0) (.int .u64 0) (.int .u64 0) (.int .u64 0) (.int .i64 0) (.int .i64 0)
    clear a0 a1 af0 af1 d0 d1 d2 d3 d4 d5 d6 d7 df0 df1 df2 df3 df4 df5 df6 df7 hX
    generalize ((((((((((w1.setCell ⟨w.heap.size + 1, 0, none⟩ (.int .i64 0)).setCell ⟨w.heap.size + 1, 1, none⟩ (.int .u64 0)).setCell ⟨w.heap.size + 1 + 1, 0, none⟩ (.int .i64 0)).setCell ⟨w.heap.size + 1 + 1, 1, none⟩ (.int .i64 0)).setCell ⟨w.heap.size + 1 + 1, 2, none⟩ (.int .i64 0)).setCell ⟨w.heap.size + 1 + 1, 3, none⟩ (.int .u64 0)).setCell ⟨w.heap.size + 1 + 1, 4, none⟩ (.int .u64 0)).setCell ⟨w.heap.size + 1 + 1, 5, none⟩ (.int .u64 0)).setCell ⟨w.heap.size + 1 + 1, 6, none⟩ (.int .i64 0)).setCell ⟨w.heap.size + 1 + 1, 7, none⟩ (.int .i64 0)) = X at *
    obtain ⟨a0, a1⟩ := hY.b8.get2
    obtain ⟨d0, d1, d2, d3, d4, d5, d6, d7⟩ := hY.b9.get8
    refine bodyPost_ret (v := .tuple #[.agg #[.int .i64 0, .int .u64 0], (.agg #[.int .i64 0, .int .i64 0, .int .i64 0, .int .u64 0, .int .u64 0, .int .u64 0, .int .i64 0, .int .i64 0]), .int .i64 0, .int .i64 (e : Int)]) ?_ rfl ⟨rfl, hY.bel⟩
    simp [results, Tryd.results14, go_sem, a0, a1, d0, d1, d2, d3, d4, d5, d6, d7]

set_option maxRecDepth 20000 in
set_option maxHeartbeats 8000000 in
theorem rget_later (k : Nat) (s : KS) (A : Option Addr) (m c : Nat) (p : List Bool) (w : World) (hk : k = 1 ∨ k = 2) (hs : s.May) (hn : s.n ≤ 1000000) (h0 : s.n ≠ 0) (h : Rd w w.heap.size A m c (enc p)) (hm : m ≤ 100000) (st : Int) (n : Nat) (hd : DGets p st n 0)
    (v : Nat) (y : XS) (j e : Nat) (hv : VGets k s (p.drop n) v y j e) :
    Calls Tryd.prog 14 #[.int .i64 (k : Int), (.agg #[.int .i64 (s.n : Int), .int .i64 s.t, .int .i64 s.d, .int .u64 (s.v : Int), .int .u64 (s.e : Int), .int .u64 (s.x.prev : Int), .int .i64 (s.x.lead : Int), .int .i64 (s.x.len : Int)]), .slice A m c] w fun f w' => f = .returned (.tuple #[(.agg #[.int .i64 (laterK k s st n 0 v y j e).t, .int .u64 ((laterK k s st n 0 v y j e).v : Int)]), (.agg #[.int .i64 ((laterK k s st n 0 v y j e).s.n : Int), .int .i64 (laterK k s st n 0 v y j e).s.t, .int .i64 (laterK k s st n 0 v y j e).s.d, .int .u64 ((laterK k s st n 0 v y j e).s.v : Int), .int .u64 ((laterK k s st n 0 v y j e).s.e : Int), .int .u64 ((laterK k s st n 0 v y j e).s.x.prev : Int), .int .i64 ((laterK k s st n 0 v y j e).s.x.lead : Int), .int .i64 ((laterK k s st n 0 v y j e).s.x.len : Int)]), .int .i64 ((laterK k s st n 0 v y j e).n : Int), .int .i64 ((laterK k s st n 0 v y j e).e : Int)]) ∧ Below w.heap.size w w' := by
  have hl : p.length = m := by have := h.len; rwa [enc_length] at this
  have hX := sworld_is w s
  have h1 : ((s.n : Int) == 0) = false := by simp [h0]
  have hG : ∀ X, Rd X X.heap.size A m c (enc p) → Calls Tryd.prog 33 #[.slice A m c] X fun f X' => f = .returned (.tuple #[.int .i64 st, .int .i64 (n : Int), .int .i64 0]) ∧ Below X.heap.size X X' := fun X hX =>
    (rgetdod_any A m c p X hX hm).mono fun f X' ⟨v', n', k', h1, h2, h3⟩ => by
      obtain ⟨rfl, rfl, rfl⟩ := hd.same h1
      exact ⟨h2, h3⟩
  have hr := (h.below hX.bel).more hX.bel.size
  have hnm : n ≤ m := by rw [← hl]; exact (dgets_back hd).2
  have i1 := (gets_in hd).2.1
  have i2 := vgets_in hs hv
  have hS := refS_wrap s.t s.d st
  have HV := Lib.hid hv
  have HL : Hid (laterK k s st n 0 v y j e = if e ≠ 0 then badK e else if w64 (s.t + s.d + st) ≤ s.t then badK 4 else ⟨w64 (s.t + s.d + st), v, afterK k s (w64 (s.t + s.d + st)) v y, n + j, 0⟩) := Lib.hid (by unfold laterK; rw [if_neg (by omega)])
  have hAF := fun X => refafter_any k s (w64 (s.t + s.d + st)) v y X hk hn
  generalize laterK k s st n 0 v y j e = R at *
  generalize w64 (s.t + s.d + st) = t at *
  generalize afterK k s t v y = s' at *
  have hc := h.cap
  have hn0 : (0 : Int) ≤ (n : Int) := by omega
  have hnm' : (n : Int) ≤ (m : Int) := by omega
  have hmc' : (m : Int) ≤ (c : Int) := by omega
  clear h0 hd hv h
  have HK : Hid (k = 1 ∨ k = 2) := Lib.hid hk
  rcases hk with hk | hk
  · -- by what is other than ahead
    have k1 : ((k : Int) != 1) = false := by simp [hk]
    have k2 : ((k : Int) == 2) = false := by simp [hk]
    have HK1 := Lib.hid hk
    clear hk
    go_enter Tryd.func14, Tryd.ntmps14
    go_wp2_with fail
    change Calls _ _ _ (sworld w s) _
    generalize sworld w s = W at *
    refine (hG _ hr).mono ?_
    rintro e' w1 ⟨rfl, hb1⟩
    replace hX := hX.below hb1
    replace hr := (hr.below hb1).more hb1.size
    clear hb1 hG
    obtain ⟨q0, q1, q2, q3, q4, q5, q6, q7⟩ := hX.b5.get8
    go_upto_region 14 with fail
    have b14 := (BoxL.new w1 [.int .i64 t, .int .u64 0] 40).onA (.cells #[.int .u64 0, .int .i64 0, .int .i64 0] 30)
    have b15 := BoxL.new (w1.alloc (.cells #[.int .i64 t, .int .u64 0] 40)) [.int .u64 0, .int .i64 0, .int .i64 0] 30
    simp only [World.size_alloc] at b15
    have hal : Below w1.heap.size w1 ((w1.alloc (.cells #[.int .i64 t, .int .u64 0] 40)).alloc (.cells #[.int .u64 0, .int .i64 0, .int .i64 0] 30)) := by repeat (first | with_reducible exact Below.refl _ _ | assumption | with_reducible refine Below.drew ?_ | with_reducible refine Below.alloc ?_ (by (first | assumption | omega | (simp; done) | (simp; omega))) _)
    have hlt9 := hX.b9.lt
    have gy : GY w _ s (w1.heap.size + 1) w1.heap.size _ _ _ _ := GY.mk (hX.below hal) b15 b14 (by omega) (by omega)
    replace hr := (hr.below hal).more hal.size
    clear b14 b15 hal q0 q1 q2 q3 q4 q5 q6 q7 hX
    generalize (w1.alloc (.cells #[.int .i64 t, .int .u64 0] 40)).alloc (.cells #[.int .u64 0, .int .i64 0, .int .i64 0] 30) = W2 at *
    generalize w1.heap.size = g at *
    go_upto_if 78 with fail
    go_cut [13, 16] (fun x13 x16 wx => x13 = .int .i64 (e : Int) ∧ x16 = .int .i64 (j : Int) ∧ GY w wx s (g + 1) g [.int .i64 0, .int .u64 0] [.int .i64 0, .int .i64 0, .int .i64 0, .int .u64 0, .int .u64 0, .int .u64 0, .int .i64 0, .int .i64 0] [.int .u64 (y.prev : Int), .int .i64 (y.lead : Int), .int .i64 (y.len : Int)] [.int .i64 t, .int .u64 (v : Int)])
    case first =>
      obtain ⟨q0, q1, q2, q3, q4, q5, q6, q7⟩ := gy.gx.b5.get8
      have hv := HV.out
      unfold VGets at hv
      rw [if_pos HK1.out] at hv
      have hG2 : ∀ X A' m' c', Rd X X.heap.size A' m' c' (enc (p.drop n)) → m' ≤ 100000 → Calls Tryd.prog 34 #[(.agg #[.int .u64 (s.x.prev : Int), .int .i64 (s.x.lead : Int), .int .i64 (s.x.len : Int)]), .slice A' m' c'] X fun f X' => f = .returned (.tuple #[.int .u64 (v : Int), (.agg #[.int .u64 (y.prev : Int), .int .i64 (y.lead : Int), .int .i64 (y.len : Int)]), .int .i64 (j : Int), .int .i64 (e : Int)]) ∧ Below X.heap.size X X' := fun X A' m' c' hX hm' => by
        obtain ⟨rfl, rfl, rfl, rfl⟩ := hv
        exact rgetx_any A' m' c' _ s.x.prev s.x.lead s.x.len X hX hm' hs.x
      clear HV hv HL hAF
      by_cases hce : c = n
      · have hr2 := rd_tail_end hr hnm hce
        rw [enc_drop] at hr2
        have hce' : (c = n) = True := eq_true hce
        clear hce
        go_upto_region 19 with fail
        go_cut [20, 21, 22, 23] (fun x20 x21 x22 x23 wx => ∃ g21, x20 = .int .u64 (v : Int) ∧ x21 = .pointer (some ⟨g21, 0, none⟩) ∧ x22 = .int .i64 (j : Int) ∧ x23 = .int .i64 (e : Int) ∧ GY w wx s (g + 1) g [.int .i64 0, .int .u64 0] [.int .i64 0, .int .i64 0, .int .i64 0, .int .u64 0, .int .u64 0, .int .u64 0, .int .i64 0, .int .i64 0] [.int .u64 0, .int .i64 0, .int .i64 0] [.int .i64 t, .int .u64 0] ∧ BoxL wx g21 [.int .u64 (y.prev : Int), .int .i64 (y.lead : Int), .int .i64 (y.len : Int)] ∧ g21 ≠ g + 1 ∧ g21 ≠ g)
        case first =>
          have px := gy.drew
          have hrd := hr2.drew
          have hn0 := World.new_ne W2 ⟨w.heap.size, 5, none⟩ q5
          have hn1 := World.new_ne W2 ⟨w.heap.size, 6, none⟩ q6
          have hn2 := World.new_ne W2 ⟨w.heap.size, 7, none⟩ q7
          have hlg := gy.b16.lt
          have h16 := gy.h16
          have h18 := gy.h18
          have hd1 : W2.heap.size ≠ g + 1 := by omega
          have hd2 : W2.heap.size ≠ g := by omega
          have hd3 : w.heap.size + 1 + 1 < W2.heap.size := by omega
          clear q0 q1 q2 q3 q4 q5 q6 q7
          obtain ⟨q0, q1, q2, q3, q4, q5, q6, q7⟩ := gy.gx.b5.get8
          go_region_held3 (fun w' => (w'.cell? ⟨w.heap.size, 0, none⟩ = some (.int .i64 (s.n : Int)) ∧ w'.cell? ⟨w.heap.size, 1, none⟩ = some (.int .i64 s.t) ∧ w'.cell? ⟨w.heap.size, 2, none⟩ = some (.int .i64 s.d) ∧ w'.cell? ⟨w.heap.size, 3, none⟩ = some (.int .u64 (s.v : Int)) ∧ w'.cell? ⟨w.heap.size, 4, none⟩ = some (.int .u64 (s.e : Int)) ∧ w'.cell? ⟨w.heap.size, 5, none⟩ = some (.int .u64 (s.x.prev : Int)) ∧ w'.cell? ⟨w.heap.size, 6, none⟩ = some (.int .i64 (s.x.lead : Int)) ∧ w'.cell? ⟨w.heap.size, 7, none⟩ = some (.int .i64 (s.x.len : Int))))
            (with_reducible first | exact px.gx.b5.get8 | exact (px.onA _).gx.b5.get8 | exact ((gy.onA _).drew).gx.b5.get8 | exact (px.oth3 hd1 hd2 hd3 _ _ _).gx.b5.get8) (first
            | (go_at_call 34; (with_reducible refine (hG2 _ _ _ _ hrd (by omega)).mono ?_); rintro e' w3 ⟨rfl, HB⟩; replace px := px.below HB; clear HB hrd)
            | (go_at_call 34; have hrd2 := (hr2.onA (.cells #[.int .u64 0, .int .i64 0, .int .i64 0] 30)).drew; have b21 := (BoxL.new W2 [.int .u64 0, .int .i64 0, .int .i64 0] 30).drew; replace px := (gy.onA (.cells #[.int .u64 0, .int .i64 0, .int .i64 0] 30)).drew; (with_reducible refine (hG2 _ _ _ _ hrd2 (by omega)).mono ?_); rintro e' w3 ⟨rfl, HB⟩; replace px := px.below HB; replace b21 := b21.below HB; obtain ⟨u0, u1, u2⟩ := b21.get3; obtain ⟨f0, f1, f2⟩ := b21.free3; clear HB hrd hrd2))
          all_goals
            go_wp2_with fail
            go_meet
            with_reducible first
              | exact ⟨_, rfl, rfl, rfl, rfl, px.onA _, BoxL.new _ _ _, Nat.ne_of_gt px.b16.lt, Nat.ne_of_gt px.b18.lt⟩
              | exact ⟨_, rfl, rfl, rfl, rfl, px.oth3 hd1 hd2 hd3 _ _ _, b21.all3 _ _ _, hd1, hd2⟩
        case rest =>
          obtain ⟨g21, rfl, rfl, rfl, rfl, gy, b21, hng, hng2⟩ := hcut
          have hng3 := Ne.symm hng2
          have hng4 := Ne.symm hng
          obtain ⟨z0, z1⟩ := gy.b18.get2
          obtain ⟨f0, f1⟩ := gy.b18.free2
          obtain ⟨y0, y1, y2⟩ := b21.get3
          obtain ⟨u0, u1, u2⟩ := gy.b16.get3
          obtain ⟨uf0, uf1, uf2⟩ := gy.b16.free3
          clear q0 q1 q2 q3 q4 q5 q6 q7
          go_wp2_with fail
          go_meet
          exact ⟨rfl, rfl, (gy.setV (by omega) _).set16 (by omega) _ _ _⟩
      · have hr2 := hr.tail (a := n) hnm
        rw [enc_drop] at hr2
        go_upto_region 19 with fail
        go_cut [20, 21, 22, 23] (fun x20 x21 x22 x23 wx => ∃ g21, x20 = .int .u64 (v : Int) ∧ x21 = .pointer (some ⟨g21, 0, none⟩) ∧ x22 = .int .i64 (j : Int) ∧ x23 = .int .i64 (e : Int) ∧ GY w wx s (g + 1) g [.int .i64 0, .int .u64 0] [.int .i64 0, .int .i64 0, .int .i64 0, .int .u64 0, .int .u64 0, .int .u64 0, .int .i64 0, .int .i64 0] [.int .u64 0, .int .i64 0, .int .i64 0] [.int .i64 t, .int .u64 0] ∧ BoxL wx g21 [.int .u64 (y.prev : Int), .int .i64 (y.lead : Int), .int .i64 (y.len : Int)] ∧ g21 ≠ g + 1 ∧ g21 ≠ g)
        case first =>
          have px := gy.drew
          have hrd := hr2.drew
          have hn0 := World.new_ne W2 ⟨w.heap.size, 5, none⟩ q5
          have hn1 := World.new_ne W2 ⟨w.heap.size, 6, none⟩ q6
          have hn2 := World.new_ne W2 ⟨w.heap.size, 7, none⟩ q7
          have hlg := gy.b16.lt
          have h16 := gy.h16
          have h18 := gy.h18
          have hd1 : W2.heap.size ≠ g + 1 := by omega
          have hd2 : W2.heap.size ≠ g := by omega
          have hd3 : w.heap.size + 1 + 1 < W2.heap.size := by omega
          clear q0 q1 q2 q3 q4 q5 q6 q7
          obtain ⟨q0, q1, q2, q3, q4, q5, q6, q7⟩ := gy.gx.b5.get8
          go_region_held3 (fun w' => (w'.cell? ⟨w.heap.size, 0, none⟩ = some (.int .i64 (s.n : Int)) ∧ w'.cell? ⟨w.heap.size, 1, none⟩ = some (.int .i64 s.t) ∧ w'.cell? ⟨w.heap.size, 2, none⟩ = some (.int .i64 s.d) ∧ w'.cell? ⟨w.heap.size, 3, none⟩ = some (.int .u64 (s.v : Int)) ∧ w'.cell? ⟨w.heap.size, 4, none⟩ = some (.int .u64 (s.e : Int)) ∧ w'.cell? ⟨w.heap.size, 5, none⟩ = some (.int .u64 (s.x.prev : Int)) ∧ w'.cell? ⟨w.heap.size, 6, none⟩ = some (.int .i64 (s.x.lead : Int)) ∧ w'.cell? ⟨w.heap.size, 7, none⟩ = some (.int .i64 (s.x.len : Int))))
            (with_reducible first | exact px.gx.b5.get8 | exact (px.onA _).gx.b5.get8 | exact ((gy.onA _).drew).gx.b5.get8 | exact (px.oth3 hd1 hd2 hd3 _ _ _).gx.b5.get8) (first
            | (go_at_call 34; (with_reducible refine (hG2 _ _ _ _ hrd (by omega)).mono ?_); rintro e' w3 ⟨rfl, HB⟩; replace px := px.below HB; clear HB hrd)
            | (go_at_call 34; have hrd2 := (hr2.onA (.cells #[.int .u64 0, .int .i64 0, .int .i64 0] 30)).drew; have b21 := (BoxL.new W2 [.int .u64 0, .int .i64 0, .int .i64 0] 30).drew; replace px := (gy.onA (.cells #[.int .u64 0, .int .i64 0, .int .i64 0] 30)).drew; (with_reducible refine (hG2 _ _ _ _ hrd2 (by omega)).mono ?_); rintro e' w3 ⟨rfl, HB⟩; replace px := px.below HB; replace b21 := b21.below HB; obtain ⟨u0, u1, u2⟩ := b21.get3; obtain ⟨f0, f1, f2⟩ := b21.free3; clear HB hrd hrd2))
          all_goals
            go_wp2_with fail
            go_meet
            with_reducible first
              | exact ⟨_, rfl, rfl, rfl, rfl, px.onA _, BoxL.new _ _ _, Nat.ne_of_gt px.b16.lt, Nat.ne_of_gt px.b18.lt⟩
              | exact ⟨_, rfl, rfl, rfl, rfl, px.oth3 hd1 hd2 hd3 _ _ _, b21.all3 _ _ _, hd1, hd2⟩
        case rest =>
          obtain ⟨g21, rfl, rfl, rfl, rfl, gy, b21, hng, hng2⟩ := hcut
          have hng3 := Ne.symm hng2
          have hng4 := Ne.symm hng
          obtain ⟨z0, z1⟩ := gy.b18.get2
          obtain ⟨f0, f1⟩ := gy.b18.free2
          obtain ⟨y0, y1, y2⟩ := b21.get3
          obtain ⟨u0, u1, u2⟩ := gy.b16.get3
          obtain ⟨uf0, uf1, uf2⟩ := gy.b16.free3
          clear q0 q1 q2 q3 q4 q5 q6 q7
          go_wp2_with fail
          go_meet
          exact ⟨rfl, rfl, (gy.setV (by omega) _).set16 (by omega) _ _ _⟩
    case rest =>
      obtain ⟨rfl, rfl, gy⟩ := hcut
      by_cases he : e = 0
      · have he1 : ((e : Int) != 0) = false := by simp [he]
        by_cases ht : t ≤ s.t
        · obtain rfl : R = badK 4 := by rw [HL.out, if_neg (by omega), if_pos ht]
          clear he HV HL hAF
          obtain ⟨q0, q1, q2, q3, q4, q5, q6, q7⟩ := gy.gx.b5.get8
          obtain ⟨z0, z1⟩ := gy.b18.get2
          obtain ⟨a0, a1⟩ := gy.gx.b8.get2
          obtain ⟨af0, af1⟩ := gy.gx.b8.free2
          obtain ⟨d0, d1, d2, d3, d4, d5, d6, d7⟩ := gy.gx.b9.get8
          obtain ⟨df0, df1, df2, df3, df4, df5, df6, df7⟩ := gy.gx.b9.free8
          go_wp2
          have hY := gy.gx.zero (.int .i64 0) (.int .u64 0) (.int .i64 0) (.int .i64 0) (.int .i64 0) (.int .u64 0) (.int .u64 0) (.int .u64 0) (.int .i64 0) (.int .i64 0)
          clear a0 a1 af0 af1 d0 d1 d2 d3 d4 d5 d6 d7 df0 df1 df2 df3 df4 df5 df6 df7 gy
          generalize ((((((((((wc.setCell ⟨w.heap.size + 1, 0, none⟩ (.int .i64 0)).setCell ⟨w.heap.size + 1, 1, none⟩ (.int .u64 0)).setCell ⟨w.heap.size + 1 + 1, 0, none⟩ (.int .i64 0)).setCell ⟨w.heap.size + 1 + 1, 1, none⟩ (.int .i64 0)).setCell ⟨w.heap.size + 1 + 1, 2, none⟩ (.int .i64 0)).setCell ⟨w.heap.size + 1 + 1, 3, none⟩ (.int .u64 0)).setCell ⟨w.heap.size + 1 + 1, 4, none⟩ (.int .u64 0)).setCell ⟨w.heap.size + 1 + 1, 5, none⟩ (.int .u64 0)).setCell ⟨w.heap.size + 1 + 1, 6, none⟩ (.int .i64 0)).setCell ⟨w.heap.size + 1 + 1, 7, none⟩ (.int .i64 0)) = X at *
          obtain ⟨a0, a1⟩ := hY.b8.get2
          obtain ⟨d0, d1, d2, d3, d4, d5, d6, d7⟩ := hY.b9.get8
          refine bodyPost_ret (v := .tuple #[.agg #[.int .i64 0, .int .u64 0], (.agg #[.int .i64 0, .int .i64 0, .int .i64 0, .int .u64 0, .int .u64 0, .int .u64 0, .int .i64 0, .int .i64 0]), .int .i64 0, .int .i64 4]) ?_ rfl ⟨rfl, hY.bel⟩
          simp [results, Tryd.results14, go_sem, a0, a1, d0, d1, d2, d3, d4, d5, d6, d7]
        · obtain rfl : R = ⟨t, v, s', n + j, 0⟩ := by rw [HL.out, if_neg (by omega), if_neg ht]
          have hj : IntKind.i64.wrap ((n : Int) + (j : Int)) = ((n + j : Nat) : Int) := by rw [IntKind.wrap_i64]; omega
          clear he HV HL
          obtain ⟨q0, q1, q2, q3, q4, q5, q6, q7⟩ := gy.gx.b5.get8
          obtain ⟨z0, z1⟩ := gy.b18.get2
          go_upto_region 28 with fail
          clear q0 q1 q2 q3 q4 q5 q6 q7 z0 z1
          replace gy := gy.drew
          go_cut [8, 9] (fun x8 x9 wx => x8 = .int .i64 ((n + j : Nat) : Int) ∧ x9 = .int .i64 0 ∧ GX w wx s [.int .i64 t, .int .u64 (v : Int)] [.int .i64 (s'.n : Int), .int .i64 s'.t, .int .i64 s'.d, .int .u64 (s'.v : Int), .int .u64 (s'.e : Int), .int .u64 (s'.x.prev : Int), .int .i64 (s'.x.lead : Int), .int .i64 (s'.x.len : Int)])
          case first =>
            have px := gy
            clear gy
            have q0 := px.cells
            obtain ⟨u60, u61⟩ := px.gx.b8.get2
            obtain ⟨v60, v61⟩ := px.gx.b8.free2
            obtain ⟨u70, u71, u72, u73, u74, u75, u76, u77⟩ := px.gx.b9.get8
            obtain ⟨v70, v71, v72, v73, v74, v75, v76, v77⟩ := px.gx.b9.free8
            go_region_held3 (fun w' => (w'.cell? ⟨w.heap.size, 0, none⟩ = some (.int .i64 (s.n : Int)) ∧ w'.cell? ⟨w.heap.size, 1, none⟩ = some (.int .i64 s.t) ∧ w'.cell? ⟨w.heap.size, 2, none⟩ = some (.int .i64 s.d) ∧ w'.cell? ⟨w.heap.size, 3, none⟩ = some (.int .u64 (s.v : Int)) ∧ w'.cell? ⟨w.heap.size, 4, none⟩ = some (.int .u64 (s.e : Int)) ∧ w'.cell? ⟨w.heap.size, 5, none⟩ = some (.int .u64 (s.x.prev : Int)) ∧ w'.cell? ⟨w.heap.size, 6, none⟩ = some (.int .i64 (s.x.lead : Int)) ∧ w'.cell? ⟨w.heap.size, 7, none⟩ = some (.int .i64 (s.x.len : Int))) ∧ (w'.cell? ⟨g + 1, 0, none⟩ = some (.int .u64 (y.prev : Int)) ∧ w'.cell? ⟨g + 1, 1, none⟩ = some (.int .i64 (y.lead : Int)) ∧ w'.cell? ⟨g + 1, 2, none⟩ = some (.int .i64 (y.len : Int))) ∧ (w'.cell? ⟨g, 0, none⟩ = some (.int .i64 t) ∧ w'.cell? ⟨g, 1, none⟩ = some (.int .u64 (v : Int))))
              (with_reducible first | exact px.cells | exact (px.set8 _ _).cells | exact (px.set9 _ _ _ _ _ _ _ _).cells | exact ((px.set8 _ _).set9 _ _ _ _ _ _ _ _).cells | exact ((px.set9 _ _ _ _ _ _ _ _).set8 _ _).cells) (first
              | (go_at_call 23; (with_reducible refine (hAF _).mono ?_); rintro e w7 ⟨rfl, HB⟩; (with_reducible first | replace px := px.below HB | replace px := (px.set8 _ _).below HB); clear HB u60 u61 v60 v61 u70 u71 u72 u73 u74 u75 u76 u77 v70 v71 v72 v73 v74 v75 v76 v77; obtain ⟨u60, u61⟩ := px.gx.b8.get2; obtain ⟨v60, v61⟩ := px.gx.b8.free2; obtain ⟨u70, u71, u72, u73, u74, u75, u76, u77⟩ := px.gx.b9.get8; obtain ⟨v70, v71, v72, v73, v74, v75, v76, v77⟩ := px.gx.b9.free8))
            all_goals
              clear q0 u60 u61 v60 v61 u70 u71 u72 u73 u74 u75 u76 u77 v70 v71 v72 v73 v74 v75 v76 v77 hAF
              go_wp2_with fail
              go_meet
              with_reducible first
                | exact ⟨rfl, rfl, (px.set9 _ _ _ _ _ _ _ _).gx⟩
                | exact ⟨rfl, rfl, ((px.set8 _ _).set9 _ _ _ _ _ _ _ _).gx⟩
                | exact ⟨rfl, rfl, ((px.set9 _ _ _ _ _ _ _ _).set8 _ _).gx⟩
          case rest =>
            obtain ⟨rfl, rfl, hY⟩ := hcut
            obtain ⟨a0, a1⟩ := hY.b8.get2
            obtain ⟨d0, d1, d2, d3, d4, d5, d6, d7⟩ := hY.b9.get8
            clear gy
            go_wp2
            refine bodyPost_ret (v := .tuple #[(.agg #[.int .i64 t, .int .u64 (v : Int)]), (.agg #[.int .i64 (s'.n : Int), .int .i64 s'.t, .int .i64 s'.d, .int .u64 (s'.v : Int), .int .u64 (s'.e : Int), .int .u64 (s'.x.prev : Int), .int .i64 (s'.x.lead : Int), .int .i64 (s'.x.len : Int)]), .int .i64 ((n + j : Nat) : Int), .int .i64 0]) ?_ rfl ⟨rfl, hY.bel⟩
            simp [results, Tryd.results14, go_sem, a0, a1, d0, d1, d2, d3, d4, d5, d6, d7]
      · have he1 : ((e : Int) != 0) = true := by simp [he]
        obtain rfl : R = badK e := by rw [HL.out, if_pos he]
        clear he HV HL hAF
        obtain ⟨a0, a1⟩ := gy.gx.b8.get2
        obtain ⟨af0, af1⟩ := gy.gx.b8.free2
        obtain ⟨d0, d1, d2, d3, d4, d5, d6, d7⟩ := gy.gx.b9.get8
        obtain ⟨df0, df1, df2, df3, df4, df5, df6, df7⟩ := gy.gx.b9.free8
        go_wp2
        have hY := gy.gx.zero (.int .i64 0) (.int .u64 0) (.int .i64 0) (.int .i64 0) (.int .i64 0) (.int .u64 0) (.int .u64 0) (.int .u64 0) (.int .i64 0) (.int .i64 0)
        clear a0 a1 af0 af1 d0 d1 d2 d3 d4 d5 d6 d7 df0 df1 df2 df3 df4 df5 df6 df7 gy
        generalize ((((((((((wc.setCell ⟨w.heap.size + 1, 0, none⟩ (.int .i64 0)).setCell ⟨w.heap.size + 1, 1, none⟩ (.int .u64 0)).setCell ⟨w.heap.size + 1 + 1, 0, none⟩ (.int .i64 0)).setCell ⟨w.heap.size + 1 + 1, 1, none⟩ (.int .i64 0)).setCell ⟨w.heap.size + 1 + 1, 2, none⟩ (.int .i64 0)).setCell ⟨w.heap.size + 1 + 1, 3, none⟩ (.int .u64 0)).setCell ⟨w.heap.size + 1 + 1, 4, none⟩ (.int .u64 0)).setCell ⟨w.heap.size + 1 + 1, 5, none⟩ (.int .u64 0)).setCell ⟨w.heap.size + 1 + 1, 6, none⟩ (.int .i64 0)).setCell ⟨w.heap.size + 1 + 1, 7, none⟩ (.int .i64 0)) = X at *
        obtain ⟨a0, a1⟩ := hY.b8.get2
        obtain ⟨d0, d1, d2, d3, d4, d5, d6, d7⟩ := hY.b9.get8
        refine bodyPost_ret (v := .tuple #[.agg #[.int .i64 0, .int .u64 0], (.agg #[.int .i64 0, .int .i64 0, .int .i64 0, .int .u64 0, .int .u64 0, .int .u64 0, .int .i64 0, .int .i64 0]), .int .i64 0, .int .i64 (e : Int)]) ?_ rfl ⟨rfl, hY.bel⟩
        simp [results, Tryd.results14, go_sem, a0, a1, d0, d1, d2, d3, d4, d5, d6, d7]
  · -- by how the steps change
    have k1 : ((k : Int) != 1) = true := by simp [hk]
    have k2 : ((k : Int) != 2) = false := by simp [hk]
    have k3 : ((k : Int) == 2) = true := by simp [hk]
    have HK2 := Lib.hid hk
    clear hk
    go_enter Tryd.func14, Tryd.ntmps14
    go_wp2_with fail
    change Calls _ _ _ (sworld w s) _
    generalize sworld w s = W at *
    refine (hG _ hr).mono ?_
    rintro e' w1 ⟨rfl, hb1⟩
    replace hX := hX.below hb1
    replace hr := (hr.below hb1).more hb1.size
    clear hb1 hG
    obtain ⟨q0, q1, q2, q3, q4, q5, q6, q7⟩ := hX.b5.get8
    go_upto_region 14 with fail
    have b14 := (BoxL.new w1 [.int .i64 t, .int .u64 0] 40).onA (.cells #[.int .u64 0, .int .i64 0, .int .i64 0] 30)
    have b15 := BoxL.new (w1.alloc (.cells #[.int .i64 t, .int .u64 0] 40)) [.int .u64 0, .int .i64 0, .int .i64 0] 30
    simp only [World.size_alloc] at b15
    have hal : Below w1.heap.size w1 ((w1.alloc (.cells #[.int .i64 t, .int .u64 0] 40)).alloc (.cells #[.int .u64 0, .int .i64 0, .int .i64 0] 30)) := by repeat (first | with_reducible exact Below.refl _ _ | assumption | with_reducible refine Below.drew ?_ | with_reducible refine Below.alloc ?_ (by (first | assumption | omega | (simp; done) | (simp; omega))) _)
    have hlt9 := hX.b9.lt
    have gy : GY w _ s (w1.heap.size + 1) w1.heap.size _ _ _ _ := GY.mk (hX.below hal) b15 b14 (by omega) (by omega)
    replace hr := (hr.below hal).more hal.size
    clear b14 b15 hal q0 q1 q2 q3 q4 q5 q6 q7 hX
    generalize (w1.alloc (.cells #[.int .i64 t, .int .u64 0] 40)).alloc (.cells #[.int .u64 0, .int .i64 0, .int .i64 0] 30) = W2 at *
    generalize w1.heap.size = g at *
    go_upto_if 78 with fail
    go_cut [13, 16] (fun x13 x16 wx => x13 = .int .i64 (e : Int) ∧ x16 = .int .i64 (j : Int) ∧ GY w wx s (g + 1) g [.int .i64 0, .int .u64 0] [.int .i64 0, .int .i64 0, .int .i64 0, .int .u64 0, .int .u64 0, .int .u64 0, .int .i64 0, .int .i64 0] [.int .u64 (y.prev : Int), .int .i64 (y.lead : Int), .int .i64 (y.len : Int)] [.int .i64 t, .int .u64 (v : Int)])
    case first =>
      obtain ⟨q0, q1, q2, q3, q4, q5, q6, q7⟩ := gy.gx.b5.get8
      have hv := HV.out
      unfold VGets at hv
      rw [if_neg (by rw [HK2.out]; omega)] at hv
      obtain ⟨st2, hd2, hve, hye⟩ := hv
      have hu := sumE_wrap s.v s.e st2
      rw [← hve] at hu
      have hG2 : ∀ X A' m' c', Rd X X.heap.size A' m' c' (enc (p.drop n)) → m' ≤ 100000 → Calls Tryd.prog 33 #[.slice A' m' c'] X fun f X' => f = .returned (.tuple #[.int .i64 st2, .int .i64 (j : Int), .int .i64 (e : Int)]) ∧ Below X.heap.size X X' := fun X A' m' c' hX hm' =>
        (rgetdod_any A' m' c' _ X hX hm').mono fun f X' ⟨v', n', k', h1, h2, h3⟩ => by
          obtain ⟨rfl, rfl, rfl⟩ := hd2.same h1
          exact ⟨h2, h3⟩
      clear HV hd2 hve HL hAF
      subst hye
      by_cases hce : c = n
      · have hr2 := rd_tail_end hr hnm hce
        rw [enc_drop] at hr2
        have hce' : (c = n) = True := eq_true hce
        clear hce
        go_wp2_with fail
        refine (hG2 _ _ _ _ hr2 (by omega)).mono ?_
        rintro e' w3 ⟨rfl, hb3⟩
        replace gy := gy.below hb3
        clear q0 q1 q2 q3 q4 q5 q6 q7
        obtain ⟨q0, q1, q2, q3, q4, q5, q6, q7⟩ := gy.gx.b5.get8
        obtain ⟨z0, z1⟩ := gy.b18.get2
        obtain ⟨f0, f1⟩ := gy.b18.free2
        go_wp2_with fail
        go_meet
        exact ⟨rfl, rfl, ⟨gy.gx.bel.setCell (by have := gy.h18; simp only; omega) _, gy.gx.b5.oth (by have := gy.h18; omega) _ _, gy.gx.b8.oth (by have := gy.h18; omega) _ _, gy.gx.b9.oth (by have := gy.h18; omega) _ _⟩, gy.b16.oth (by omega) _ _, gy.b18.put 1 _, gy.h16, gy.h18⟩
      · have hr2 := hr.tail (a := n) hnm
        rw [enc_drop] at hr2
        go_wp2_with fail
        refine (hG2 _ _ _ _ hr2 (by omega)).mono ?_
        rintro e' w3 ⟨rfl, hb3⟩
        replace gy := gy.below hb3
        clear q0 q1 q2 q3 q4 q5 q6 q7
        obtain ⟨q0, q1, q2, q3, q4, q5, q6, q7⟩ := gy.gx.b5.get8
        obtain ⟨z0, z1⟩ := gy.b18.get2
        obtain ⟨f0, f1⟩ := gy.b18.free2
        go_wp2_with fail
        go_meet
        exact ⟨rfl, rfl, ⟨gy.gx.bel.setCell (by have := gy.h18; simp only; omega) _, gy.gx.b5.oth (by have := gy.h18; omega) _ _, gy.gx.b8.oth (by have := gy.h18; omega) _ _, gy.gx.b9.oth (by have := gy.h18; omega) _ _⟩, gy.b16.oth (by omega) _ _, gy.b18.put 1 _, gy.h16, gy.h18⟩
    case rest =>
      obtain ⟨rfl, rfl, gy⟩ := hcut
      by_cases he : e = 0
      · have he1 : ((e : Int) != 0) = false := by simp [he]
        by_cases ht : t ≤ s.t
        · obtain rfl : R = badK 4 := by rw [HL.out, if_neg (by omega), if_pos ht]
          clear he HV HL hAF
          obtain ⟨q0, q1, q2, q3, q4, q5, q6, q7⟩ := gy.gx.b5.get8
          obtain ⟨z0, z1⟩ := gy.b18.get2
          obtain ⟨a0, a1⟩ := gy.gx.b8.get2
          obtain ⟨af0, af1⟩ := gy.gx.b8.free2
          obtain ⟨d0, d1, d2, d3, d4, d5, d6, d7⟩ := gy.gx.b9.get8
          obtain ⟨df0, df1, df2, df3, df4, df5, df6, df7⟩ := gy.gx.b9.free8
          go_wp2
          have hY := gy.gx.zero (.int .i64 0) (.int .u64 0) (.int .i64 0) (.int .i64 0) (.int .i64 0) (.int .u64 0) (.int .u64 0) (.int .u64 0) (.int .i64 0) (.int .i64 0)
          clear a0 a1 af0 af1 d0 d1 d2 d3 d4 d5 d6 d7 df0 df1 df2 df3 df4 df5 df6 df7 gy
          generalize ((((((((((wc.setCell ⟨w.heap.size + 1, 0, none⟩ (.int .i64 0)).setCell ⟨w.heap.size + 1, 1, none⟩ (.int .u64 0)).setCell ⟨w.heap.size + 1 + 1, 0, none⟩ (.int .i64 0)).setCell ⟨w.heap.size + 1 + 1, 1, none⟩ (.int .i64 0)).setCell ⟨w.heap.size + 1 + 1, 2, none⟩ (.int .i64 0)).setCell ⟨w.heap.size + 1 + 1, 3, none⟩ (.int .u64 0)).setCell ⟨w.heap.size + 1 + 1, 4, none⟩ (.int .u64 0)).setCell ⟨w.heap.size + 1 + 1, 5, none⟩ (.int .u64 0)).setCell ⟨w.heap.size + 1 + 1, 6, none⟩ (.int .i64 0)).setCell ⟨w.heap.size + 1 + 1, 7, none⟩ (.int .i64 0)) = X at *
          obtain ⟨a0, a1⟩ := hY.b8.get2
          obtain ⟨d0, d1, d2, d3, d4, d5, d6, d7⟩ := hY.b9.get8
          refine bodyPost_ret (v := .tuple #[.agg #[.int .i64 0, .int .u64 0], (.agg #[.int .i64 0, .int .i64 0, .int .i64 0, .int .u64 0, .int .u64 0, .int .u64 0, .int .i64 0, .int .i64 0]), .int .i64 0, .int .i64 4]) ?_ rfl ⟨rfl, hY.bel⟩
          simp [results, Tryd.results14, go_sem, a0, a1, d0, d1, d2, d3, d4, d5, d6, d7]
        · obtain rfl : R = ⟨t, v, s', n + j, 0⟩ := by rw [HL.out, if_neg (by omega), if_neg ht]
          have hj : IntKind.i64.wrap ((n : Int) + (j : Int)) = ((n + j : Nat) : Int) := by rw [IntKind.wrap_i64]; omega
          clear he HV HL
          obtain ⟨q0, q1, q2, q3, q4, q5, q6, q7⟩ := gy.gx.b5.get8
          obtain ⟨z0, z1⟩ := gy.b18.get2
          go_upto_region 28 with fail
          clear q0 q1 q2 q3 q4 q5 q6 q7 z0 z1
          replace gy := gy.drew
          go_cut [8, 9] (fun x8 x9 wx => x8 = .int .i64 ((n + j : Nat) : Int) ∧ x9 = .int .i64 0 ∧ GX w wx s [.int .i64 t, .int .u64 (v : Int)] [.int .i64 (s'.n : Int), .int .i64 s'.t, .int .i64 s'.d, .int .u64 (s'.v : Int), .int .u64 (s'.e : Int), .int .u64 (s'.x.prev : Int), .int .i64 (s'.x.lead : Int), .int .i64 (s'.x.len : Int)])
          case first =>
            have px := gy
            clear gy
            have q0 := px.cells
            obtain ⟨u60, u61⟩ := px.gx.b8.get2
            obtain ⟨v60, v61⟩ := px.gx.b8.free2
            obtain ⟨u70, u71, u72, u73, u74, u75, u76, u77⟩ := px.gx.b9.get8
            obtain ⟨v70, v71, v72, v73, v74, v75, v76, v77⟩ := px.gx.b9.free8
            go_region_held3 (fun w' => (w'.cell? ⟨w.heap.size, 0, none⟩ = some (.int .i64 (s.n : Int)) ∧ w'.cell? ⟨w.heap.size, 1, none⟩ = some (.int .i64 s.t) ∧ w'.cell? ⟨w.heap.size, 2, none⟩ = some (.int .i64 s.d) ∧ w'.cell? ⟨w.heap.size, 3, none⟩ = some (.int .u64 (s.v : Int)) ∧ w'.cell? ⟨w.heap.size, 4, none⟩ = some (.int .u64 (s.e : Int)) ∧ w'.cell? ⟨w.heap.size, 5, none⟩ = some (.int .u64 (s.x.prev : Int)) ∧ w'.cell? ⟨w.heap.size, 6, none⟩ = some (.int .i64 (s.x.lead : Int)) ∧ w'.cell? ⟨w.heap.size, 7, none⟩ = some (.int .i64 (s.x.len : Int))) ∧ (w'.cell? ⟨g + 1, 0, none⟩ = some (.int .u64 (y.prev : Int)) ∧ w'.cell? ⟨g + 1, 1, none⟩ = some (.int .i64 (y.lead : Int)) ∧ w'.cell? ⟨g + 1, 2, none⟩ = some (.int .i64 (y.len : Int))) ∧ (w'.cell? ⟨g, 0, none⟩ = some (.int .i64 t) ∧ w'.cell? ⟨g, 1, none⟩ = some (.int .u64 (v : Int))))
              (with_reducible first | exact px.cells | exact (px.set8 _ _).cells | exact (px.set9 _ _ _ _ _ _ _ _).cells | exact ((px.set8 _ _).set9 _ _ _ _ _ _ _ _).cells | exact ((px.set9 _ _ _ _ _ _ _ _).set8 _ _).cells) (first
              | (go_at_call 23; (with_reducible refine (hAF _).mono ?_); rintro e w7 ⟨rfl, HB⟩; (with_reducible first | replace px := px.below HB | replace px := (px.set8 _ _).below HB); clear HB u60 u61 v60 v61 u70 u71 u72 u73 u74 u75 u76 u77 v70 v71 v72 v73 v74 v75 v76 v77; obtain ⟨u60, u61⟩ := px.gx.b8.get2; obtain ⟨v60, v61⟩ := px.gx.b8.free2; obtain ⟨u70, u71, u72, u73, u74, u75, u76, u77⟩ := px.gx.b9.get8; obtain ⟨v70, v71, v72, v73, v74, v75, v76, v77⟩ := px.gx.b9.free8))
            all_goals
              clear q0 u60 u61 v60 v61 u70 u71 u72 u73 u74 u75 u76 u77 v70 v71 v72 v73 v74 v75 v76 v77 hAF
              go_wp2_with fail
              go_meet
              with_reducible first
                | exact ⟨rfl, rfl, (px.set9 _ _ _ _ _ _ _ _).gx⟩
                | exact ⟨rfl, rfl, ((px.set8 _ _).set9 _ _ _ _ _ _ _ _).gx⟩
                | exact ⟨rfl, rfl, ((px.set9 _ _ _ _ _ _ _ _).set8 _ _).gx⟩
          case rest =>
            obtain ⟨rfl, rfl, hY⟩ := hcut
            obtain ⟨a0, a1⟩ := hY.b8.get2
            obtain ⟨d0, d1, d2, d3, d4, d5, d6, d7⟩ := hY.b9.get8
            clear gy
            go_wp2
            refine bodyPost_ret (v := .tuple #[(.agg #[.int .i64 t, .int .u64 (v : Int)]), (.agg #[.int .i64 (s'.n : Int), .int .i64 s'.t, .int .i64 s'.d, .int .u64 (s'.v : Int), .int .u64 (s'.e : Int), .int .u64 (s'.x.prev : Int), .int .i64 (s'.x.lead : Int), .int .i64 (s'.x.len : Int)]), .int .i64 ((n + j : Nat) : Int), .int .i64 0]) ?_ rfl ⟨rfl, hY.bel⟩
            simp [results, Tryd.results14, go_sem, a0, a1, d0, d1, d2, d3, d4, d5, d6, d7]
      · have he1 : ((e : Int) != 0) = true := by simp [he]
        obtain rfl : R = badK e := by rw [HL.out, if_pos he]
        clear he HV HL hAF
        obtain ⟨a0, a1⟩ := gy.gx.b8.get2
        obtain ⟨af0, af1⟩ := gy.gx.b8.free2
        obtain ⟨d0, d1, d2, d3, d4, d5, d6, d7⟩ := gy.gx.b9.get8
        obtain ⟨df0, df1, df2, df3, df4, df5, df6, df7⟩ := gy.gx.b9.free8
        go_wp2
        have hY := gy.gx.zero (.int .i64 0) (.int .u64 0) (.int .i64 0) (.int .i64 0) (.int .i64 0) (.int .u64 0) (.int .u64 0) (.int .u64 0) (.int .i64 0) (.int .i64 0)
        clear a0 a1 af0 af1 d0 d1 d2 d3 d4 d5 d6 d7 df0 df1 df2 df3 df4 df5 df6 df7 gy
        generalize ((((((((((wc.setCell ⟨w.heap.size + 1, 0, none⟩ (.int .i64 0)).setCell ⟨w.heap.size + 1, 1, none⟩ (.int .u64 0)).setCell ⟨w.heap.size + 1 + 1, 0, none⟩ (.int .i64 0)).setCell ⟨w.heap.size + 1 + 1, 1, none⟩ (.int .i64 0)).setCell ⟨w.heap.size + 1 + 1, 2, none⟩ (.int .i64 0)).setCell ⟨w.heap.size + 1 + 1, 3, none⟩ (.int .u64 0)).setCell ⟨w.heap.size + 1 + 1, 4, none⟩ (.int .u64 0)).setCell ⟨w.heap.size + 1 + 1, 5, none⟩ (.int .u64 0)).setCell ⟨w.heap.size + 1 + 1, 6, none⟩ (.int .i64 0)).setCell ⟨w.heap.size + 1 + 1, 7, none⟩ (.int .i64 0)) = X at *
        obtain ⟨a0, a1⟩ := hY.b8.get2
        obtain ⟨d0, d1, d2, d3, d4, d5, d6, d7⟩ := hY.b9.get8
        refine bodyPost_ret (v := .tuple #[.agg #[.int .i64 0, .int .u64 0], (.agg #[.int .i64 0, .int .i64 0, .int .i64 0, .int .u64 0, .int .u64 0, .int .u64 0, .int .i64 0, .int .i64 0]), .int .i64 0, .int .i64 (e : Int)]) ?_ rfl ⟨rfl, hY.bel⟩
        simp [results, Tryd.results14, go_sem, a0, a1, d0, d1, d2, d3, d4, d5, d6, d7]

/-- for any state of a kind -/
theorem rget_any (k : Nat) (s : KS) (A : Option Addr) (m c : Nat) (p : List Bool) (w : World) (hk : k = 1 ∨ k = 2) (hs : s.May) (hn : s.n ≤ 1000000) (h : Rd w w.heap.size A m c (enc p)) (hm : m ≤ 100000) :
    Calls Tryd.prog 14 #[.int .i64 (k : Int), (.agg #[.int .i64 (s.n : Int), .int .i64 s.t, .int .i64 s.d, .int .u64 (s.v : Int), .int .u64 (s.e : Int), .int .u64 (s.x.prev : Int), .int .i64 (s.x.lead : Int), .int .i64 (s.x.len : Int)]), .slice A m c] w (RetRG8 w k s p) := by
  have hl : p.length = m := by have := h.len; rwa [enc_length] at this
  by_cases h0 : s.n = 0
  · have hK : KGets k s p (firstK k s p) := .inl ⟨h0, rfl⟩
    by_cases h1 : m < 128
    · have e : firstK k s p = badK 2 := by unfold firstK; rw [if_pos (by omega)]
      exact (rget_short k s A m c w hk h0 h1).mono fun f w' ⟨h2, h3⟩ => ⟨_, hK, by rw [e]; exact h2, h3⟩
    · have e1 : (firstK k s p).n = 128 := by unfold firstK; rw [if_neg (by omega)]
      have e2 : (firstK k s p).e = 0 := by unfold firstK; rw [if_neg (by omega)]
      exact (rget_first k s A m c p w hk h0 h (by omega) hm).mono fun f w' ⟨h2, h3⟩ => ⟨_, hK, by rw [e1, e2]; exact h2, h3⟩
  · obtain ⟨st, n, e, hd⟩ := dgets_is p
    obtain ⟨v, y, j, e2, hv⟩ := vgets_is k s (p.drop n)
    have hK : KGets k s p (laterK k s st n e v y j e2) := .inr ⟨h0, st, n, e, v, y, j, e2, hd, hv, rfl⟩
    by_cases he : e = 0
    · subst he
      exact (rget_later k s A m c p w hk hs hn h0 h hm st n hd v y j e2 hv).mono fun f w' ⟨h2, h3⟩ => ⟨_, hK, h2, h3⟩
    · have e1 : laterK k s st n e v y j e2 = badK e := by unfold laterK; rw [if_pos he]
      exact (rget_terr k s A m c p w hk h0 h hm st n e hd he).mono fun f w' ⟨h2, h3⟩ => ⟨_, hK, by rw [e1]; exact h2, h3⟩

end Go.Proofs.YtcnhoohcdkfgkaaDoor
