/-
  Texts of this proof, one behind the other: RefKin, RefKin3, RefKin4, KinAll, RefSlow.
-/
import Derived.Test.YtbocpgffddkfdaaGreatDoorKinsG
import Derived.Test.YtbocpgffddkfdaaGreatDoorWords
import Derived.Test.YtbocpgffddkfdaaGreatDoorRefs
import Derived.Test.YtbocpgffddkfdaaGreatDoorRGets
import Derived.Test.YtbocpgffddkfdaaGreatDoorKinGets
import Derived.Test.YtbocpgffddkfdaaGreatDoorKGs
import Derived.Test.YtbocpgffddkfdaaGreatDoorRefG
import Derived.Test.YtbocpgffddkfdaaGreatDoorSlowP
import Derived.Deep.RegionHeld3
import Derived.Deep.CutBlock

namespace Go.Proofs.YtbocpgffddkfdaaGreatDoor
open Go.RowKit

theorem refD_wrap (a b : Int) : wrap64 (IntKind.u64.wrap (IntKind.u64.wrap a - IntKind.u64.wrap b)) = w64 (a - b) := by
  rw [w64_wrap, u64_mod, u64_mod, u64_mod]
  unfold w64
  omega
set_option maxRecDepth 20000 in
set_option maxHeartbeats 1000000 in
theorem refafter_any (k : Nat) (s : KS) (t : Int) (v : Nat) (y : XS) (w : World) (hk : k = 1 ∨ k = 2) (hn : s.n ≤ 1000000) :
    Calls Tryz.prog 91 #[.int .i64 (k : Int), (.agg #[.int .i64 (s.n : Int), .int .i64 s.t, .int .i64 s.d, .int .u64 (s.v : Int), .int .u64 (s.e : Int), .int .u64 (s.x.prev : Int), .int .i64 (s.x.lead : Int), .int .i64 (s.x.len : Int)]), (.agg #[.int .i64 t, .int .u64 (v : Int)]), (.agg #[.int .u64 (y.prev : Int), .int .i64 (y.lead : Int), .int .i64 (y.len : Int)])] w fun e w' => e = .returned (.agg #[.int .i64 ((afterK k s t v y).n : Int), .int .i64 (afterK k s t v y).t, .int .i64 (afterK k s t v y).d, .int .u64 ((afterK k s t v y).v : Int), .int .u64 ((afterK k s t v y).e : Int), .int .u64 ((afterK k s t v y).x.prev : Int), .int .i64 ((afterK k s t v y).x.lead : Int), .int .i64 ((afterK k s t v y).x.len : Int)]) ∧ Below w.heap.size w w' := by
  have hw := refD_wrap t s.t
  have hu : IntKind.u64.wrap ((v : Int) - (s.v : Int)) = ((un64 ((v : Int) - (s.v : Int)) : Nat) : Int) := by rw [u64_mod, un64_cast]
  have hsn : IntKind.i64.wrap ((s.n : Int) + 1) = (s.n : Int) + 1 := by rw [IntKind.wrap_i64]; omega
  by_cases h0 : s.n = 0
  · have h1 : ((s.n : Int) == 0) = true := by simp [h0]
    have hs1 : (s.n : Int) + 1 = 1 := by omega
    rcases hk with rfl | rfl
    · have HA : Hid (afterK 1 s t v y = ⟨s.n + 1, t, 0, v, 0, ⟨v, 0, 0⟩⟩) := Lib.hid (by unfold afterK; rw [if_pos h0, h0]; rfl)
      rw [HA.out]
      clear h0 hs1
      go_enter Tryz.func91, Tryz.ntmps91
      go_wp2
      go_returns
      exact ⟨rfl, by repeat (first | with_reducible exact Below.refl _ _ | assumption | with_reducible refine Below.drew ?_ | with_reducible refine Below.alloc ?_ (by (first | assumption | omega | (simp; done) | (simp; omega))) _)⟩
    · have HA : Hid (afterK 2 s t v y = ⟨s.n + 1, t, 0, v, 0, zeroX⟩) := Lib.hid (by unfold afterK; rw [if_pos h0, h0]; rfl)
      rw [HA.out]
      clear h0 hs1
      go_enter Tryz.func91, Tryz.ntmps91
      go_wp2
      go_returns
      exact ⟨rfl, by repeat (first | with_reducible exact Below.refl _ _ | assumption | with_reducible refine Below.drew ?_ | with_reducible refine Below.alloc ?_ (by (first | assumption | omega | (simp; done) | (simp; omega))) _)⟩
  · have h1 : ((s.n : Int) == 0) = false := by simp [h0]
    rcases hk with rfl | rfl
    · have HA : Hid (afterK 1 s t v y = ⟨s.n + 1, t, w64 (t - s.t), v, 0, y⟩) := Lib.hid (by unfold afterK; rw [if_neg h0]; rfl)
      rw [HA.out]
      clear h0
      go_enter Tryz.func91, Tryz.ntmps91
      go_wp2
      go_returns
      exact ⟨rfl, by repeat (first | with_reducible exact Below.refl _ _ | assumption | with_reducible refine Below.drew ?_ | with_reducible refine Below.alloc ?_ (by (first | assumption | omega | (simp; done) | (simp; omega))) _)⟩
    · have HA : Hid (afterK 2 s t v y = ⟨s.n + 1, t, w64 (t - s.t), v, un64 ((v : Int) - (s.v : Int)), zeroX⟩) := Lib.hid (by unfold afterK; rw [if_neg h0]; rfl)
      rw [HA.out]
      clear h0
      go_enter Tryz.func91, Tryz.ntmps91
      go_wp2
      go_returns
      exact ⟨rfl, by repeat (first | with_reducible exact Below.refl _ _ | assumption | with_reducible refine Below.drew ?_ | with_reducible refine Below.alloc ?_ (by (first | assumption | omega | (simp; done) | (simp; omega))) _)⟩
theorem wrap_w64 (x : Int) : IntKind.i64.wrap x = w64 x := by rw [IntKind.wrap_i64]; unfold w64; rfl
end Go.Proofs.YtbocpgffddkfdaaGreatDoor

namespace Go.Proofs.YtbocpgffddkfdaaGreatDoor
open Go.RowKit

def RetRG8 (w : World) (k : Nat) (s : KS) (p : List Bool) (e : Ending) (w' : World) : Prop :=
  ∃ r, KGets k s p r ∧ e = .returned (.tuple #[(.agg #[.int .i64 r.t, .int .u64 (r.v : Int)]), (.agg #[.int .i64 (r.s.n : Int), .int .i64 r.s.t, .int .i64 r.s.d, .int .u64 (r.s.v : Int), .int .u64 (r.s.e : Int), .int .u64 (r.s.x.prev : Int), .int .i64 (r.s.x.lead : Int), .int .i64 (r.s.x.len : Int)]), .int .i64 (r.n : Int), .int .i64 (r.e : Int)]) ∧ Below w.heap.size w w'
set_option maxRecDepth 20000 in
set_option maxHeartbeats 1000000 in
theorem rget_kind (z : Int) (s : KS) (A : Option Addr) (m c : Nat) (w : World) (h1 : (z != 1) = true) (h2 : (z != 2) = true) :
    Calls Tryz.prog 75 #[.int .i64 z, (.agg #[.int .i64 (s.n : Int), .int .i64 s.t, .int .i64 s.d, .int .u64 (s.v : Int), .int .u64 (s.e : Int), .int .u64 (s.x.prev : Int), .int .i64 (s.x.lead : Int), .int .i64 (s.x.len : Int)]), .slice A m c] w fun e w' => e = .returned (.tuple #[.agg #[.int .i64 0, .int .u64 0], (.agg #[.int .i64 0, .int .i64 0, .int .i64 0, .int .u64 0, .int .u64 0, .int .u64 0, .int .i64 0, .int .i64 0]), .int .i64 0, .int .i64 6]) ∧ Below w.heap.size w w' := by
  go_enter Tryz.func75, Tryz.ntmps75
  go_wp2
  go_returns
  exact ⟨rfl, by repeat (first | with_reducible exact Below.refl _ _ | assumption | with_reducible refine Below.drew ?_ | with_reducible refine Below.alloc ?_ (by (first | assumption | omega | (simp; done) | (simp; omega))) _)⟩
theorem kind_tests {k : Nat} (hk : k = 1 ∨ k = 2) : (((k : Int) != 1) = false ∧ ((k : Int) == 1) = true ∧ ((k : Int) == 2) = false) ∨ (((k : Int) != 1) = true ∧ ((k : Int) != 2) = false ∧ ((k : Int) == 1) = false ∧ ((k : Int) == 2) = true) := by
  rcases hk with rfl | rfl <;> simp
set_option maxRecDepth 20000 in
set_option maxHeartbeats 1000000 in
theorem rget_short (k : Nat) (s : KS) (A : Option Addr) (m c : Nat) (w : World) (hk : k = 1 ∨ k = 2) (h0 : s.n = 0) (hm : m < 128) :
    Calls Tryz.prog 75 #[.int .i64 (k : Int), (.agg #[.int .i64 (s.n : Int), .int .i64 s.t, .int .i64 s.d, .int .u64 (s.v : Int), .int .u64 (s.e : Int), .int .u64 (s.x.prev : Int), .int .i64 (s.x.lead : Int), .int .i64 (s.x.len : Int)]), .slice A m c] w fun e w' => e = .returned (.tuple #[.agg #[.int .i64 0, .int .u64 0], (.agg #[.int .i64 0, .int .i64 0, .int .i64 0, .int .u64 0, .int .u64 0, .int .u64 0, .int .i64 0, .int .i64 0]), .int .i64 0, .int .i64 2]) ∧ Below w.heap.size w w' := by
  have h1 : ((s.n : Int) == 0) = true := by simp [h0]
  clear h0
  rcases kind_tests hk with ⟨k1, k2, k3⟩ | ⟨k1, k2, k3, k4⟩
  all_goals
    clear hk
    go_enter Tryz.func75, Tryz.ntmps75
    go_wp2
    go_returns
    exact ⟨rfl, by repeat (first | with_reducible exact Below.refl _ _ | assumption | with_reducible refine Below.drew ?_ | with_reducible refine Below.alloc ?_ (by (first | assumption | omega | (simp; done) | (simp; omega))) _)⟩
def sworld (w : World) (s : KS) : World := ((w.alloc (.cells #[.int .i64 (s.n : Int), .int .i64 s.t, .int .i64 s.d, .int .u64 (s.v : Int), .int .u64 (s.e : Int), .int .u64 (s.x.prev : Int), .int .i64 (s.x.lead : Int), .int .i64 (s.x.len : Int)] 129)).alloc (.cells #[.int .i64 0, .int .u64 0] 61)).alloc (.cells #[.int .i64 0, .int .i64 0, .int .i64 0, .int .u64 0, .int .u64 0, .int .u64 0, .int .i64 0, .int .i64 0] 129)
theorem sworld_is (w : World) (s : KS) : GX w (sworld w s) s [.int .i64 0, .int .u64 0] [.int .i64 0, .int .i64 0, .int .i64 0, .int .u64 0, .int .u64 0, .int .u64 0, .int .i64 0, .int .i64 0] := by
  have h5 := ((BoxL.new w [.int .i64 (s.n : Int), .int .i64 s.t, .int .i64 s.d, .int .u64 (s.v : Int), .int .u64 (s.e : Int), .int .u64 (s.x.prev : Int), .int .i64 (s.x.lead : Int), .int .i64 (s.x.len : Int)] 129).onA (.cells #[.int .i64 0, .int .u64 0] 61)).onA (.cells #[.int .i64 0, .int .i64 0, .int .i64 0, .int .u64 0, .int .u64 0, .int .u64 0, .int .i64 0, .int .i64 0] 129)
  have h8 := (BoxL.new (w.alloc (.cells #[.int .i64 (s.n : Int), .int .i64 s.t, .int .i64 s.d, .int .u64 (s.v : Int), .int .u64 (s.e : Int), .int .u64 (s.x.prev : Int), .int .i64 (s.x.lead : Int), .int .i64 (s.x.len : Int)] 129)) [.int .i64 0, .int .u64 0] 61).onA (.cells #[.int .i64 0, .int .i64 0, .int .i64 0, .int .u64 0, .int .u64 0, .int .u64 0, .int .i64 0, .int .i64 0] 129)
  have h9 := BoxL.new ((w.alloc (.cells #[.int .i64 (s.n : Int), .int .i64 s.t, .int .i64 s.d, .int .u64 (s.v : Int), .int .u64 (s.e : Int), .int .u64 (s.x.prev : Int), .int .i64 (s.x.lead : Int), .int .i64 (s.x.len : Int)] 129)).alloc (.cells #[.int .i64 0, .int .u64 0] 61)) [.int .i64 0, .int .i64 0, .int .i64 0, .int .u64 0, .int .u64 0, .int .u64 0, .int .i64 0, .int .i64 0] 129
  simp only [World.size_alloc] at h8 h9
  unfold sworld
  exact ⟨by repeat (first | with_reducible exact Below.refl _ _ | assumption | with_reducible refine Below.drew ?_ | with_reducible refine Below.alloc ?_ (by (first | assumption | omega | (simp; done) | (simp; omega))) _), h5, h8, h9⟩
theorem boxl_nil {w : World} {g : Nat} (h : g < w.heap.size) : BoxL w g [] := ⟨h, fun i v e => (by cases e), fun i v e => (by cases e)⟩
theorem gxdrew {w X : World} {s : KS} {l8 l9 : List Value} (h : GX w X s l8 l9) : GX w X.drew s l8 l9 := ⟨h.bel.drew, h.b5.drew, h.b8.drew, h.b9.drew⟩
set_option maxRecDepth 20000 in
set_option maxHeartbeats 4000000 in
theorem rget_first (k : Nat) (s : KS) (A : Option Addr) (m c : Nat) (p : List Bool) (w : World) (hk : k = 1 ∨ k = 2) (h0 : s.n = 0) (h : Rd w w.heap.size A m c (enc p)) (hm : 128 ≤ m) (hm2 : m ≤ 100000) :
    Calls Tryz.prog 75 #[.int .i64 (k : Int), (.agg #[.int .i64 (s.n : Int), .int .i64 s.t, .int .i64 s.d, .int .u64 (s.v : Int), .int .u64 (s.e : Int), .int .u64 (s.x.prev : Int), .int .i64 (s.x.lead : Int), .int .i64 (s.x.len : Int)]), .slice A m c] w fun e w' => e = .returned (.tuple #[(.agg #[.int .i64 (firstK k s p).t, .int .u64 ((firstK k s p).v : Int)]), (.agg #[.int .i64 ((firstK k s p).s.n : Int), .int .i64 (firstK k s p).s.t, .int .i64 (firstK k s p).s.d, .int .u64 ((firstK k s p).s.v : Int), .int .u64 ((firstK k s p).s.e : Int), .int .u64 ((firstK k s p).s.x.prev : Int), .int .i64 ((firstK k s p).s.x.lead : Int), .int .i64 ((firstK k s p).s.x.len : Int)]), .int .i64 128, .int .i64 0]) ∧ Below w.heap.size w w' := by
  have hl : p.length = m := by have := h.len; rwa [enc_length] at this
  have hX := sworld_is w s
  have h1 : ((s.n : Int) == 0) = true := by simp [h0]
  have hc := h.cap
  obtain ⟨ad, rfl, hbl, _⟩ := h.cell (by omega)
  have hr1 := h.cutHead (n := 64) (by omega)
  have hr2 := h.cutTo (a := 64) (n := 64) (by omega)
  rw [enc_take] at hr1
  rw [enc_cut] at hr2
  have HF : Hid (firstK k s p = ⟨sgnN (num (cut p 0 64)) 64, num (cut p 64 64), afterK k s (sgnN (num (cut p 0 64)) 64) (num (cut p 64 64)) zeroX, 128, 0⟩) := Lib.hid (by unfold firstK; rw [if_neg (by omega)])
  have e0 : p.take 64 = cut p 0 64 := by unfold cut; rw [List.drop_zero]
  rw [e0] at hr1
  rw [HF.out]
  have hsg := sg_64 (num (cut p 0 64))
  have hAF : ∀ X, Calls Tryz.prog 91 #[.int .i64 (k : Int), (.agg #[.int .i64 (s.n : Int), .int .i64 s.t, .int .i64 s.d, .int .u64 (s.v : Int), .int .u64 (s.e : Int), .int .u64 (s.x.prev : Int), .int .i64 (s.x.lead : Int), .int .i64 (s.x.len : Int)]), (.agg #[.int .i64 (sgnN (num (cut p 0 64)) 64), .int .u64 ((num (cut p 64 64)) : Int)]), .agg #[.int .u64 0, .int .i64 0, .int .i64 0]] X fun e w' => e = .returned (.agg #[.int .i64 ((afterK k s (sgnN (num (cut p 0 64)) 64) (num (cut p 64 64)) zeroX).n : Int), .int .i64 (afterK k s (sgnN (num (cut p 0 64)) 64) (num (cut p 64 64)) zeroX).t, .int .i64 (afterK k s (sgnN (num (cut p 0 64)) 64) (num (cut p 64 64)) zeroX).d, .int .u64 ((afterK k s (sgnN (num (cut p 0 64)) 64) (num (cut p 64 64)) zeroX).v : Int), .int .u64 ((afterK k s (sgnN (num (cut p 0 64)) 64) (num (cut p 64 64)) zeroX).e : Int), .int .u64 ((afterK k s (sgnN (num (cut p 0 64)) 64) (num (cut p 64 64)) zeroX).x.prev : Int), .int .i64 ((afterK k s (sgnN (num (cut p 0 64)) 64) (num (cut p 64 64)) zeroX).x.lead : Int), .int .i64 ((afterK k s (sgnN (num (cut p 0 64)) 64) (num (cut p 64 64)) zeroX).x.len : Int)]) ∧ Below X.heap.size X w' := fun X => refafter_any k s _ _ zeroX X hk (by omega)
  have hN1 := fun X (hX : Below w.heap.size w X) => number_any _ _ _ _ _ X (hr1.below hX) (by omega)
  have hN2 : ∀ X, Below w.heap.size w X → Calls Tryz.prog 76 #[.slice (some ⟨ad.block, ad.off + 64, none⟩) 64 (c - 64)] X fun e w' => e = .returned (.int .u64 ((num (cut p 64 64) : Nat) : Int)) ∧ X = w' := fun X hX => number_any _ _ _ _ _ X (hr2.below hX) (by omega)
  dsimp only
  generalize afterK k s (sgnN (num (cut p 0 64)) 64) (num (cut p 64 64)) zeroX = s' at *
  generalize sgnN (num (cut p 0 64)) 64 = t at *
  generalize num (cut p 0 64) = x at *
  generalize num (cut p 64 64) = v at *
  have hc1 : (128 : Int) ≤ (c : Int) := by omega
  have hc2 : (64 : Int) ≤ (c : Int) := by omega
  have hm1 : (128 : Int) ≤ (m : Int) := by omega
  have hc3 : 64 ≤ c := by omega
  have hc4 : 128 ≤ c := by omega
  clear h0 HF e0 h
  rcases kind_tests hk with ⟨k1, k2, k3⟩ | ⟨k1, k2, k3, k4⟩
  all_goals
    clear hk
    go_enter Tryz.func75, Tryz.ntmps75
    go_upto_region 6 with fail
    generalize hWe : ((w.alloc (.cells #[.int .i64 (s.n : Int), .int .i64 s.t, .int .i64 s.d, .int .u64 (s.v : Int), .int .u64 (s.e : Int), .int .u64 (s.x.prev : Int), .int .i64 (s.x.lead : Int), .int .i64 (s.x.len : Int)] 129)).alloc (.cells #[.int .i64 0, .int .u64 0] 61)).alloc (.cells #[.int .i64 0, .int .i64 0, .int .i64 0, .int .u64 0, .int .u64 0, .int .u64 0, .int .i64 0, .int .i64 0] 129) = W
    rw [show sworld w s = W from hWe] at hX
    clear hWe
    have hbW := hX.bel
    have hsW := hbW.size
    have hsg' : IntKind.i64.wrap (x : Int) = t := by rw [wrap_w64, ← w64_wrap]; exact hsg
    have h9 := hX.b9.lt
    go_cut [10] (fun x10 wx => ∃ g, x10 = .pointer (some ⟨g, 0, none⟩) ∧ BoxL wx g [.int .i64 t, .int .u64 (v : Int)] ∧ GX w wx s [.int .i64 0, .int .u64 0] [.int .i64 0, .int .i64 0, .int .i64 0, .int .u64 0, .int .u64 0, .int .u64 0, .int .i64 0, .int .i64 0] ∧ w.heap.size + 1 + 1 < g)
    case first =>
      go_region_held3 (fun _ => True) (trivial) (first
        | (go_at_call 76; (with_reducible refine (hN1 _ (by repeat (first | with_reducible exact Below.refl _ _ | assumption | with_reducible refine Below.drew ?_ | with_reducible refine Below.alloc ?_ (by (first | assumption | omega | (simp; done) | (simp; omega))) _))).mono ?_); rintro e w5 ⟨rfl, rfl⟩)
        | (go_at_call 76; (with_reducible refine (hN2 _ (by repeat (first | with_reducible exact Below.refl _ _ | assumption | with_reducible refine Below.drew ?_ | with_reducible refine Below.alloc ?_ (by (first | assumption | omega | (simp; done) | (simp; omega))) _))).mono ?_); rintro e w6 ⟨rfl, rfl⟩))
      all_goals
        clear hN1 hN2
        go_wp2_with fail
        go_meet
        with_reducible first
          | exact ⟨_, rfl, (BoxL.new _ _ _).drew, gxdrew (hX.below ((Below.refl _ _).alloc (Nat.le_refl _) _)), h9⟩
          | exact ⟨_, rfl, BoxL.new _ _ _, gxdrew (hX.below ((Below.refl _ _).alloc (Nat.le_refl _) _)), h9⟩
    case rest =>
      obtain ⟨g, rfl, b10, hX, hg⟩ := hcut
      clear hN1 hN2 hr1 hr2 hsg
      go_upto_region 7 with fail
      have px := (GY.mk hX (boxl_nil b10.lt) b10 hg hg : GY w wc s g g _ _ [] _).drew
      clear hX b10 hg
      go_cut [8, 9] (fun x8 x9 wx => x8 = .int .i64 128 ∧ x9 = .int .i64 0 ∧ GX w wx s [.int .i64 t, .int .u64 (v : Int)] [.int .i64 (s'.n : Int), .int .i64 s'.t, .int .i64 s'.d, .int .u64 (s'.v : Int), .int .u64 (s'.e : Int), .int .u64 (s'.x.prev : Int), .int .i64 (s'.x.lead : Int), .int .i64 (s'.x.len : Int)])
      case first =>
        have q0 := px.gx.b5.get8
        have q1 := px.b18.get2
        obtain ⟨u60, u61⟩ := px.gx.b8.get2
        obtain ⟨v60, v61⟩ := px.gx.b8.free2
        obtain ⟨u70, u71, u72, u73, u74, u75, u76, u77⟩ := px.gx.b9.get8
        obtain ⟨v70, v71, v72, v73, v74, v75, v76, v77⟩ := px.gx.b9.free8
        go_region_held3 (fun w' => (w'.cell? ⟨w.heap.size, 0, none⟩ = some (.int .i64 (s.n : Int)) ∧ w'.cell? ⟨w.heap.size, 1, none⟩ = some (.int .i64 s.t) ∧ w'.cell? ⟨w.heap.size, 2, none⟩ = some (.int .i64 s.d) ∧ w'.cell? ⟨w.heap.size, 3, none⟩ = some (.int .u64 (s.v : Int)) ∧ w'.cell? ⟨w.heap.size, 4, none⟩ = some (.int .u64 (s.e : Int)) ∧ w'.cell? ⟨w.heap.size, 5, none⟩ = some (.int .u64 (s.x.prev : Int)) ∧ w'.cell? ⟨w.heap.size, 6, none⟩ = some (.int .i64 (s.x.lead : Int)) ∧ w'.cell? ⟨w.heap.size, 7, none⟩ = some (.int .i64 (s.x.len : Int))) ∧ (w'.cell? ⟨g, 0, none⟩ = some (.int .i64 t) ∧ w'.cell? ⟨g, 1, none⟩ = some (.int .u64 (v : Int))))
          (with_reducible first | exact ⟨px.gx.b5.get8, px.b18.get2⟩ | exact ⟨(px.set8 _ _).gx.b5.get8, (px.set8 _ _).b18.get2⟩ | exact ⟨(px.set9 _ _ _ _ _ _ _ _).gx.b5.get8, (px.set9 _ _ _ _ _ _ _ _).b18.get2⟩ | exact ⟨((px.set8 _ _).set9 _ _ _ _ _ _ _ _).gx.b5.get8, ((px.set8 _ _).set9 _ _ _ _ _ _ _ _).b18.get2⟩ | exact ⟨((px.set9 _ _ _ _ _ _ _ _).set8 _ _).gx.b5.get8, ((px.set9 _ _ _ _ _ _ _ _).set8 _ _).b18.get2⟩) (first
          | (go_at_call 91; (with_reducible refine (hAF _).mono ?_); rintro e w7 ⟨rfl, HB⟩; (with_reducible first | replace px := px.below HB | replace px := (px.set8 _ _).below HB); clear HB u60 u61 v60 v61 u70 u71 u72 u73 u74 u75 u76 u77 v70 v71 v72 v73 v74 v75 v76 v77; obtain ⟨u60, u61⟩ := px.gx.b8.get2; obtain ⟨v60, v61⟩ := px.gx.b8.free2; obtain ⟨u70, u71, u72, u73, u74, u75, u76, u77⟩ := px.gx.b9.get8; obtain ⟨v70, v71, v72, v73, v74, v75, v76, v77⟩ := px.gx.b9.free8))
        all_goals
          clear q0 q1 u60 u61 v60 v61 u70 u71 u72 u73 u74 u75 u76 u77 v70 v71 v72 v73 v74 v75 v76 v77 hAF
          go_wp2_with fail
          go_meet
          with_reducible first
            | exact ⟨rfl, rfl, (px.set9 _ _ _ _ _ _ _ _).gx⟩
            | exact ⟨rfl, rfl, ((px.set8 _ _).set9 _ _ _ _ _ _ _ _).gx⟩
            | exact ⟨rfl, rfl, ((px.set9 _ _ _ _ _ _ _ _).set8 _ _).gx⟩
      case rest =>
        obtain ⟨rfl, rfl, hY⟩ := hcut
        obtain ⟨a0, a1⟩ := hY.b8.get2
        obtain ⟨d0, d1, d2, d3, d4, d5, d6, d7⟩ := hY.b9.get8
        clear px
        go_wp2
        refine bodyPost_ret (v := .tuple #[(.agg #[.int .i64 t, .int .u64 (v : Int)]), (.agg #[.int .i64 (s'.n : Int), .int .i64 s'.t, .int .i64 s'.d, .int .u64 (s'.v : Int), .int .u64 (s'.e : Int), .int .u64 (s'.x.prev : Int), .int .i64 (s'.x.lead : Int), .int .i64 (s'.x.len : Int)]), .int .i64 128, .int .i64 0]) ?_ rfl ⟨rfl, hY.bel⟩
        simp [results, Tryz.results75, go_sem, a0, a1, d0, d1, d2, d3, d4, d5, d6, d7]
end Go.Proofs.YtbocpgffddkfdaaGreatDoor

namespace Go.Proofs.YtbocpgffddkfdaaGreatDoor
open Go.RowKit

theorem rd_tail_end {w : World} {B m c n : Nat} {A : Option Addr} {bs : List Nat} (h : Rd w B A m c bs) (hk : n ≤ m) (he : c = n) : Rd w B A (m - n) (c - n) (bs.drop n) := by
  subst he
  rw [Nat.sub_self]
  exact h.tailEnd hk
theorem GY.onA {w X : World} {s : KS} {g16 g18 : Nat} {l8 l9 l16 l18 : List Value} (h : GY w X s g16 g18 l8 l9 l16 l18) (o : Obj) : GY w (X.alloc o) s g16 g18 l8 l9 l16 l18 := h.below ((Below.refl _ _).alloc (Nat.le_refl _) o)
theorem GY.oth3 {w X : World} {s : KS} {g16 g18 d : Nat} {l8 l9 l16 l18 : List Value} (h : GY w X s g16 g18 l8 l9 l16 l18) (h1 : d ≠ g16) (h2 : d ≠ g18) (h3 : w.heap.size + 1 + 1 < d) (u0 u1 u2 : Value) : GY w (((X.setCell ⟨d, 0, none⟩ (u0)).setCell ⟨d, 1, none⟩ (u1)).setCell ⟨d, 2, none⟩ (u2)) s g16 g18 l8 l9 l16 l18 :=
  ⟨⟨below_set3' h.gx.bel (by omega) _ _ _, ((h.gx.b5.oth (by omega) _ _).oth (by omega) _ _).oth (by omega) _ _, ((h.gx.b8.oth (by omega) _ _).oth (by omega) _ _).oth (by omega) _ _, ((h.gx.b9.oth (by omega) _ _).oth (by omega) _ _).oth (by omega) _ _⟩,
    ((h.b16.oth (Ne.symm h1) _ _).oth (Ne.symm h1) _ _).oth (Ne.symm h1) _ _, ((h.b18.oth (Ne.symm h2) _ _).oth (Ne.symm h2) _ _).oth (Ne.symm h2) _ _, h.h16, h.h18⟩
theorem GY.setV {w X : World} {s : KS} {g16 g18 : Nat} {l8 l9 l16 : List Value} {a b : Value} (h : GY w X s g16 g18 l8 l9 l16 [a, b]) (hne : g16 ≠ g18) (u : Value) : GY w (X.setCell ⟨g18, 1, none⟩ u) s g16 g18 l8 l9 l16 [a, u] :=
  have := h.h18
  ⟨⟨below_set h.gx.bel (by omega) _ _, h.gx.b5.oth (by omega) _ _, h.gx.b8.oth (by omega) _ _, h.gx.b9.oth (by omega) _ _⟩, h.b16.oth hne _ _, h.b18.put 1 _, h.h16, h.h18⟩
theorem GY.set16 {w X : World} {s : KS} {g16 g18 : Nat} {l8 l9 l18 : List Value} {a b c : Value} (h : GY w X s g16 g18 l8 l9 [a, b, c] l18) (hne : g18 ≠ g16) (u0 u1 u2 : Value) : GY w (((X.setCell ⟨g16, 0, none⟩ (u0)).setCell ⟨g16, 1, none⟩ (u1)).setCell ⟨g16, 2, none⟩ (u2)) s g16 g18 l8 l9 [u0, u1, u2] l18 :=
  have := h.h16
  ⟨⟨below_set3' h.gx.bel (by omega) _ _ _, ((h.gx.b5.oth (by omega) _ _).oth (by omega) _ _).oth (by omega) _ _, ((h.gx.b8.oth (by omega) _ _).oth (by omega) _ _).oth (by omega) _ _, ((h.gx.b9.oth (by omega) _ _).oth (by omega) _ _).oth (by omega) _ _⟩,
    h.b16.all3 _ _ _, ((h.b18.oth hne _ _).oth hne _ _).oth hne _ _, h.h16, h.h18⟩
theorem refS_wrap (a b c : Int) : wrap64 (IntKind.u64.wrap (IntKind.u64.wrap (IntKind.u64.wrap a + IntKind.u64.wrap b) + IntKind.u64.wrap c)) = w64 (a + b + c) := by
  rw [w64_wrap, u64_mod, u64_mod, u64_mod, u64_mod, u64_mod]
  unfold w64
  omega
set_option maxRecDepth 20000 in
set_option maxHeartbeats 2000000 in
theorem rget_terr (k : Nat) (s : KS) (A : Option Addr) (m c : Nat) (p : List Bool) (w : World) (hk : k = 1 ∨ k = 2) (h0 : s.n ≠ 0) (h : Rd w w.heap.size A m c (enc p)) (hm : m ≤ 100000) (st : Int) (n e : Nat) (hd : DGets p st n e) (he : e ≠ 0) :
    Calls Tryz.prog 75 #[.int .i64 (k : Int), (.agg #[.int .i64 (s.n : Int), .int .i64 s.t, .int .i64 s.d, .int .u64 (s.v : Int), .int .u64 (s.e : Int), .int .u64 (s.x.prev : Int), .int .i64 (s.x.lead : Int), .int .i64 (s.x.len : Int)]), .slice A m c] w fun f w' => f = .returned (.tuple #[.agg #[.int .i64 0, .int .u64 0], (.agg #[.int .i64 0, .int .i64 0, .int .i64 0, .int .u64 0, .int .u64 0, .int .u64 0, .int .i64 0, .int .i64 0]), .int .i64 0, .int .i64 (e : Int)]) ∧ Below w.heap.size w w' := by
  have hX := sworld_is w s
  have h1 : ((s.n : Int) == 0) = false := by simp [h0]
  have hne : ((e : Int) != 0) = true := by simp [he]
  have hG : ∀ X, Rd X X.heap.size A m c (enc p) → Calls Tryz.prog 92 #[.slice A m c] X fun f X' => f = .returned (.tuple #[.int .i64 st, .int .i64 (n : Int), .int .i64 (e : Int)]) ∧ Below X.heap.size X X' := fun X hX =>
    (rgetdod_any A m c p X hX hm).mono fun f X' ⟨v', n', k', h1, h2, h3⟩ => by
      obtain ⟨rfl, rfl, rfl⟩ := hd.same h1
      exact ⟨h2, h3⟩
  have hr := (h.below hX.bel).more hX.bel.size
  clear h0 he hd h
  rcases kind_tests hk with ⟨k1, k2, k3⟩ | ⟨k1, k2, k3, k4⟩
  all_goals
    clear hk
    go_enter Tryz.func75, Tryz.ntmps75
    go_wp2_with fail
    change Calls _ _ _ (sworld w s) _
    generalize sworld w s = W at *
    refine (hG _ hr).mono ?_
    rintro e' w1 ⟨rfl, hb1⟩
    replace hX := hX.below hb1
    clear hb1 hG hr
    obtain ⟨a0, a1⟩ := hX.b8.get2
    obtain ⟨af0, af1⟩ := hX.b8.free2
    obtain ⟨d0, d1, d2, d3, d4, d5, d6, d7⟩ := hX.b9.get8
    obtain ⟨df0, df1, df2, df3, df4, df5, df6, df7⟩ := hX.b9.free8
    go_wp2
    have hY := hX.zero (.int .i64 0) (.int .u64 0) (.int .i64 0) (.int .i64 0) (.int .i64 0) (.int .u64 0) (.int .u64 0) (.int .u64 0) (.int .i64 0) (.int .i64 0)
    clear a0 a1 af0 af1 d0 d1 d2 d3 d4 d5 d6 d7 df0 df1 df2 df3 df4 df5 df6 df7 hX
    generalize ((((((((((w1.setCell ⟨w.heap.size + 1, 0, none⟩ (.int .i64 0)).setCell ⟨w.heap.size + 1, 1, none⟩ (.int .u64 0)).setCell ⟨w.heap.size + 1 + 1, 0, none⟩ (.int .i64 0)).setCell ⟨w.heap.size + 1 + 1, 1, none⟩ (.int .i64 0)).setCell ⟨w.heap.size + 1 + 1, 2, none⟩ (.int .i64 0)).setCell ⟨w.heap.size + 1 + 1, 3, none⟩ (.int .u64 0)).setCell ⟨w.heap.size + 1 + 1, 4, none⟩ (.int .u64 0)).setCell ⟨w.heap.size + 1 + 1, 5, none⟩ (.int .u64 0)).setCell ⟨w.heap.size + 1 + 1, 6, none⟩ (.int .i64 0)).setCell ⟨w.heap.size + 1 + 1, 7, none⟩ (.int .i64 0)) = X at *
    obtain ⟨a0, a1⟩ := hY.b8.get2
    obtain ⟨d0, d1, d2, d3, d4, d5, d6, d7⟩ := hY.b9.get8
    refine bodyPost_ret (v := .tuple #[.agg #[.int .i64 0, .int .u64 0], (.agg #[.int .i64 0, .int .i64 0, .int .i64 0, .int .u64 0, .int .u64 0, .int .u64 0, .int .i64 0, .int .i64 0]), .int .i64 0, .int .i64 (e : Int)]) ?_ rfl ⟨rfl, hY.bel⟩
    simp [results, Tryz.results75, go_sem, a0, a1, d0, d1, d2, d3, d4, d5, d6, d7]
set_option maxRecDepth 20000 in
set_option maxHeartbeats 8000000 in
theorem rget_later (k : Nat) (s : KS) (A : Option Addr) (m c : Nat) (p : List Bool) (w : World) (hk : k = 1 ∨ k = 2) (hs : s.May) (hn : s.n ≤ 1000000) (h0 : s.n ≠ 0) (h : Rd w w.heap.size A m c (enc p)) (hm : m ≤ 100000) (st : Int) (n : Nat) (hd : DGets p st n 0)
    (v : Nat) (y : XS) (j e : Nat) (hv : VGets k s (p.drop n) v y j e) :
    Calls Tryz.prog 75 #[.int .i64 (k : Int), (.agg #[.int .i64 (s.n : Int), .int .i64 s.t, .int .i64 s.d, .int .u64 (s.v : Int), .int .u64 (s.e : Int), .int .u64 (s.x.prev : Int), .int .i64 (s.x.lead : Int), .int .i64 (s.x.len : Int)]), .slice A m c] w fun f w' => f = .returned (.tuple #[(.agg #[.int .i64 (laterK k s st n 0 v y j e).t, .int .u64 ((laterK k s st n 0 v y j e).v : Int)]), (.agg #[.int .i64 ((laterK k s st n 0 v y j e).s.n : Int), .int .i64 (laterK k s st n 0 v y j e).s.t, .int .i64 (laterK k s st n 0 v y j e).s.d, .int .u64 ((laterK k s st n 0 v y j e).s.v : Int), .int .u64 ((laterK k s st n 0 v y j e).s.e : Int), .int .u64 ((laterK k s st n 0 v y j e).s.x.prev : Int), .int .i64 ((laterK k s st n 0 v y j e).s.x.lead : Int), .int .i64 ((laterK k s st n 0 v y j e).s.x.len : Int)]), .int .i64 ((laterK k s st n 0 v y j e).n : Int), .int .i64 ((laterK k s st n 0 v y j e).e : Int)]) ∧ Below w.heap.size w w' := by
  have hl : p.length = m := by have := h.len; rwa [enc_length] at this
  have hX := sworld_is w s
  have h1 : ((s.n : Int) == 0) = false := by simp [h0]
  have hG : ∀ X, Rd X X.heap.size A m c (enc p) → Calls Tryz.prog 92 #[.slice A m c] X fun f X' => f = .returned (.tuple #[.int .i64 st, .int .i64 (n : Int), .int .i64 0]) ∧ Below X.heap.size X X' := fun X hX =>
    (rgetdod_any A m c p X hX hm).mono fun f X' ⟨v', n', k', h1, h2, h3⟩ => by
      obtain ⟨rfl, rfl, rfl⟩ := hd.same h1
      exact ⟨h2, h3⟩
  have hr := (h.below hX.bel).more hX.bel.size
  have hnm : n ≤ m := by rw [← hl]; exact (dgets_back hd).2
  have i1 := (gets_in hd).2.1
  have i2 := vgets_in hs hv
  have hS := refS_wrap s.t s.d st
  have HV := Lib.hid hv
  have HL : Hid (laterK k s st n 0 v y j e = if e ≠ 0 then badK e else if w64 (s.t + s.d + st) ≤ s.t then badK 4 else ⟨w64 (s.t + s.d + st), v, afterK k s (w64 (s.t + s.d + st)) v y, n + j, 0⟩) := Lib.hid (by unfold laterK; rw [if_neg (by omega)])
  have hAF := fun X => refafter_any k s (w64 (s.t + s.d + st)) v y X hk hn
  generalize laterK k s st n 0 v y j e = R at *
  generalize w64 (s.t + s.d + st) = t at *
  generalize afterK k s t v y = s' at *
  have hc := h.cap
  have hn0 : (0 : Int) ≤ (n : Int) := by omega
  have hnm' : (n : Int) ≤ (m : Int) := by omega
  have hmc' : (m : Int) ≤ (c : Int) := by omega
  clear h0 hd hv h
  have HK : Hid (k = 1 ∨ k = 2) := Lib.hid hk
  rcases hk with hk | hk
  ·
    have k1 : ((k : Int) != 1) = false := by simp [hk]
    have k2 : ((k : Int) == 2) = false := by simp [hk]
    have HK1 := Lib.hid hk
    clear hk
    go_enter Tryz.func75, Tryz.ntmps75
    go_wp2_with fail
    change Calls _ _ _ (sworld w s) _
    generalize sworld w s = W at *
    refine (hG _ hr).mono ?_
    rintro e' w1 ⟨rfl, hb1⟩
    replace hX := hX.below hb1
    replace hr := (hr.below hb1).more hb1.size
    clear hb1 hG
    obtain ⟨q0, q1, q2, q3, q4, q5, q6, q7⟩ := hX.b5.get8
    go_upto_region 14 with fail
    have b14 := (BoxL.new w1 [.int .i64 t, .int .u64 0] 61).onA (.cells #[.int .u64 0, .int .i64 0, .int .i64 0] 127)
    have b15 := BoxL.new (w1.alloc (.cells #[.int .i64 t, .int .u64 0] 61)) [.int .u64 0, .int .i64 0, .int .i64 0] 127
    simp only [World.size_alloc] at b15
    have hal : Below w1.heap.size w1 ((w1.alloc (.cells #[.int .i64 t, .int .u64 0] 61)).alloc (.cells #[.int .u64 0, .int .i64 0, .int .i64 0] 127)) := by repeat (first | with_reducible exact Below.refl _ _ | assumption | with_reducible refine Below.drew ?_ | with_reducible refine Below.alloc ?_ (by (first | assumption | omega | (simp; done) | (simp; omega))) _)
    have hlt9 := hX.b9.lt
    have gy : GY w _ s (w1.heap.size + 1) w1.heap.size _ _ _ _ := GY.mk (hX.below hal) b15 b14 (by omega) (by omega)
    replace hr := (hr.below hal).more hal.size
    clear b14 b15 hal q0 q1 q2 q3 q4 q5 q6 q7 hX
    generalize (w1.alloc (.cells #[.int .i64 t, .int .u64 0] 61)).alloc (.cells #[.int .u64 0, .int .i64 0, .int .i64 0] 127) = W2 at *
    generalize w1.heap.size = g at *
    go_upto_if 78 with fail
    go_cut [13, 16] (fun x13 x16 wx => x13 = .int .i64 (e : Int) ∧ x16 = .int .i64 (j : Int) ∧ GY w wx s (g + 1) g [.int .i64 0, .int .u64 0] [.int .i64 0, .int .i64 0, .int .i64 0, .int .u64 0, .int .u64 0, .int .u64 0, .int .i64 0, .int .i64 0] [.int .u64 (y.prev : Int), .int .i64 (y.lead : Int), .int .i64 (y.len : Int)] [.int .i64 t, .int .u64 (v : Int)])
    case first =>
      obtain ⟨q0, q1, q2, q3, q4, q5, q6, q7⟩ := gy.gx.b5.get8
      have hv := HV.out
      unfold VGets at hv
      rw [if_pos HK1.out] at hv
      have hG2 : ∀ X A' m' c', Rd X X.heap.size A' m' c' (enc (p.drop n)) → m' ≤ 100000 → Calls Tryz.prog 93 #[(.agg #[.int .u64 (s.x.prev : Int), .int .i64 (s.x.lead : Int), .int .i64 (s.x.len : Int)]), .slice A' m' c'] X fun f X' => f = .returned (.tuple #[.int .u64 (v : Int), (.agg #[.int .u64 (y.prev : Int), .int .i64 (y.lead : Int), .int .i64 (y.len : Int)]), .int .i64 (j : Int), .int .i64 (e : Int)]) ∧ Below X.heap.size X X' := fun X A' m' c' hX hm' => by
        obtain ⟨rfl, rfl, rfl, rfl⟩ := hv
        exact rgetx_any A' m' c' _ s.x.prev s.x.lead s.x.len X hX hm' hs.x
      clear HV hv HL hAF
      by_cases hce : c = n
      · have hr2 := rd_tail_end hr hnm hce
        rw [enc_drop] at hr2
        have hce' : (c = n) = True := eq_true hce
        clear hce
        go_upto_region 19 with fail
        go_cut [20, 21, 22, 23] (fun x20 x21 x22 x23 wx => ∃ g21, x20 = .int .u64 (v : Int) ∧ x21 = .pointer (some ⟨g21, 0, none⟩) ∧ x22 = .int .i64 (j : Int) ∧ x23 = .int .i64 (e : Int) ∧ GY w wx s (g + 1) g [.int .i64 0, .int .u64 0] [.int .i64 0, .int .i64 0, .int .i64 0, .int .u64 0, .int .u64 0, .int .u64 0, .int .i64 0, .int .i64 0] [.int .u64 0, .int .i64 0, .int .i64 0] [.int .i64 t, .int .u64 0] ∧ BoxL wx g21 [.int .u64 (y.prev : Int), .int .i64 (y.lead : Int), .int .i64 (y.len : Int)] ∧ g21 ≠ g + 1 ∧ g21 ≠ g)
        case first =>
          have px := gy.drew
          have hrd := hr2.drew
          have hn0 := World.new_ne W2 ⟨w.heap.size, 5, none⟩ q5
          have hn1 := World.new_ne W2 ⟨w.heap.size, 6, none⟩ q6
          have hn2 := World.new_ne W2 ⟨w.heap.size, 7, none⟩ q7
          have hlg := gy.b16.lt
          have h16 := gy.h16
          have h18 := gy.h18
          have hd1 : W2.heap.size ≠ g + 1 := by omega
          have hd2 : W2.heap.size ≠ g := by omega
          have hd3 : w.heap.size + 1 + 1 < W2.heap.size := by omega
          clear q0 q1 q2 q3 q4 q5 q6 q7
          obtain ⟨q0, q1, q2, q3, q4, q5, q6, q7⟩ := gy.gx.b5.get8
          go_region_held3 (fun w' => (w'.cell? ⟨w.heap.size, 0, none⟩ = some (.int .i64 (s.n : Int)) ∧ w'.cell? ⟨w.heap.size, 1, none⟩ = some (.int .i64 s.t) ∧ w'.cell? ⟨w.heap.size, 2, none⟩ = some (.int .i64 s.d) ∧ w'.cell? ⟨w.heap.size, 3, none⟩ = some (.int .u64 (s.v : Int)) ∧ w'.cell? ⟨w.heap.size, 4, none⟩ = some (.int .u64 (s.e : Int)) ∧ w'.cell? ⟨w.heap.size, 5, none⟩ = some (.int .u64 (s.x.prev : Int)) ∧ w'.cell? ⟨w.heap.size, 6, none⟩ = some (.int .i64 (s.x.lead : Int)) ∧ w'.cell? ⟨w.heap.size, 7, none⟩ = some (.int .i64 (s.x.len : Int))))
            (with_reducible first | exact px.gx.b5.get8 | exact (px.onA _).gx.b5.get8 | exact ((gy.onA _).drew).gx.b5.get8 | exact (px.oth3 hd1 hd2 hd3 _ _ _).gx.b5.get8) (first
            | (go_at_call 93; (with_reducible refine (hG2 _ _ _ _ hrd (by omega)).mono ?_); rintro e' w3 ⟨rfl, HB⟩; replace px := px.below HB; clear HB hrd)
            | (go_at_call 93; have hrd2 := (hr2.onA (.cells #[.int .u64 0, .int .i64 0, .int .i64 0] 127)).drew; have b21 := (BoxL.new W2 [.int .u64 0, .int .i64 0, .int .i64 0] 127).drew; replace px := (gy.onA (.cells #[.int .u64 0, .int .i64 0, .int .i64 0] 127)).drew; (with_reducible refine (hG2 _ _ _ _ hrd2 (by omega)).mono ?_); rintro e' w3 ⟨rfl, HB⟩; replace px := px.below HB; replace b21 := b21.below HB; obtain ⟨u0, u1, u2⟩ := b21.get3; obtain ⟨f0, f1, f2⟩ := b21.free3; clear HB hrd hrd2))
          all_goals
            go_wp2_with fail
            go_meet
            with_reducible first
              | exact ⟨_, rfl, rfl, rfl, rfl, px.onA _, BoxL.new _ _ _, Nat.ne_of_gt px.b16.lt, Nat.ne_of_gt px.b18.lt⟩
              | exact ⟨_, rfl, rfl, rfl, rfl, px.oth3 hd1 hd2 hd3 _ _ _, b21.all3 _ _ _, hd1, hd2⟩
        case rest =>
          obtain ⟨g21, rfl, rfl, rfl, rfl, gy, b21, hng, hng2⟩ := hcut
          have hng3 := Ne.symm hng2
          have hng4 := Ne.symm hng
          obtain ⟨z0, z1⟩ := gy.b18.get2
          obtain ⟨f0, f1⟩ := gy.b18.free2
          obtain ⟨y0, y1, y2⟩ := b21.get3
          obtain ⟨u0, u1, u2⟩ := gy.b16.get3
          obtain ⟨uf0, uf1, uf2⟩ := gy.b16.free3
          clear q0 q1 q2 q3 q4 q5 q6 q7
          go_wp2_with fail
          go_meet
          exact ⟨rfl, rfl, (gy.setV (by omega) _).set16 (by omega) _ _ _⟩
      · have hr2 := hr.tail (a := n) hnm
        rw [enc_drop] at hr2
        go_upto_region 19 with fail
        go_cut [20, 21, 22, 23] (fun x20 x21 x22 x23 wx => ∃ g21, x20 = .int .u64 (v : Int) ∧ x21 = .pointer (some ⟨g21, 0, none⟩) ∧ x22 = .int .i64 (j : Int) ∧ x23 = .int .i64 (e : Int) ∧ GY w wx s (g + 1) g [.int .i64 0, .int .u64 0] [.int .i64 0, .int .i64 0, .int .i64 0, .int .u64 0, .int .u64 0, .int .u64 0, .int .i64 0, .int .i64 0] [.int .u64 0, .int .i64 0, .int .i64 0] [.int .i64 t, .int .u64 0] ∧ BoxL wx g21 [.int .u64 (y.prev : Int), .int .i64 (y.lead : Int), .int .i64 (y.len : Int)] ∧ g21 ≠ g + 1 ∧ g21 ≠ g)
        case first =>
          have px := gy.drew
          have hrd := hr2.drew
          have hn0 := World.new_ne W2 ⟨w.heap.size, 5, none⟩ q5
          have hn1 := World.new_ne W2 ⟨w.heap.size, 6, none⟩ q6
          have hn2 := World.new_ne W2 ⟨w.heap.size, 7, none⟩ q7
          have hlg := gy.b16.lt
          have h16 := gy.h16
          have h18 := gy.h18
          have hd1 : W2.heap.size ≠ g + 1 := by omega
          have hd2 : W2.heap.size ≠ g := by omega
          have hd3 : w.heap.size + 1 + 1 < W2.heap.size := by omega
          clear q0 q1 q2 q3 q4 q5 q6 q7
          obtain ⟨q0, q1, q2, q3, q4, q5, q6, q7⟩ := gy.gx.b5.get8
          go_region_held3 (fun w' => (w'.cell? ⟨w.heap.size, 0, none⟩ = some (.int .i64 (s.n : Int)) ∧ w'.cell? ⟨w.heap.size, 1, none⟩ = some (.int .i64 s.t) ∧ w'.cell? ⟨w.heap.size, 2, none⟩ = some (.int .i64 s.d) ∧ w'.cell? ⟨w.heap.size, 3, none⟩ = some (.int .u64 (s.v : Int)) ∧ w'.cell? ⟨w.heap.size, 4, none⟩ = some (.int .u64 (s.e : Int)) ∧ w'.cell? ⟨w.heap.size, 5, none⟩ = some (.int .u64 (s.x.prev : Int)) ∧ w'.cell? ⟨w.heap.size, 6, none⟩ = some (.int .i64 (s.x.lead : Int)) ∧ w'.cell? ⟨w.heap.size, 7, none⟩ = some (.int .i64 (s.x.len : Int))))
            (with_reducible first | exact px.gx.b5.get8 | exact (px.onA _).gx.b5.get8 | exact ((gy.onA _).drew).gx.b5.get8 | exact (px.oth3 hd1 hd2 hd3 _ _ _).gx.b5.get8) (first
            | (go_at_call 93; (with_reducible refine (hG2 _ _ _ _ hrd (by omega)).mono ?_); rintro e' w3 ⟨rfl, HB⟩; replace px := px.below HB; clear HB hrd)
            | (go_at_call 93; have hrd2 := (hr2.onA (.cells #[.int .u64 0, .int .i64 0, .int .i64 0] 127)).drew; have b21 := (BoxL.new W2 [.int .u64 0, .int .i64 0, .int .i64 0] 127).drew; replace px := (gy.onA (.cells #[.int .u64 0, .int .i64 0, .int .i64 0] 127)).drew; (with_reducible refine (hG2 _ _ _ _ hrd2 (by omega)).mono ?_); rintro e' w3 ⟨rfl, HB⟩; replace px := px.below HB; replace b21 := b21.below HB; obtain ⟨u0, u1, u2⟩ := b21.get3; obtain ⟨f0, f1, f2⟩ := b21.free3; clear HB hrd hrd2))
          all_goals
            go_wp2_with fail
            go_meet
            with_reducible first
              | exact ⟨_, rfl, rfl, rfl, rfl, px.onA _, BoxL.new _ _ _, Nat.ne_of_gt px.b16.lt, Nat.ne_of_gt px.b18.lt⟩
              | exact ⟨_, rfl, rfl, rfl, rfl, px.oth3 hd1 hd2 hd3 _ _ _, b21.all3 _ _ _, hd1, hd2⟩
        case rest =>
          obtain ⟨g21, rfl, rfl, rfl, rfl, gy, b21, hng, hng2⟩ := hcut
          have hng3 := Ne.symm hng2
          have hng4 := Ne.symm hng
          obtain ⟨z0, z1⟩ := gy.b18.get2
          obtain ⟨f0, f1⟩ := gy.b18.free2
          obtain ⟨y0, y1, y2⟩ := b21.get3
          obtain ⟨u0, u1, u2⟩ := gy.b16.get3
          obtain ⟨uf0, uf1, uf2⟩ := gy.b16.free3
          clear q0 q1 q2 q3 q4 q5 q6 q7
          go_wp2_with fail
          go_meet
          exact ⟨rfl, rfl, (gy.setV (by omega) _).set16 (by omega) _ _ _⟩
    case rest =>
      obtain ⟨rfl, rfl, gy⟩ := hcut
      by_cases he : e = 0
      · have he1 : ((e : Int) != 0) = false := by simp [he]
        by_cases ht : t ≤ s.t
        · obtain rfl : R = badK 4 := by rw [HL.out, if_neg (by omega), if_pos ht]
          clear he HV HL hAF
          obtain ⟨q0, q1, q2, q3, q4, q5, q6, q7⟩ := gy.gx.b5.get8
          obtain ⟨z0, z1⟩ := gy.b18.get2
          obtain ⟨a0, a1⟩ := gy.gx.b8.get2
          obtain ⟨af0, af1⟩ := gy.gx.b8.free2
          obtain ⟨d0, d1, d2, d3, d4, d5, d6, d7⟩ := gy.gx.b9.get8
          obtain ⟨df0, df1, df2, df3, df4, df5, df6, df7⟩ := gy.gx.b9.free8
          go_wp2
          have hY := gy.gx.zero (.int .i64 0) (.int .u64 0) (.int .i64 0) (.int .i64 0) (.int .i64 0) (.int .u64 0) (.int .u64 0) (.int .u64 0) (.int .i64 0) (.int .i64 0)
          clear a0 a1 af0 af1 d0 d1 d2 d3 d4 d5 d6 d7 df0 df1 df2 df3 df4 df5 df6 df7 gy
          generalize ((((((((((wc.setCell ⟨w.heap.size + 1, 0, none⟩ (.int .i64 0)).setCell ⟨w.heap.size + 1, 1, none⟩ (.int .u64 0)).setCell ⟨w.heap.size + 1 + 1, 0, none⟩ (.int .i64 0)).setCell ⟨w.heap.size + 1 + 1, 1, none⟩ (.int .i64 0)).setCell ⟨w.heap.size + 1 + 1, 2, none⟩ (.int .i64 0)).setCell ⟨w.heap.size + 1 + 1, 3, none⟩ (.int .u64 0)).setCell ⟨w.heap.size + 1 + 1, 4, none⟩ (.int .u64 0)).setCell ⟨w.heap.size + 1 + 1, 5, none⟩ (.int .u64 0)).setCell ⟨w.heap.size + 1 + 1, 6, none⟩ (.int .i64 0)).setCell ⟨w.heap.size + 1 + 1, 7, none⟩ (.int .i64 0)) = X at *
          obtain ⟨a0, a1⟩ := hY.b8.get2
          obtain ⟨d0, d1, d2, d3, d4, d5, d6, d7⟩ := hY.b9.get8
          refine bodyPost_ret (v := .tuple #[.agg #[.int .i64 0, .int .u64 0], (.agg #[.int .i64 0, .int .i64 0, .int .i64 0, .int .u64 0, .int .u64 0, .int .u64 0, .int .i64 0, .int .i64 0]), .int .i64 0, .int .i64 4]) ?_ rfl ⟨rfl, hY.bel⟩
          simp [results, Tryz.results75, go_sem, a0, a1, d0, d1, d2, d3, d4, d5, d6, d7]
        · obtain rfl : R = ⟨t, v, s', n + j, 0⟩ := by rw [HL.out, if_neg (by omega), if_neg ht]
          have hj : IntKind.i64.wrap ((n : Int) + (j : Int)) = ((n + j : Nat) : Int) := by rw [IntKind.wrap_i64]; omega
          clear he HV HL
          obtain ⟨q0, q1, q2, q3, q4, q5, q6, q7⟩ := gy.gx.b5.get8
          obtain ⟨z0, z1⟩ := gy.b18.get2
          go_upto_region 28 with fail
          clear q0 q1 q2 q3 q4 q5 q6 q7 z0 z1
          replace gy := gy.drew
          go_cut [8, 9] (fun x8 x9 wx => x8 = .int .i64 ((n + j : Nat) : Int) ∧ x9 = .int .i64 0 ∧ GX w wx s [.int .i64 t, .int .u64 (v : Int)] [.int .i64 (s'.n : Int), .int .i64 s'.t, .int .i64 s'.d, .int .u64 (s'.v : Int), .int .u64 (s'.e : Int), .int .u64 (s'.x.prev : Int), .int .i64 (s'.x.lead : Int), .int .i64 (s'.x.len : Int)])
          case first =>
            have px := gy
            clear gy
            have q0 := px.cells
            obtain ⟨u60, u61⟩ := px.gx.b8.get2
            obtain ⟨v60, v61⟩ := px.gx.b8.free2
            obtain ⟨u70, u71, u72, u73, u74, u75, u76, u77⟩ := px.gx.b9.get8
            obtain ⟨v70, v71, v72, v73, v74, v75, v76, v77⟩ := px.gx.b9.free8
            go_region_held3 (fun w' => (w'.cell? ⟨w.heap.size, 0, none⟩ = some (.int .i64 (s.n : Int)) ∧ w'.cell? ⟨w.heap.size, 1, none⟩ = some (.int .i64 s.t) ∧ w'.cell? ⟨w.heap.size, 2, none⟩ = some (.int .i64 s.d) ∧ w'.cell? ⟨w.heap.size, 3, none⟩ = some (.int .u64 (s.v : Int)) ∧ w'.cell? ⟨w.heap.size, 4, none⟩ = some (.int .u64 (s.e : Int)) ∧ w'.cell? ⟨w.heap.size, 5, none⟩ = some (.int .u64 (s.x.prev : Int)) ∧ w'.cell? ⟨w.heap.size, 6, none⟩ = some (.int .i64 (s.x.lead : Int)) ∧ w'.cell? ⟨w.heap.size, 7, none⟩ = some (.int .i64 (s.x.len : Int))) ∧ (w'.cell? ⟨g + 1, 0, none⟩ = some (.int .u64 (y.prev : Int)) ∧ w'.cell? ⟨g + 1, 1, none⟩ = some (.int .i64 (y.lead : Int)) ∧ w'.cell? ⟨g + 1, 2, none⟩ = some (.int .i64 (y.len : Int))) ∧ (w'.cell? ⟨g, 0, none⟩ = some (.int .i64 t) ∧ w'.cell? ⟨g, 1, none⟩ = some (.int .u64 (v : Int))))
              (with_reducible first | exact px.cells | exact (px.set8 _ _).cells | exact (px.set9 _ _ _ _ _ _ _ _).cells | exact ((px.set8 _ _).set9 _ _ _ _ _ _ _ _).cells | exact ((px.set9 _ _ _ _ _ _ _ _).set8 _ _).cells) (first
              | (go_at_call 91; (with_reducible refine (hAF _).mono ?_); rintro e w7 ⟨rfl, HB⟩; (with_reducible first | replace px := px.below HB | replace px := (px.set8 _ _).below HB); clear HB u60 u61 v60 v61 u70 u71 u72 u73 u74 u75 u76 u77 v70 v71 v72 v73 v74 v75 v76 v77; obtain ⟨u60, u61⟩ := px.gx.b8.get2; obtain ⟨v60, v61⟩ := px.gx.b8.free2; obtain ⟨u70, u71, u72, u73, u74, u75, u76, u77⟩ := px.gx.b9.get8; obtain ⟨v70, v71, v72, v73, v74, v75, v76, v77⟩ := px.gx.b9.free8))
            all_goals
              clear q0 u60 u61 v60 v61 u70 u71 u72 u73 u74 u75 u76 u77 v70 v71 v72 v73 v74 v75 v76 v77 hAF
              go_wp2_with fail
              go_meet
              with_reducible first
                | exact ⟨rfl, rfl, (px.set9 _ _ _ _ _ _ _ _).gx⟩
                | exact ⟨rfl, rfl, ((px.set8 _ _).set9 _ _ _ _ _ _ _ _).gx⟩
                | exact ⟨rfl, rfl, ((px.set9 _ _ _ _ _ _ _ _).set8 _ _).gx⟩
          case rest =>
            obtain ⟨rfl, rfl, hY⟩ := hcut
            obtain ⟨a0, a1⟩ := hY.b8.get2
            obtain ⟨d0, d1, d2, d3, d4, d5, d6, d7⟩ := hY.b9.get8
            clear gy
            go_wp2
            refine bodyPost_ret (v := .tuple #[(.agg #[.int .i64 t, .int .u64 (v : Int)]), (.agg #[.int .i64 (s'.n : Int), .int .i64 s'.t, .int .i64 s'.d, .int .u64 (s'.v : Int), .int .u64 (s'.e : Int), .int .u64 (s'.x.prev : Int), .int .i64 (s'.x.lead : Int), .int .i64 (s'.x.len : Int)]), .int .i64 ((n + j : Nat) : Int), .int .i64 0]) ?_ rfl ⟨rfl, hY.bel⟩
            simp [results, Tryz.results75, go_sem, a0, a1, d0, d1, d2, d3, d4, d5, d6, d7]
      · have he1 : ((e : Int) != 0) = true := by simp [he]
        obtain rfl : R = badK e := by rw [HL.out, if_pos he]
        clear he HV HL hAF
        obtain ⟨a0, a1⟩ := gy.gx.b8.get2
        obtain ⟨af0, af1⟩ := gy.gx.b8.free2
        obtain ⟨d0, d1, d2, d3, d4, d5, d6, d7⟩ := gy.gx.b9.get8
        obtain ⟨df0, df1, df2, df3, df4, df5, df6, df7⟩ := gy.gx.b9.free8
        go_wp2
        have hY := gy.gx.zero (.int .i64 0) (.int .u64 0) (.int .i64 0) (.int .i64 0) (.int .i64 0) (.int .u64 0) (.int .u64 0) (.int .u64 0) (.int .i64 0) (.int .i64 0)
        clear a0 a1 af0 af1 d0 d1 d2 d3 d4 d5 d6 d7 df0 df1 df2 df3 df4 df5 df6 df7 gy
        generalize ((((((((((wc.setCell ⟨w.heap.size + 1, 0, none⟩ (.int .i64 0)).setCell ⟨w.heap.size + 1, 1, none⟩ (.int .u64 0)).setCell ⟨w.heap.size + 1 + 1, 0, none⟩ (.int .i64 0)).setCell ⟨w.heap.size + 1 + 1, 1, none⟩ (.int .i64 0)).setCell ⟨w.heap.size + 1 + 1, 2, none⟩ (.int .i64 0)).setCell ⟨w.heap.size + 1 + 1, 3, none⟩ (.int .u64 0)).setCell ⟨w.heap.size + 1 + 1, 4, none⟩ (.int .u64 0)).setCell ⟨w.heap.size + 1 + 1, 5, none⟩ (.int .u64 0)).setCell ⟨w.heap.size + 1 + 1, 6, none⟩ (.int .i64 0)).setCell ⟨w.heap.size + 1 + 1, 7, none⟩ (.int .i64 0)) = X at *
        obtain ⟨a0, a1⟩ := hY.b8.get2
        obtain ⟨d0, d1, d2, d3, d4, d5, d6, d7⟩ := hY.b9.get8
        refine bodyPost_ret (v := .tuple #[.agg #[.int .i64 0, .int .u64 0], (.agg #[.int .i64 0, .int .i64 0, .int .i64 0, .int .u64 0, .int .u64 0, .int .u64 0, .int .i64 0, .int .i64 0]), .int .i64 0, .int .i64 (e : Int)]) ?_ rfl ⟨rfl, hY.bel⟩
        simp [results, Tryz.results75, go_sem, a0, a1, d0, d1, d2, d3, d4, d5, d6, d7]
  ·
    have k1 : ((k : Int) != 1) = true := by simp [hk]
    have k2 : ((k : Int) != 2) = false := by simp [hk]
    have k3 : ((k : Int) == 2) = true := by simp [hk]
    have HK2 := Lib.hid hk
    clear hk
    go_enter Tryz.func75, Tryz.ntmps75
    go_wp2_with fail
    change Calls _ _ _ (sworld w s) _
    generalize sworld w s = W at *
    refine (hG _ hr).mono ?_
    rintro e' w1 ⟨rfl, hb1⟩
    replace hX := hX.below hb1
    replace hr := (hr.below hb1).more hb1.size
    clear hb1 hG
    obtain ⟨q0, q1, q2, q3, q4, q5, q6, q7⟩ := hX.b5.get8
    go_upto_region 14 with fail
    have b14 := (BoxL.new w1 [.int .i64 t, .int .u64 0] 61).onA (.cells #[.int .u64 0, .int .i64 0, .int .i64 0] 127)
    have b15 := BoxL.new (w1.alloc (.cells #[.int .i64 t, .int .u64 0] 61)) [.int .u64 0, .int .i64 0, .int .i64 0] 127
    simp only [World.size_alloc] at b15
    have hal : Below w1.heap.size w1 ((w1.alloc (.cells #[.int .i64 t, .int .u64 0] 61)).alloc (.cells #[.int .u64 0, .int .i64 0, .int .i64 0] 127)) := by repeat (first | with_reducible exact Below.refl _ _ | assumption | with_reducible refine Below.drew ?_ | with_reducible refine Below.alloc ?_ (by (first | assumption | omega | (simp; done) | (simp; omega))) _)
    have hlt9 := hX.b9.lt
    have gy : GY w _ s (w1.heap.size + 1) w1.heap.size _ _ _ _ := GY.mk (hX.below hal) b15 b14 (by omega) (by omega)
    replace hr := (hr.below hal).more hal.size
    clear b14 b15 hal q0 q1 q2 q3 q4 q5 q6 q7 hX
    generalize (w1.alloc (.cells #[.int .i64 t, .int .u64 0] 61)).alloc (.cells #[.int .u64 0, .int .i64 0, .int .i64 0] 127) = W2 at *
    generalize w1.heap.size = g at *
    go_upto_if 78 with fail
    go_cut [13, 16] (fun x13 x16 wx => x13 = .int .i64 (e : Int) ∧ x16 = .int .i64 (j : Int) ∧ GY w wx s (g + 1) g [.int .i64 0, .int .u64 0] [.int .i64 0, .int .i64 0, .int .i64 0, .int .u64 0, .int .u64 0, .int .u64 0, .int .i64 0, .int .i64 0] [.int .u64 (y.prev : Int), .int .i64 (y.lead : Int), .int .i64 (y.len : Int)] [.int .i64 t, .int .u64 (v : Int)])
    case first =>
      obtain ⟨q0, q1, q2, q3, q4, q5, q6, q7⟩ := gy.gx.b5.get8
      have hv := HV.out
      unfold VGets at hv
      rw [if_neg (by rw [HK2.out]; omega)] at hv
      obtain ⟨st2, hd2, hve, hye⟩ := hv
      have hu := sumE_wrap s.v s.e st2
      rw [← hve] at hu
      have hG2 : ∀ X A' m' c', Rd X X.heap.size A' m' c' (enc (p.drop n)) → m' ≤ 100000 → Calls Tryz.prog 92 #[.slice A' m' c'] X fun f X' => f = .returned (.tuple #[.int .i64 st2, .int .i64 (j : Int), .int .i64 (e : Int)]) ∧ Below X.heap.size X X' := fun X A' m' c' hX hm' =>
        (rgetdod_any A' m' c' _ X hX hm').mono fun f X' ⟨v', n', k', h1, h2, h3⟩ => by
          obtain ⟨rfl, rfl, rfl⟩ := hd2.same h1
          exact ⟨h2, h3⟩
      clear HV hd2 hve HL hAF
      subst hye
      by_cases hce : c = n
      · have hr2 := rd_tail_end hr hnm hce
        rw [enc_drop] at hr2
        have hce' : (c = n) = True := eq_true hce
        clear hce
        go_wp2_with fail
        refine (hG2 _ _ _ _ hr2 (by omega)).mono ?_
        rintro e' w3 ⟨rfl, hb3⟩
        replace gy := gy.below hb3
        clear q0 q1 q2 q3 q4 q5 q6 q7
        obtain ⟨q0, q1, q2, q3, q4, q5, q6, q7⟩ := gy.gx.b5.get8
        obtain ⟨z0, z1⟩ := gy.b18.get2
        obtain ⟨f0, f1⟩ := gy.b18.free2
        go_wp2_with fail
        go_meet
        exact ⟨rfl, rfl, ⟨gy.gx.bel.setCell (by have := gy.h18; simp only; omega) _, gy.gx.b5.oth (by have := gy.h18; omega) _ _, gy.gx.b8.oth (by have := gy.h18; omega) _ _, gy.gx.b9.oth (by have := gy.h18; omega) _ _⟩, gy.b16.oth (by omega) _ _, gy.b18.put 1 _, gy.h16, gy.h18⟩
      · have hr2 := hr.tail (a := n) hnm
        rw [enc_drop] at hr2
        go_wp2_with fail
        refine (hG2 _ _ _ _ hr2 (by omega)).mono ?_
        rintro e' w3 ⟨rfl, hb3⟩
        replace gy := gy.below hb3
        clear q0 q1 q2 q3 q4 q5 q6 q7
        obtain ⟨q0, q1, q2, q3, q4, q5, q6, q7⟩ := gy.gx.b5.get8
        obtain ⟨z0, z1⟩ := gy.b18.get2
        obtain ⟨f0, f1⟩ := gy.b18.free2
        go_wp2_with fail
        go_meet
        exact ⟨rfl, rfl, ⟨gy.gx.bel.setCell (by have := gy.h18; simp only; omega) _, gy.gx.b5.oth (by have := gy.h18; omega) _ _, gy.gx.b8.oth (by have := gy.h18; omega) _ _, gy.gx.b9.oth (by have := gy.h18; omega) _ _⟩, gy.b16.oth (by omega) _ _, gy.b18.put 1 _, gy.h16, gy.h18⟩
    case rest =>
      obtain ⟨rfl, rfl, gy⟩ := hcut
      by_cases he : e = 0
      · have he1 : ((e : Int) != 0) = false := by simp [he]
        by_cases ht : t ≤ s.t
        · obtain rfl : R = badK 4 := by rw [HL.out, if_neg (by omega), if_pos ht]
          clear he HV HL hAF
          obtain ⟨q0, q1, q2, q3, q4, q5, q6, q7⟩ := gy.gx.b5.get8
          obtain ⟨z0, z1⟩ := gy.b18.get2
          obtain ⟨a0, a1⟩ := gy.gx.b8.get2
          obtain ⟨af0, af1⟩ := gy.gx.b8.free2
          obtain ⟨d0, d1, d2, d3, d4, d5, d6, d7⟩ := gy.gx.b9.get8
          obtain ⟨df0, df1, df2, df3, df4, df5, df6, df7⟩ := gy.gx.b9.free8
          go_wp2
          have hY := gy.gx.zero (.int .i64 0) (.int .u64 0) (.int .i64 0) (.int .i64 0) (.int .i64 0) (.int .u64 0) (.int .u64 0) (.int .u64 0) (.int .i64 0) (.int .i64 0)
          clear a0 a1 af0 af1 d0 d1 d2 d3 d4 d5 d6 d7 df0 df1 df2 df3 df4 df5 df6 df7 gy
          generalize ((((((((((wc.setCell ⟨w.heap.size + 1, 0, none⟩ (.int .i64 0)).setCell ⟨w.heap.size + 1, 1, none⟩ (.int .u64 0)).setCell ⟨w.heap.size + 1 + 1, 0, none⟩ (.int .i64 0)).setCell ⟨w.heap.size + 1 + 1, 1, none⟩ (.int .i64 0)).setCell ⟨w.heap.size + 1 + 1, 2, none⟩ (.int .i64 0)).setCell ⟨w.heap.size + 1 + 1, 3, none⟩ (.int .u64 0)).setCell ⟨w.heap.size + 1 + 1, 4, none⟩ (.int .u64 0)).setCell ⟨w.heap.size + 1 + 1, 5, none⟩ (.int .u64 0)).setCell ⟨w.heap.size + 1 + 1, 6, none⟩ (.int .i64 0)).setCell ⟨w.heap.size + 1 + 1, 7, none⟩ (.int .i64 0)) = X at *
          obtain ⟨a0, a1⟩ := hY.b8.get2
          obtain ⟨d0, d1, d2, d3, d4, d5, d6, d7⟩ := hY.b9.get8
          refine bodyPost_ret (v := .tuple #[.agg #[.int .i64 0, .int .u64 0], (.agg #[.int .i64 0, .int .i64 0, .int .i64 0, .int .u64 0, .int .u64 0, .int .u64 0, .int .i64 0, .int .i64 0]), .int .i64 0, .int .i64 4]) ?_ rfl ⟨rfl, hY.bel⟩
          simp [results, Tryz.results75, go_sem, a0, a1, d0, d1, d2, d3, d4, d5, d6, d7]
        · obtain rfl : R = ⟨t, v, s', n + j, 0⟩ := by rw [HL.out, if_neg (by omega), if_neg ht]
          have hj : IntKind.i64.wrap ((n : Int) + (j : Int)) = ((n + j : Nat) : Int) := by rw [IntKind.wrap_i64]; omega
          clear he HV HL
          obtain ⟨q0, q1, q2, q3, q4, q5, q6, q7⟩ := gy.gx.b5.get8
          obtain ⟨z0, z1⟩ := gy.b18.get2
          go_upto_region 28 with fail
          clear q0 q1 q2 q3 q4 q5 q6 q7 z0 z1
          replace gy := gy.drew
          go_cut [8, 9] (fun x8 x9 wx => x8 = .int .i64 ((n + j : Nat) : Int) ∧ x9 = .int .i64 0 ∧ GX w wx s [.int .i64 t, .int .u64 (v : Int)] [.int .i64 (s'.n : Int), .int .i64 s'.t, .int .i64 s'.d, .int .u64 (s'.v : Int), .int .u64 (s'.e : Int), .int .u64 (s'.x.prev : Int), .int .i64 (s'.x.lead : Int), .int .i64 (s'.x.len : Int)])
          case first =>
            have px := gy
            clear gy
            have q0 := px.cells
            obtain ⟨u60, u61⟩ := px.gx.b8.get2
            obtain ⟨v60, v61⟩ := px.gx.b8.free2
            obtain ⟨u70, u71, u72, u73, u74, u75, u76, u77⟩ := px.gx.b9.get8
            obtain ⟨v70, v71, v72, v73, v74, v75, v76, v77⟩ := px.gx.b9.free8
            go_region_held3 (fun w' => (w'.cell? ⟨w.heap.size, 0, none⟩ = some (.int .i64 (s.n : Int)) ∧ w'.cell? ⟨w.heap.size, 1, none⟩ = some (.int .i64 s.t) ∧ w'.cell? ⟨w.heap.size, 2, none⟩ = some (.int .i64 s.d) ∧ w'.cell? ⟨w.heap.size, 3, none⟩ = some (.int .u64 (s.v : Int)) ∧ w'.cell? ⟨w.heap.size, 4, none⟩ = some (.int .u64 (s.e : Int)) ∧ w'.cell? ⟨w.heap.size, 5, none⟩ = some (.int .u64 (s.x.prev : Int)) ∧ w'.cell? ⟨w.heap.size, 6, none⟩ = some (.int .i64 (s.x.lead : Int)) ∧ w'.cell? ⟨w.heap.size, 7, none⟩ = some (.int .i64 (s.x.len : Int))) ∧ (w'.cell? ⟨g + 1, 0, none⟩ = some (.int .u64 (y.prev : Int)) ∧ w'.cell? ⟨g + 1, 1, none⟩ = some (.int .i64 (y.lead : Int)) ∧ w'.cell? ⟨g + 1, 2, none⟩ = some (.int .i64 (y.len : Int))) ∧ (w'.cell? ⟨g, 0, none⟩ = some (.int .i64 t) ∧ w'.cell? ⟨g, 1, none⟩ = some (.int .u64 (v : Int))))
              (with_reducible first | exact px.cells | exact (px.set8 _ _).cells | exact (px.set9 _ _ _ _ _ _ _ _).cells | exact ((px.set8 _ _).set9 _ _ _ _ _ _ _ _).cells | exact ((px.set9 _ _ _ _ _ _ _ _).set8 _ _).cells) (first
              | (go_at_call 91; (with_reducible refine (hAF _).mono ?_); rintro e w7 ⟨rfl, HB⟩; (with_reducible first | replace px := px.below HB | replace px := (px.set8 _ _).below HB); clear HB u60 u61 v60 v61 u70 u71 u72 u73 u74 u75 u76 u77 v70 v71 v72 v73 v74 v75 v76 v77; obtain ⟨u60, u61⟩ := px.gx.b8.get2; obtain ⟨v60, v61⟩ := px.gx.b8.free2; obtain ⟨u70, u71, u72, u73, u74, u75, u76, u77⟩ := px.gx.b9.get8; obtain ⟨v70, v71, v72, v73, v74, v75, v76, v77⟩ := px.gx.b9.free8))
            all_goals
              clear q0 u60 u61 v60 v61 u70 u71 u72 u73 u74 u75 u76 u77 v70 v71 v72 v73 v74 v75 v76 v77 hAF
              go_wp2_with fail
              go_meet
              with_reducible first
                | exact ⟨rfl, rfl, (px.set9 _ _ _ _ _ _ _ _).gx⟩
                | exact ⟨rfl, rfl, ((px.set8 _ _).set9 _ _ _ _ _ _ _ _).gx⟩
                | exact ⟨rfl, rfl, ((px.set9 _ _ _ _ _ _ _ _).set8 _ _).gx⟩
          case rest =>
            obtain ⟨rfl, rfl, hY⟩ := hcut
            obtain ⟨a0, a1⟩ := hY.b8.get2
            obtain ⟨d0, d1, d2, d3, d4, d5, d6, d7⟩ := hY.b9.get8
            clear gy
            go_wp2
            refine bodyPost_ret (v := .tuple #[(.agg #[.int .i64 t, .int .u64 (v : Int)]), (.agg #[.int .i64 (s'.n : Int), .int .i64 s'.t, .int .i64 s'.d, .int .u64 (s'.v : Int), .int .u64 (s'.e : Int), .int .u64 (s'.x.prev : Int), .int .i64 (s'.x.lead : Int), .int .i64 (s'.x.len : Int)]), .int .i64 ((n + j : Nat) : Int), .int .i64 0]) ?_ rfl ⟨rfl, hY.bel⟩
            simp [results, Tryz.results75, go_sem, a0, a1, d0, d1, d2, d3, d4, d5, d6, d7]
      · have he1 : ((e : Int) != 0) = true := by simp [he]
        obtain rfl : R = badK e := by rw [HL.out, if_pos he]
        clear he HV HL hAF
        obtain ⟨a0, a1⟩ := gy.gx.b8.get2
        obtain ⟨af0, af1⟩ := gy.gx.b8.free2
        obtain ⟨d0, d1, d2, d3, d4, d5, d6, d7⟩ := gy.gx.b9.get8
        obtain ⟨df0, df1, df2, df3, df4, df5, df6, df7⟩ := gy.gx.b9.free8
        go_wp2
        have hY := gy.gx.zero (.int .i64 0) (.int .u64 0) (.int .i64 0) (.int .i64 0) (.int .i64 0) (.int .u64 0) (.int .u64 0) (.int .u64 0) (.int .i64 0) (.int .i64 0)
        clear a0 a1 af0 af1 d0 d1 d2 d3 d4 d5 d6 d7 df0 df1 df2 df3 df4 df5 df6 df7 gy
        generalize ((((((((((wc.setCell ⟨w.heap.size + 1, 0, none⟩ (.int .i64 0)).setCell ⟨w.heap.size + 1, 1, none⟩ (.int .u64 0)).setCell ⟨w.heap.size + 1 + 1, 0, none⟩ (.int .i64 0)).setCell ⟨w.heap.size + 1 + 1, 1, none⟩ (.int .i64 0)).setCell ⟨w.heap.size + 1 + 1, 2, none⟩ (.int .i64 0)).setCell ⟨w.heap.size + 1 + 1, 3, none⟩ (.int .u64 0)).setCell ⟨w.heap.size + 1 + 1, 4, none⟩ (.int .u64 0)).setCell ⟨w.heap.size + 1 + 1, 5, none⟩ (.int .u64 0)).setCell ⟨w.heap.size + 1 + 1, 6, none⟩ (.int .i64 0)).setCell ⟨w.heap.size + 1 + 1, 7, none⟩ (.int .i64 0)) = X at *
        obtain ⟨a0, a1⟩ := hY.b8.get2
        obtain ⟨d0, d1, d2, d3, d4, d5, d6, d7⟩ := hY.b9.get8
        refine bodyPost_ret (v := .tuple #[.agg #[.int .i64 0, .int .u64 0], (.agg #[.int .i64 0, .int .i64 0, .int .i64 0, .int .u64 0, .int .u64 0, .int .u64 0, .int .i64 0, .int .i64 0]), .int .i64 0, .int .i64 (e : Int)]) ?_ rfl ⟨rfl, hY.bel⟩
        simp [results, Tryz.results75, go_sem, a0, a1, d0, d1, d2, d3, d4, d5, d6, d7]
theorem rget_any (k : Nat) (s : KS) (A : Option Addr) (m c : Nat) (p : List Bool) (w : World) (hk : k = 1 ∨ k = 2) (hs : s.May) (hn : s.n ≤ 1000000) (h : Rd w w.heap.size A m c (enc p)) (hm : m ≤ 100000) :
    Calls Tryz.prog 75 #[.int .i64 (k : Int), (.agg #[.int .i64 (s.n : Int), .int .i64 s.t, .int .i64 s.d, .int .u64 (s.v : Int), .int .u64 (s.e : Int), .int .u64 (s.x.prev : Int), .int .i64 (s.x.lead : Int), .int .i64 (s.x.len : Int)]), .slice A m c] w (RetRG8 w k s p) := by
  have hl : p.length = m := by have := h.len; rwa [enc_length] at this
  by_cases h0 : s.n = 0
  · have hK : KGets k s p (firstK k s p) := .inl ⟨h0, rfl⟩
    by_cases h1 : m < 128
    · have e : firstK k s p = badK 2 := by unfold firstK; rw [if_pos (by omega)]
      exact (rget_short k s A m c w hk h0 h1).mono fun f w' ⟨h2, h3⟩ => ⟨_, hK, by rw [e]; exact h2, h3⟩
    · have e1 : (firstK k s p).n = 128 := by unfold firstK; rw [if_neg (by omega)]
      have e2 : (firstK k s p).e = 0 := by unfold firstK; rw [if_neg (by omega)]
      exact (rget_first k s A m c p w hk h0 h (by omega) hm).mono fun f w' ⟨h2, h3⟩ => ⟨_, hK, by rw [e1, e2]; exact h2, h3⟩
  · obtain ⟨st, n, e, hd⟩ := dgets_is p
    obtain ⟨v, y, j, e2, hv⟩ := vgets_is k s (p.drop n)
    have hK : KGets k s p (laterK k s st n e v y j e2) := .inr ⟨h0, st, n, e, v, y, j, e2, hd, hv, rfl⟩
    by_cases he : e = 0
    · subst he
      exact (rget_later k s A m c p w hk hs hn h0 h hm st n hd v y j e2 hv).mono fun f w' ⟨h2, h3⟩ => ⟨_, hK, h2, h3⟩
    · have e1 : laterK k s st n e v y j e2 = badK e := by unfold laterK; rw [if_pos he]
      exact (rget_terr k s A m c p w hk h0 h hm st n e hd he).mono fun f w' ⟨h2, h3⟩ => ⟨_, hK, by rw [e1]; exact h2, h3⟩
end Go.Proofs.YtbocpgffddkfdaaGreatDoor

namespace Go.Proofs.YtbocpgffddkfdaaGreatDoor
open Go.RowKit

def RetRGA (w : World) (z : Int) (s : KS) (p : List Bool) (e : Ending) (w' : World) : Prop :=
  ∃ r, KG z s p r ∧ e = .returned (.tuple #[(.agg #[.int .i64 r.t, .int .u64 (r.v : Int)]), (.agg #[.int .i64 (r.s.n : Int), .int .i64 r.s.t, .int .i64 r.s.d, .int .u64 (r.s.v : Int), .int .u64 (r.s.e : Int), .int .u64 (r.s.x.prev : Int), .int .i64 (r.s.x.lead : Int), .int .i64 (r.s.x.len : Int)]), .int .i64 (r.n : Int), .int .i64 (r.e : Int)]) ∧ Below w.heap.size w w'
theorem rget_all8 (z : Int) (s : KS) (A : Option Addr) (m c : Nat) (p : List Bool) (w : World) (hs : s.May) (hn : s.n ≤ 1000000) (h : Rd w w.heap.size A m c (enc p)) (hm : m ≤ 100000) :
    Calls Tryz.prog 75 #[.int .i64 z, (.agg #[.int .i64 (s.n : Int), .int .i64 s.t, .int .i64 s.d, .int .u64 (s.v : Int), .int .u64 (s.e : Int), .int .u64 (s.x.prev : Int), .int .i64 (s.x.lead : Int), .int .i64 (s.x.len : Int)]), .slice A m c] w (RetRGA w z s p) := by
  by_cases hz : z ≠ 1 ∧ z ≠ 2
  · exact (rget_kind z s A m c w (by simp [hz.1]) (by simp [hz.2])).mono fun e w' ⟨h1, h2⟩ => ⟨_, .inl ⟨hz, rfl⟩, h1, h2⟩
  · obtain ⟨k, rfl, hk⟩ := known_is hz
    exact (rget_any k s A m c p w hk hs hn h hm).mono fun e w' ⟨r, h1, h2, h3⟩ => ⟨r, .inr ⟨k, rfl, hk, h1⟩, h2, h3⟩
end Go.Proofs.YtbocpgffddkfdaaGreatDoor

namespace Go.Proofs.YtbocpgffddkfdaaGreatDoor
open Go.RowKit

def RetRSD (w : World) (z : Int) (bs : List Nat) (n : Int) (e : Ending) (w' : World) : Prop :=
  ∃ xs er A c, DecA z bs n xs er ∧ e = .returned (.tuple #[.slice A xs.length c, .int .i64 (er : Int)]) ∧ OwnQ w w' (.slice A xs.length c) xs
def AtRSD (w : World) (B g n : Nat) (z : Int) (bs : List Nat) (l q i : Value) (wr : World) : Prop :=
  ∃ (j : Nat) (xs : List (Int × Nat)) (s : KS) (p : List Bool) (A : Option Addr) (m c : Nat), j ≤ n ∧ i = .int .i64 ((j : Nat) : Int) ∧ q = .slice A m c ∧ Rd wr g A m c (enc p) ∧ p.length + 2 * j ≤ 8 * bs.length ∧ GoneD z (flat bs) n xs (n - j) s p ∧ xs.length = j ∧ s.May ∧ s.n = j ∧
    MidQ w B wr l xs ∧ BoxL wr g [.int .i64 (s.n : Int), .int .i64 s.t, .int .i64 s.d, .int .u64 (s.v : Int), .int .u64 (s.e : Int), .int .u64 (s.x.prev : Int), .int .i64 (s.x.lead : Int), .int .i64 (s.x.len : Int)]
set_option maxRecDepth 20000 in
set_option maxHeartbeats 1000000 in
theorem rslowdec_arg (A : Option Addr) (m c : Nat) (bs : List Nat) (z n : Int) (w : World) (_hn : -9223372036854775808 ≤ n ∧ n ≤ 9223372036854775807) (h : n < 1 ∨ (1 ≤ n ∧ 65535 < n)) :
    Calls Tryz.prog 55 #[.int .i64 z, .slice A m c, .int .i64 n] w (RetRSD w z bs n) := by
  have HD : Hid (DecA z bs n [] 1) := Lib.hid (.inl ⟨by omega, rfl, rfl⟩)
  rcases h with h | h
  all_goals
    go_enter Tryz.func55, Tryz.ntmps55
    go_wp2
    go_ret2
    exact ⟨[], 1, none, 0, HD.out, rfl, OwnQ.nil_ _ _ (Below.refl _ _)⟩
theorem Rd.cutBits {w : World} {B n c k : Nat} {A : Option Addr} {p : List Bool} (h : Rd w B A n c (enc p)) (hk : k ≤ n) : Rd w B (if c = k then A else A.map (fun x => x.add k)) (n - k) (c - k) (enc (p.drop k)) := by
  rw [← enc_drop]
  by_cases hc : c = k
  · rw [if_pos hc]
    subst hc
    have := h.tailEnd hk
    rw [Nat.sub_self]
    exact this
  · rw [if_neg hc]
    exact h.tail hk
set_option maxRecDepth 20000 in
set_option maxHeartbeats 4000000 in
theorem rslowdec_in (A0 : Option Addr) (m0 c0 : Nat) (bs : List Nat) (z : Int) (n : Nat) (w : World) (h : Rd w w.heap.size A0 m0 c0 bs) (hb : ∀ x ∈ bs, x < 256) (hm : m0 ≤ 10000) (hn : 1 ≤ n ∧ n ≤ 65535) :
    Calls Tryz.prog 55 #[.int .i64 z, .slice A0 m0 c0, .int .i64 (n : Int)] w (RetRSD w z bs (n : Int)) := by
  have HL : Hid (bs.length = m0) := Lib.hid h.len
  have hn1 : ¬ (n : Int) < 1 := by omega
  have hn2 : ¬ 65535 < (n : Int) := by omega
  have HDA : Hid (∀ xs e, Dec z n zeroK (flat bs) xs e → DecA z bs (n : Int) xs e) := Lib.hid fun xs e hd => .inr ⟨by omega, by simpa using hd⟩
  have hF := flat_any A0 m0 c0 bs w h hb (by omega)
  clear hb h
  go_enter Tryz.func55, Tryz.ntmps55
  go_wp2_with fail
  refine hF.mono ?_
  rintro e w1 ⟨A1, c1, rfl, ho1⟩
  clear hF
  go_upto_block 0 with fail
  have hr1 := ho1.rd
  rw [enc_length, flat_length, HL.out] at hr1
  rw [show (enc (flat bs)).length = 8 * m0 by rw [enc_length, flat_length, HL.out]]
  have b10 := BoxL.new w1 [.int .i64 0, .int .i64 0, .int .i64 0, .int .u64 0, .int .u64 0, .int .u64 0, .int .i64 0, .int .i64 0] 129
  have hal : Below w1.heap.size w1 (w1.alloc (.cells #[.int .i64 0, .int .i64 0, .int .i64 0, .int .u64 0, .int .u64 0, .int .u64 0, .int .i64 0, .int .i64 0] 129)) := by repeat (first | with_reducible exact Below.refl _ _ | with_reducible assumption | with_reducible refine Below.drew ?_ | with_reducible refine below_drewN ?_ _ | with_reducible refine Below.alloc ?_ (by (first | assumption | omega | (simp; done) | (simp; omega))) _ | with_reducible refine below_set ?_ (by (first | assumption | omega | (simp; done) | (simp; omega))) _ _)
  have hW := ho1.bel.trans (hal.mono ho1.bel.size)
  have hg0 : w.heap.size ≤ w1.heap.size := ho1.bel.size
  replace hr1 := hr1.below hal
  clear ho1 hal
  generalize w1.alloc (.cells #[.int .i64 0, .int .i64 0, .int .i64 0, .int .u64 0, .int .u64 0, .int .u64 0, .int .i64 0, .int .i64 0] 129) = W at *
  generalize w1.heap.size = g10 at *
  clear hn1 hn2
  go_wp2_with fail
  go_loopw [9, 8, 11] (fun l q i wr => AtRSD w (g10 + 1) g10 n z bs l q i wr) (fun _ _ i _ => n - (intOf i).toNat)
  case atStart =>
    exact ⟨0, [], zeroK, flat bs, A1, 8 * m0, c1, Nat.zero_le _, rfl, rfl, hr1, by rw [flat_length]; omega, GoneD.zero z (flat bs) n, rfl, zeroK_may, rfl, MidQ.nil_ hW (by omega), b10⟩
  case round =>
    clear b10 hW hr1
    obtain ⟨j, xs, s, p, A, m, c, hj, rfl, rfl, hr, hpj, hgone, hxl, hs, hsn, hmr, x10⟩ := hrel
    have hwrs := hmr.bel.size
    have l10 := x10.lt
    have hpm : p.length = m := by have := hr.len; rw [enc_length] at this; exact this
    have HPM := Lib.hid hpm
    rw [hpm, HL.out] at hpj
    have hcap := hr.cap
    clear hpm
    by_cases hlt : j < n
    · have hget := rget_all8 z s A m c p wr hs (by omega) (hr.more (by omega)) (by omega)
      rw [show n - j = (n - (j + 1)) + 1 by omega] at hgone
      have HWE := Lib.hid hgone
      have HXL := Lib.hid hxl
      have HSN := Lib.hid hsn
      obtain ⟨f0, f1, f2, f3, f4, f5, f6, f7⟩ := x10.get8
      clear hgone hxl hsn
      go_wp2_with fail
      refine hget.mono ?_
      rintro e w3 ⟨r, hkg, rfl, hb3⟩
      obtain ⟨hrt, hrv, hrs, hrn, hre, hok⟩ := kg_in hs hkg
      have HKG := Lib.hid hkg
      have HOK := Lib.hid hok
      clear hget f0 f1 f2 f3 f4 f5 f6 f7 hkg hok
      by_cases he : r.e = 0
      · obtain ⟨hok1, hok2, hok3⟩ := HOK.out he
        rw [HPM.out] at hok1
        rw [HSN.out] at hok2
        have HS := Lib.hid (HWE.out.step HKG.out he)
        have HOK2 := Lib.hid hok2
        have he' : ((r.e : Int) != 0) = false := by simp [he]
        clear hok2 HKG HWE HOK
        go_upto_region 10 with fail
        have b12 := (BoxL.new w3 [.int .i64 r.t, .int .u64 (r.v : Int)] 61).onA (.cells #[.int .i64 (r.s.n : Int), .int .i64 r.s.t, .int .i64 r.s.d, .int .u64 (r.s.v : Int), .int .u64 (r.s.e : Int), .int .u64 (r.s.x.prev : Int), .int .i64 (r.s.x.lead : Int), .int .i64 (r.s.x.len : Int)] 129)
        have b13 := BoxL.new (w3.alloc (.cells #[.int .i64 r.t, .int .u64 (r.v : Int)] 61)) [.int .i64 (r.s.n : Int), .int .i64 r.s.t, .int .i64 r.s.d, .int .u64 (r.s.v : Int), .int .u64 (r.s.e : Int), .int .u64 (r.s.x.prev : Int), .int .i64 (r.s.x.lead : Int), .int .i64 (r.s.x.len : Int)] 129
        simp only [World.size_alloc] at b13
        have hal : Below w3.heap.size w3 ((w3.alloc (.cells #[.int .i64 r.t, .int .u64 (r.v : Int)] 61)).alloc (.cells #[.int .i64 (r.s.n : Int), .int .i64 r.s.t, .int .i64 r.s.d, .int .u64 (r.s.v : Int), .int .u64 (r.s.e : Int), .int .u64 (r.s.x.prev : Int), .int .i64 (r.s.x.lead : Int), .int .i64 (r.s.x.len : Int)] 129)) := by repeat (first | with_reducible exact Below.refl _ _ | with_reducible assumption | with_reducible refine Below.drew ?_ | with_reducible refine below_drewN ?_ _ | with_reducible refine Below.alloc ?_ (by (first | assumption | omega | (simp; done) | (simp; omega))) _ | with_reducible refine below_set ?_ (by (first | assumption | omega | (simp; done) | (simp; omega))) _ _)
        have hgx : wr.heap.size ≤ w3.heap.size := hb3.size
        replace hb3 := hb3.trans (hal.mono hb3.size)
        clear hal
        generalize (w3.alloc (.cells #[.int .i64 r.t, .int .u64 (r.v : Int)] 61)).alloc (.cells #[.int .i64 (r.s.n : Int), .int .i64 r.s.t, .int .i64 r.s.d, .int .u64 (r.s.v : Int), .int .u64 (r.s.e : Int), .int .u64 (r.s.x.prev : Int), .int .i64 (r.s.x.lead : Int), .int .i64 (r.s.x.len : Int)] 129) = V at *
        generalize w3.heap.size = gx at *
        have hub : ∀ g, u9.ownBlock = some g → g < wr.heap.size := fun g hg => (hmr.row.lt g hg).2
        have nx : u9.ownBlock ≠ some (gx + 1) := fun e => by have := hub _ e; omega
        have mC := (hmr.on hb3).onA (.cells #[.int .i64 r.t, .int .u64 (r.v : Int)] 61)
        have r9 := RdQ.one V (r.t, r.v) ⟨hrt.1, hrt.2, hrv⟩
        have hb4 : Below wr.heap.size wr (V.alloc (.cells #[.int .i64 r.t, .int .u64 (r.v : Int)] 61)) := hb3.alloc hb3.size _
        have x10V := x10.below hb4
        have b13V := b13.onA (.cells #[.int .i64 r.t, .int .u64 (r.v : Int)] 61)
        replace hr := hr.below (hb4.mono (by omega))
        obtain ⟨y0, y1⟩ := b12.get2
        have hVs : g10 + 1 ≤ (V.alloc (.cells #[.int .i64 r.t, .int .u64 (r.v : Int)] 61)).heap.size := by have := hb3.size; simp; omega
        have hxm : xs.length + 1 ≤ 8796093022208 := by rw [HXL.out]; omega
        clear hub hmr x10 b13 b12 hb3 hb4
        go_upto_region 13 with (at_builtin; (refine wpList_appMQ rfl (.tmp 42) (.tmp 44) rfl rfl rfl mC hVs r9 hxm ?_; intro v' w' m' hb' hg'))
        clear y0 y1
        have x10W := x10V.belowB hb' (Nat.lt_succ_self _)
        have b13W := b13V.grown hg' nx
        replace hr := hr.below (hb'.mono (Nat.le_succ _))
        have hne : g10 ≠ gx + 1 := by omega
        obtain ⟨z0, z1, z2, z3, z4, z5, z6, z7⟩ := b13W.get8
        obtain ⟨k0, k1, k2, k3, k4, k5, k6, k7⟩ := x10W.get8
        obtain ⟨kf0, kf1, kf2, kf3, kf4, kf5, kf6, kf7⟩ := x10W.free8
        clear x10V b13V hg' mC r9
        go_wp2_with fail
        clear z0 z1 z2 z3 z4 z5 z6 z7 k0 k1 k2 k3 k4 k5 k6 k7 kf0 kf1 kf2 kf3 kf4 kf5 kf6 kf7
        go_roundw
        case rel =>
          refine ⟨j + 1, xs ++ [(r.t, r.v)], r.s, p.drop r.n, _, m - r.n, c - r.n, by omega, by go_num, rfl, ?_, ?_, HS.out, by rw [List.length_append, HXL.out]; rfl, hrs, HOK2.out, ?_, x10W.all8 _ _ _ _ _ _ _ _⟩
          · exact Rd.below (hr.cutBits hok1) (below_set8 (Below.refl _ _) (Nat.le_refl _) _ _ _ _ _ _ _ _)
          · rw [List.length_drop, HPM.out, HL.out]; omega
          · exact m'.set8 hg0 (Nat.lt_succ_self _) _ _ _ _ _ _ _ _
        case measure => simp [intOf]; omega
      · have HD := Lib.hid (HDA.out _ _ (HWE.out.err HKG.out he))
        have he' : ((r.e : Int) != 0) = true := by simp [he]
        have hown := (hmr.on hb3).own
        obtain ⟨A', c', rfl, _⟩ := hown.form
        have hwb := hown.bel
        clear HWE HKG
        go_wp2_with fail
        go_ret2
        exact ⟨xs, r.e, A', c', HD.out, rfl, hown.keep (by repeat (first | with_reducible exact Below.refl _ _ | with_reducible assumption | with_reducible refine Below.drew ?_ | with_reducible refine below_drewN ?_ _ | with_reducible refine Below.alloc ?_ (by (first | assumption | omega | (simp; done) | (simp; omega))) _ | with_reducible refine below_set ?_ (by (first | assumption | omega | (simp; done) | (simp; omega))) _ _))⟩
    · obtain rfl : j = n := by omega
      rw [Nat.sub_self] at hgone
      have HD := Lib.hid (HDA.out _ _ hgone.done)
      have hown := hmr.own
      obtain ⟨A', c', rfl, _⟩ := hown.form
      clear hgone x10 hmr hxl hsn
      by_cases h8 : 8 ≤ m
      · have HE := Lib.hid (tailE_long (p := p) (by rw [HPM.out]; exact h8))
        rw [HE.out] at HD
        have h8i : 8 ≤ (m : Int) := by omega
        go_wp2_with fail
        go_ret2
        exact ⟨xs, 3, A', c', HD.out, rfl, hown⟩
      · have HE := Lib.hid (tailE_short (p := p) (by rw [HPM.out]; omega))
        have hN := number_any A m c g10 p wr hr (by omega)
        have h8i : (m : Int) < 8 := by omega
        generalize num p = x at *
        by_cases hx : x = 0
        · subst hx
          rw [HE.out, if_pos rfl] at HD
          go_wp2_with fail
          refine hN.mono ?_
          rintro e w2 ⟨rfl, rfl⟩
          go_wp2
          go_ret2
          exact ⟨xs, 0, A', c', HD.out, rfl, hown⟩
        · rw [HE.out, if_neg hx] at HD
          have hx0 : ((x : Int) != 0) = true := by simp; omega
          go_wp2_with fail
          refine hN.mono ?_
          rintro e w2 ⟨rfl, rfl⟩
          go_wp2
          go_ret2
          exact ⟨xs, 3, A', c', HD.out, rfl, hown⟩
theorem rslowdec_any (A : Option Addr) (m c : Nat) (bs : List Nat) (z n : Int) (w : World) (hn : -9223372036854775808 ≤ n ∧ n ≤ 9223372036854775807) (h : Rd w w.heap.size A m c bs) (hb : ∀ x ∈ bs, x < 256) (hm : m ≤ 10000) :
    Calls Tryz.prog 55 #[.int .i64 z, .slice A m c, .int .i64 n] w (RetRSD w z bs n) := by
  by_cases h1 : 1 ≤ n ∧ n ≤ 65535
  · obtain ⟨k, rfl⟩ := Int.eq_ofNat_of_zero_le (show 0 ≤ n by omega)
    exact rslowdec_in A m c bs z k w h hb hm (by omega)
  · exact rslowdec_arg A m c bs z n w hn (by omega)
end Go.Proofs.YtbocpgffddkfdaaGreatDoor
