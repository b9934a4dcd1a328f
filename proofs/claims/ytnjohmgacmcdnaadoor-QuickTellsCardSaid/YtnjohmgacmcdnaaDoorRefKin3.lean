/-
  The contract of the reference's GetSample.
-/
import Derived.Test.YtnjohmgacmcdnaaDoorRefKin
import Derived.Test.YtnjohmgacmcdnaaDoorRGets
import Derived.Test.YtnjohmgacmcdnaaDoorKinGets
import Derived.Test.YtnjohmgacmcdnaaDoorKinGet
import Derived.Test.YtnjohmgacmcdnaaDoorRefGetX
import Derived.Test.YtnjohmgacmcdnaaDoorWords
namespace Go.Proofs.YtnjohmgacmcdnaaDoor
open Go.RowKit

/-- what GetSample comes to -/
def RetRG8 (w : World) (k : Nat) (s : KS) (p : List Bool) (e : Ending) (w' : World) : Prop :=
  ∃ r, KGets k s p r ∧ e = .returned (.tuple #[(.agg #[.int .i64 r.t, .int .u64 (r.v : Int)]), (.agg #[.int .i64 (r.s.n : Int), .int .i64 r.s.t, .int .i64 r.s.d, .int .u64 (r.s.v : Int), .int .u64 (r.s.e : Int), .int .u64 (r.s.x.prev : Int), .int .i64 (r.s.x.lead : Int), .int .i64 (r.s.x.len : Int)]), .int .i64 (r.n : Int), .int .i64 (r.e : Int)]) ∧ Below w.heap.size w w'

set_option maxRecDepth 20000 in
set_option maxHeartbeats 1000000 in
theorem rget_kind (z : Int) (s : KS) (A : Option Addr) (m c : Nat) (w : World) (h1 : (z != 1) = true) (h2 : (z != 2) = true) :
    Calls Tryd.prog 18 #[.int .i64 z, (.agg #[.int .i64 (s.n : Int), .int .i64 s.t, .int .i64 s.d, .int .u64 (s.v : Int), .int .u64 (s.e : Int), .int .u64 (s.x.prev : Int), .int .i64 (s.x.lead : Int), .int .i64 (s.x.len : Int)]), .slice A m c] w fun e w' => e = .returned (.tuple #[.agg #[.int .i64 0, .int .u64 0], (.agg #[.int .i64 0, .int .i64 0, .int .i64 0, .int .u64 0, .int .u64 0, .int .u64 0, .int .i64 0, .int .i64 0]), .int .i64 0, .int .i64 6]) ∧ Below w.heap.size w w' := by
  go_enter Tryd.func18, Tryd.ntmps18
  go_wp2
  go_returns
  exact ⟨rfl, by repeat (first | with_reducible exact Below.refl _ _ | assumption | with_reducible refine Below.drew ?_ | with_reducible refine Below.alloc ?_ (by (first | assumption | omega | (simp; done) | (simp; omega))) _)⟩
theorem kind_tests {k : Nat} (hk : k = 1 ∨ k = 2) : (((k : Int) != 1) = false ∧ ((k : Int) == 1) = true ∧ ((k : Int) == 2) = false) ∨ (((k : Int) != 1) = true ∧ ((k : Int) != 2) = false ∧ ((k : Int) == 1) = false ∧ ((k : Int) == 2) = true) := by
  rcases hk with rfl | rfl <;> simp
set_option maxRecDepth 20000 in
set_option maxHeartbeats 1000000 in
theorem rget_short (k : Nat) (s : KS) (A : Option Addr) (m c : Nat) (w : World) (hk : k = 1 ∨ k = 2) (h0 : s.n = 0) (hm : m < 128) :
    Calls Tryd.prog 18 #[.int .i64 (k : Int), (.agg #[.int .i64 (s.n : Int), .int .i64 s.t, .int .i64 s.d, .int .u64 (s.v : Int), .int .u64 (s.e : Int), .int .u64 (s.x.prev : Int), .int .i64 (s.x.lead : Int), .int .i64 (s.x.len : Int)]), .slice A m c] w fun e w' => e = .returned (.tuple #[.agg #[.int .i64 0, .int .u64 0], (.agg #[.int .i64 0, .int .i64 0, .int .i64 0, .int .u64 0, .int .u64 0, .int .u64 0, .int .i64 0, .int .i64 0]), .int .i64 0, .int .i64 2]) ∧ Below w.heap.size w w' := by
  have h1 : ((s.n : Int) == 0) = true := by simp [h0]
  clear h0
  rcases kind_tests hk with ⟨k1, k2, k3⟩ | ⟨k1, k2, k3, k4⟩
  all_goals
    clear hk
    go_enter Tryd.func18, Tryd.ntmps18
    go_wp2
    go_returns
    exact ⟨rfl, by repeat (first | with_reducible exact Below.refl _ _ | assumption | with_reducible refine Below.drew ?_ | with_reducible refine Below.alloc ?_ (by (first | assumption | omega | (simp; done) | (simp; omega))) _)⟩

/-- the world behind GetSample's three boxes -/
def sworld (w : World) (s : KS) : World := ((w.alloc (.cells #[.int .i64 (s.n : Int), .int .i64 s.t, .int .i64 s.d, .int .u64 (s.v : Int), .int .u64 (s.e : Int), .int .u64 (s.x.prev : Int), .int .i64 (s.x.lead : Int), .int .i64 (s.x.len : Int)] 55)).alloc (.cells #[.int .i64 0, .int .u64 0] 41)).alloc (.cells #[.int .i64 0, .int .i64 0, .int .i64 0, .int .u64 0, .int .u64 0, .int .u64 0, .int .i64 0, .int .i64 0] 55)
theorem sworld_is (w : World) (s : KS) : GX w (sworld w s) s [.int .i64 0, .int .u64 0] [.int .i64 0, .int .i64 0, .int .i64 0, .int .u64 0, .int .u64 0, .int .u64 0, .int .i64 0, .int .i64 0] := by
  have h5 := ((BoxL.new w [.int .i64 (s.n : Int), .int .i64 s.t, .int .i64 s.d, .int .u64 (s.v : Int), .int .u64 (s.e : Int), .int .u64 (s.x.prev : Int), .int .i64 (s.x.lead : Int), .int .i64 (s.x.len : Int)] 55).onA (.cells #[.int .i64 0, .int .u64 0] 41)).onA (.cells #[.int .i64 0, .int .i64 0, .int .i64 0, .int .u64 0, .int .u64 0, .int .u64 0, .int .i64 0, .int .i64 0] 55)
  have h8 := (BoxL.new (w.alloc (.cells #[.int .i64 (s.n : Int), .int .i64 s.t, .int .i64 s.d, .int .u64 (s.v : Int), .int .u64 (s.e : Int), .int .u64 (s.x.prev : Int), .int .i64 (s.x.lead : Int), .int .i64 (s.x.len : Int)] 55)) [.int .i64 0, .int .u64 0] 41).onA (.cells #[.int .i64 0, .int .i64 0, .int .i64 0, .int .u64 0, .int .u64 0, .int .u64 0, .int .i64 0, .int .i64 0] 55)
  have h9 := BoxL.new ((w.alloc (.cells #[.int .i64 (s.n : Int), .int .i64 s.t, .int .i64 s.d, .int .u64 (s.v : Int), .int .u64 (s.e : Int), .int .u64 (s.x.prev : Int), .int .i64 (s.x.lead : Int), .int .i64 (s.x.len : Int)] 55)).alloc (.cells #[.int .i64 0, .int .u64 0] 41)) [.int .i64 0, .int .i64 0, .int .i64 0, .int .u64 0, .int .u64 0, .int .u64 0, .int .i64 0, .int .i64 0] 55
  simp only [World.size_alloc] at h8 h9
  unfold sworld
  exact ⟨by repeat (first | with_reducible exact Below.refl _ _ | assumption | with_reducible refine Below.drew ?_ | with_reducible refine Below.alloc ?_ (by (first | assumption | omega | (simp; done) | (simp; omega))) _), h5, h8, h9⟩

theorem boxl_nil {w : World} {g : Nat} (h : g < w.heap.size) : BoxL w g [] := ⟨h, fun i v e => (by cases e), fun i v e => (by cases e)⟩
theorem gxdrew {w X : World} {s : KS} {l8 l9 : List Value} (h : GX w X s l8 l9) : GX w X.drew s l8 l9 := ⟨h.bel.drew, h.b5.drew, h.b8.drew, h.b9.drew⟩
set_option maxRecDepth 20000 in
set_option maxHeartbeats 4000000 in
theorem rget_first (k : Nat) (s : KS) (A : Option Addr) (m c : Nat) (p : List Bool) (w : World) (hk : k = 1 ∨ k = 2) (h0 : s.n = 0) (h : Rd w w.heap.size A m c (enc p)) (hm : 128 ≤ m) (hm2 : m ≤ 100000) :
    Calls Tryd.prog 18 #[.int .i64 (k : Int), (.agg #[.int .i64 (s.n : Int), .int .i64 s.t, .int .i64 s.d, .int .u64 (s.v : Int), .int .u64 (s.e : Int), .int .u64 (s.x.prev : Int), .int .i64 (s.x.lead : Int), .int .i64 (s.x.len : Int)]), .slice A m c] w fun e w' => e = .returned (.tuple #[(.agg #[.int .i64 (firstK k s p).t, .int .u64 ((firstK k s p).v : Int)]), (.agg #[.int .i64 ((firstK k s p).s.n : Int), .int .i64 (firstK k s p).s.t, .int .i64 (firstK k s p).s.d, .int .u64 ((firstK k s p).s.v : Int), .int .u64 ((firstK k s p).s.e : Int), .int .u64 ((firstK k s p).s.x.prev : Int), .int .i64 ((firstK k s p).s.x.lead : Int), .int .i64 ((firstK k s p).s.x.len : Int)]), .int .i64 128, .int .i64 0]) ∧ Below w.heap.size w w' := by
  have hl : p.length = m := by have := h.len; rwa [enc_length] at this
  have hX := sworld_is w s
  have h1 : ((s.n : Int) == 0) = true := by simp [h0]
  have hc := h.cap
  obtain ⟨ad, rfl, hbl, _⟩ := h.cell (by omega)
  have hr1 := h.cutHead (n := 64) (by omega)
  have hr2 := h.cutTo (a := 64) (n := 64) (by omega)
  rw [enc_take] at hr1
  rw [enc_cut] at hr2
  have HF : Hid (firstK k s p = ⟨sgnN (num (cut p 0 64)) 64, num (cut p 64 64), afterK k s (sgnN (num (cut p 0 64)) 64) (num (cut p 64 64)) zeroX, 128, 0⟩) := Lib.hid (by unfold firstK; rw [if_neg (by omega)])
  have e0 : p.take 64 = cut p 0 64 := by unfold cut; rw [List.drop_zero]
  rw [e0] at hr1
  rw [HF.out]
  have hsg := sg_64 (num (cut p 0 64))
  have hAF : ∀ X, Calls Tryd.prog 29 #[.int .i64 (k : Int), (.agg #[.int .i64 (s.n : Int), .int .i64 s.t, .int .i64 s.d, .int .u64 (s.v : Int), .int .u64 (s.e : Int), .int .u64 (s.x.prev : Int), .int .i64 (s.x.lead : Int), .int .i64 (s.x.len : Int)]), (.agg #[.int .i64 (sgnN (num (cut p 0 64)) 64), .int .u64 ((num (cut p 64 64)) : Int)]), .agg #[.int .u64 0, .int .i64 0, .int .i64 0]] X fun e w' => e = .returned (.agg #[.int .i64 ((afterK k s (sgnN (num (cut p 0 64)) 64) (num (cut p 64 64)) zeroX).n : Int), .int .i64 (afterK k s (sgnN (num (cut p 0 64)) 64) (num (cut p 64 64)) zeroX).t, .int .i64 (afterK k s (sgnN (num (cut p 0 64)) 64) (num (cut p 64 64)) zeroX).d, .int .u64 ((afterK k s (sgnN (num (cut p 0 64)) 64) (num (cut p 64 64)) zeroX).v : Int), .int .u64 ((afterK k s (sgnN (num (cut p 0 64)) 64) (num (cut p 64 64)) zeroX).e : Int), .int .u64 ((afterK k s (sgnN (num (cut p 0 64)) 64) (num (cut p 64 64)) zeroX).x.prev : Int), .int .i64 ((afterK k s (sgnN (num (cut p 0 64)) 64) (num (cut p 64 64)) zeroX).x.lead : Int), .int .i64 ((afterK k s (sgnN (num (cut p 0 64)) 64) (num (cut p 64 64)) zeroX).x.len : Int)]) ∧ Below X.heap.size X w' := fun X => refafter_any k s _ _ zeroX X hk (by omega)
  have hN1 := fun X (hX : Below w.heap.size w X) => number_any _ _ _ _ _ X (hr1.below hX) (by omega)
  have hN2 : ∀ X, Below w.heap.size w X → Calls Tryd.prog 19 #[.slice (some ⟨ad.block, ad.off + 64, none⟩) 64 (c - 64)] X fun e w' => e = .returned (.int .u64 ((num (cut p 64 64) : Nat) : Int)) ∧ X = w' := fun X hX => number_any _ _ _ _ _ X (hr2.below hX) (by omega)
  dsimp only
  generalize afterK k s (sgnN (num (cut p 0 64)) 64) (num (cut p 64 64)) zeroX = s' at *
  generalize sgnN (num (cut p 0 64)) 64 = t at *
  generalize num (cut p 0 64) = x at *
  generalize num (cut p 64 64) = v at *
  have hc1 : (128 : Int) ≤ (c : Int) := by omega
  have hc2 : (64 : Int) ≤ (c : Int) := by omega
  have hm1 : (128 : Int) ≤ (m : Int) := by omega
  have hc3 : 64 ≤ c := by omega
  have hc4 : 128 ≤ c := by omega
  clear h0 HF e0 h
  rcases kind_tests hk with ⟨k1, k2, k3⟩ | ⟨k1, k2, k3, k4⟩
  all_goals
    clear hk
    go_enter Tryd.func18, Tryd.ntmps18
    go_upto_region 6 with fail
    generalize hWe : ((w.alloc (.cells #[.int .i64 (s.n : Int), .int .i64 s.t, .int .i64 s.d, .int .u64 (s.v : Int), .int .u64 (s.e : Int), .int .u64 (s.x.prev : Int), .int .i64 (s.x.lead : Int), .int .i64 (s.x.len : Int)] 55)).alloc (.cells #[.int .i64 0, .int .u64 0] 41)).alloc (.cells #[.int .i64 0, .int .i64 0, .int .i64 0, .int .u64 0, .int .u64 0, .int .u64 0, .int .i64 0, .int .i64 0] 55) = W
    rw [show sworld w s = W from hWe] at hX
    clear hWe
    have hbW := hX.bel
    have hsW := hbW.size
    have hsg' : IntKind.i64.wrap (x : Int) = t := by rw [wrap_w64, ← w64_wrap]; exact hsg
    have h9 := hX.b9.lt
    go_cut [10] (fun x10 wx => ∃ g, x10 = .pointer (some ⟨g, 0, none⟩) ∧ BoxL wx g [.int .i64 t, .int .u64 (v : Int)] ∧ GX w wx s [.int .i64 0, .int .u64 0] [.int .i64 0, .int .i64 0, .int .i64 0, .int .u64 0, .int .u64 0, .int .u64 0, .int .i64 0, .int .i64 0] ∧ w.heap.size + 1 + 1 < g)
    case first =>
      go_region_held3 (fun _ => True) (trivial) (first
        | (go_at_call 19; (with_reducible refine (hN1 _ (by repeat (first | with_reducible exact Below.refl _ _ | assumption | with_reducible refine Below.drew ?_ | with_reducible refine Below.alloc ?_ (by (first | assumption | omega | (simp; done) | (simp; omega))) _))).mono ?_); rintro e w5 ⟨rfl, rfl⟩)
        | (go_at_call 19; (with_reducible refine (hN2 _ (by repeat (first | with_reducible exact Below.refl _ _ | assumption | with_reducible refine Below.drew ?_ | with_reducible refine Below.alloc ?_ (by (first | assumption | omega | (simp; done) | (simp; omega))) _))).mono ?_); rintro e w6 ⟨rfl, rfl⟩))
      all_goals
        clear hN1 hN2
        go_wp2_with fail
        go_meet
        with_reducible first
          | exact ⟨_, rfl, (BoxL.new _ _ _).drew, gxdrew (hX.below ((Below.refl _ _).alloc (Nat.le_refl _) _)), h9⟩
          | exact ⟨_, rfl, BoxL.new _ _ _, gxdrew (hX.below ((Below.refl _ _).alloc (Nat.le_refl _) _)), h9⟩
    case rest =>
      obtain ⟨g, rfl, b10, hX, hg⟩ := hcut
      clear hN1 hN2 hr1 hr2 hsg
      go_upto_region 7 with fail
      have px := (GY.mk hX (boxl_nil b10.lt) b10 hg hg : GY w wc s g g _ _ [] _).drew
      clear hX b10 hg
      go_cut [8, 9] (fun x8 x9 wx => x8 = .int .i64 128 ∧ x9 = .int .i64 0 ∧ GX w wx s [.int .i64 t, .int .u64 (v : Int)] [.int .i64 (s'.n : Int), .int .i64 s'.t, .int .i64 s'.d, .int .u64 (s'.v : Int), .int .u64 (s'.e : Int), .int .u64 (s'.x.prev : Int), .int .i64 (s'.x.lead : Int), .int .i64 (s'.x.len : Int)])
      case first =>
        have q0 := px.gx.b5.get8
        have q1 := px.b18.get2
        obtain ⟨u60, u61⟩ := px.gx.b8.get2
        obtain ⟨v60, v61⟩ := px.gx.b8.free2
        obtain ⟨u70, u71, u72, u73, u74, u75, u76, u77⟩ := px.gx.b9.get8
        obtain ⟨v70, v71, v72, v73, v74, v75, v76, v77⟩ := px.gx.b9.free8
        go_region_held3 (fun w' => (w'.cell? ⟨w.heap.size, 0, none⟩ = some (.int .i64 (s.n : Int)) ∧ w'.cell? ⟨w.heap.size, 1, none⟩ = some (.int .i64 s.t) ∧ w'.cell? ⟨w.heap.size, 2, none⟩ = some (.int .i64 s.d) ∧ w'.cell? ⟨w.heap.size, 3, none⟩ = some (.int .u64 (s.v : Int)) ∧ w'.cell? ⟨w.heap.size, 4, none⟩ = some (.int .u64 (s.e : Int)) ∧ w'.cell? ⟨w.heap.size, 5, none⟩ = some (.int .u64 (s.x.prev : Int)) ∧ w'.cell? ⟨w.heap.size, 6, none⟩ = some (.int .i64 (s.x.lead : Int)) ∧ w'.cell? ⟨w.heap.size, 7, none⟩ = some (.int .i64 (s.x.len : Int))) ∧ (w'.cell? ⟨g, 0, none⟩ = some (.int .i64 t) ∧ w'.cell? ⟨g, 1, none⟩ = some (.int .u64 (v : Int))))
          (with_reducible first | exact ⟨px.gx.b5.get8, px.b18.get2⟩ | exact ⟨(px.set8 _ _).gx.b5.get8, (px.set8 _ _).b18.get2⟩ | exact ⟨(px.set9 _ _ _ _ _ _ _ _).gx.b5.get8, (px.set9 _ _ _ _ _ _ _ _).b18.get2⟩ | exact ⟨((px.set8 _ _).set9 _ _ _ _ _ _ _ _).gx.b5.get8, ((px.set8 _ _).set9 _ _ _ _ _ _ _ _).b18.get2⟩ | exact ⟨((px.set9 _ _ _ _ _ _ _ _).set8 _ _).gx.b5.get8, ((px.set9 _ _ _ _ _ _ _ _).set8 _ _).b18.get2⟩) (first
          | (go_at_call 29; (with_reducible refine (hAF _).mono ?_); rintro e w7 ⟨rfl, HB⟩; (with_reducible first | replace px := px.below HB | replace px := (px.set8 _ _).below HB); clear HB u60 u61 v60 v61 u70 u71 u72 u73 u74 u75 u76 u77 v70 v71 v72 v73 v74 v75 v76 v77; obtain ⟨u60, u61⟩ := px.gx.b8.get2; obtain ⟨v60, v61⟩ := px.gx.b8.free2; obtain ⟨u70, u71, u72, u73, u74, u75, u76, u77⟩ := px.gx.b9.get8; obtain ⟨v70, v71, v72, v73, v74, v75, v76, v77⟩ := px.gx.b9.free8))
        all_goals
          clear q0 q1 u60 u61 v60 v61 u70 u71 u72 u73 u74 u75 u76 u77 v70 v71 v72 v73 v74 v75 v76 v77 hAF
          go_wp2_with fail
          go_meet
          with_reducible first
            | exact ⟨rfl, rfl, (px.set9 _ _ _ _ _ _ _ _).gx⟩
            | exact ⟨rfl, rfl, ((px.set8 _ _).set9 _ _ _ _ _ _ _ _).gx⟩
            | exact ⟨rfl, rfl, ((px.set9 _ _ _ _ _ _ _ _).set8 _ _).gx⟩
      case rest =>
        obtain ⟨rfl, rfl, hY⟩ := hcut
        obtain ⟨a0, a1⟩ := hY.b8.get2
        obtain ⟨d0, d1, d2, d3, d4, d5, d6, d7⟩ := hY.b9.get8
        clear px
        go_wp2
        refine bodyPost_ret (v := .tuple #[(.agg #[.int .i64 t, .int .u64 (v : Int)]), (.agg #[.int .i64 (s'.n : Int), .int .i64 s'.t, .int .i64 s'.d, .int .u64 (s'.v : Int), .int .u64 (s'.e : Int), .int .u64 (s'.x.prev : Int), .int .i64 (s'.x.lead : Int), .int .i64 (s'.x.len : Int)]), .int .i64 128, .int .i64 0]) ?_ rfl ⟨rfl, hY.bel⟩
        simp [results, Tryd.results18, go_sem, a0, a1, d0, d1, d2, d3, d4, d5, d6, d7]

end Go.Proofs.YtnjohmgacmcdnaaDoor
