/-
  Texts of this proof, one behind the other: KinGet, KinAllG.
-/
import Derived.Test.YtaebljoacffghaaGreatDoorKinGets
import Derived.Test.YtaebljoacffghaaGreatDoorWords
import Derived.Test.YtaebljoacffghaaGreatDoorSlowP

/-
  The contract of layer 8's Get: what bits begin with in a state, from a place on.
-/
namespace Go.Proofs.YtaebljoacffghaaGreatDoor
open Go.RowKit

theorem dgets_is (p : List Bool) : ∃ v n e, DGets p v n e := by
  obtain ⟨k, hk⟩ := ones_is p
  by_cases h1 : headN k + roomN k ≤ p.length
  · by_cases h2 : onesN (bodyD p k) = k
    · exact ⟨_, _, _, k, hk, .inr (.inr ⟨h1, h2, rfl, rfl, rfl⟩)⟩
    · exact ⟨_, _, _, k, hk, .inr (.inl ⟨h1, h2, rfl, rfl, rfl⟩)⟩
  · exact ⟨_, _, _, k, hk, .inl ⟨by omega, rfl, rfl, rfl⟩⟩
theorem vgets_is (k : Nat) (s : KS) (q : List Bool) : ∃ v y m e, VGets k s q v y m e := by
  unfold VGets
  by_cases hk : k = 1
  · exact ⟨_, _, _, _, by rw [if_pos hk]; exact ⟨rfl, rfl, rfl, rfl⟩⟩
  · obtain ⟨v, n, e, h⟩ := dgets_is q
    exact ⟨_, _, _, _, by rw [if_neg hk]; exact ⟨v, h, rfl, rfl⟩⟩
/-- a place further on -/
theorem rest_more {bs : List Nat} {a : Int} {n : Nat} (h1 : 1 ≤ n) (hn : n ≤ (restL bs a).length) : 0 ≤ a ∧ a + (n : Int) ≤ 8 * (bs.length : Int) ∧ restL bs (a + (n : Int)) = (restL bs a).drop n := by
  by_cases g : 0 ≤ a ∧ a ≤ 8 * (bs.length : Int)
  · obtain ⟨a', rfl⟩ := Int.eq_ofNat_of_zero_le g.1
    have h2 : a' ≤ 8 * bs.length := by omega
    rw [restL_length h2] at hn
    refine ⟨by omega, by omega, ?_⟩
    have e : (a' : Int) + (n : Int) = ((a' + n : Nat) : Int) := by omega
    rw [e, restL_yes h2, restL_yes (by omega), List.drop_drop]
  · rw [restL_no (by omega)] at hn
    simp at hn
    omega

/-- what Get comes to -/
def RetG8 (w : World) (k : Nat) (s : KS) (p : List Bool) (e : Ending) (w' : World) : Prop :=
  ∃ r, KGets k s p r ∧ e = .returned (.tuple #[(.agg #[.int .i64 r.t, .int .u64 (r.v : Int)]), (.agg #[.int .i64 (r.s.n : Int), .int .i64 r.s.t, .int .i64 r.s.d, .int .u64 (r.s.v : Int), .int .u64 (r.s.e : Int), .int .u64 (r.s.x.prev : Int), .int .i64 (r.s.x.lead : Int), .int .i64 (r.s.x.len : Int)]), .int .i64 (r.n : Int), errV r.e]) ∧ Below w.heap.size w w'

/-- the world behind Get's three boxes -/
def gworld (w : World) (s : KS) : World := ((w.alloc (.cells #[.int .i64 (s.n : Int), .int .i64 s.t, .int .i64 s.d, .int .u64 (s.v : Int), .int .u64 (s.e : Int), .int .u64 (s.x.prev : Int), .int .i64 (s.x.lead : Int), .int .i64 (s.x.len : Int)] 151)).alloc (.cells #[.int .i64 0, .int .u64 0] 74)).alloc (.cells #[.int .i64 0, .int .i64 0, .int .i64 0, .int .u64 0, .int .u64 0, .int .u64 0, .int .i64 0, .int .i64 0] 151)
/-- what lies in Get's boxes -/
structure GX (w X : World) (s : KS) (l8 l9 : List Value) : Prop where
  bel : Below w.heap.size w X
  b5 : BoxL X w.heap.size [.int .i64 (s.n : Int), .int .i64 s.t, .int .i64 s.d, .int .u64 (s.v : Int), .int .u64 (s.e : Int), .int .u64 (s.x.prev : Int), .int .i64 (s.x.lead : Int), .int .i64 (s.x.len : Int)]
  b8 : BoxL X (w.heap.size + 1) l8
  b9 : BoxL X (w.heap.size + 1 + 1) l9
theorem gworld_is (w : World) (s : KS) : GX w (gworld w s) s [.int .i64 0, .int .u64 0] [.int .i64 0, .int .i64 0, .int .i64 0, .int .u64 0, .int .u64 0, .int .u64 0, .int .i64 0, .int .i64 0] := by
  have h5 := ((BoxL.new w [.int .i64 (s.n : Int), .int .i64 s.t, .int .i64 s.d, .int .u64 (s.v : Int), .int .u64 (s.e : Int), .int .u64 (s.x.prev : Int), .int .i64 (s.x.lead : Int), .int .i64 (s.x.len : Int)] 151).onA (.cells #[.int .i64 0, .int .u64 0] 74)).onA (.cells #[.int .i64 0, .int .i64 0, .int .i64 0, .int .u64 0, .int .u64 0, .int .u64 0, .int .i64 0, .int .i64 0] 151)
  have h8 := (BoxL.new (w.alloc (.cells #[.int .i64 (s.n : Int), .int .i64 s.t, .int .i64 s.d, .int .u64 (s.v : Int), .int .u64 (s.e : Int), .int .u64 (s.x.prev : Int), .int .i64 (s.x.lead : Int), .int .i64 (s.x.len : Int)] 151)) [.int .i64 0, .int .u64 0] 74).onA (.cells #[.int .i64 0, .int .i64 0, .int .i64 0, .int .u64 0, .int .u64 0, .int .u64 0, .int .i64 0, .int .i64 0] 151)
  have h9 := BoxL.new ((w.alloc (.cells #[.int .i64 (s.n : Int), .int .i64 s.t, .int .i64 s.d, .int .u64 (s.v : Int), .int .u64 (s.e : Int), .int .u64 (s.x.prev : Int), .int .i64 (s.x.lead : Int), .int .i64 (s.x.len : Int)] 151)).alloc (.cells #[.int .i64 0, .int .u64 0] 74)) [.int .i64 0, .int .i64 0, .int .i64 0, .int .u64 0, .int .u64 0, .int .u64 0, .int .i64 0, .int .i64 0] 151
  simp only [World.size_alloc] at h8 h9
  unfold gworld
  exact ⟨by repeat (first | with_reducible exact Below.refl _ _ | assumption | with_reducible refine Below.drew ?_ | with_reducible refine Below.alloc ?_ (by (first | assumption | omega | (simp; done) | (simp; omega))) _), h5, h8, h9⟩
theorem GX.below {w X X' : World} {s : KS} {l8 l9 : List Value} (h : GX w X s l8 l9) (hb : Below X.heap.size X X') : GX w X' s l8 l9 :=
  ⟨h.bel.trans (hb.mono h.bel.size), h.b5.below hb, h.b8.below hb, h.b9.below hb⟩
/-- the zero values laid anew -/
theorem GX.zero {w X : World} {s : KS} {x0 x1 a0 a1 a2 a3 a4 a5 a6 a7 : Value} (h : GX w X s [x0, x1] [a0, a1, a2, a3, a4, a5, a6, a7]) (u0 u1 v0 v1 v2 v3 v4 v5 v6 v7 : Value) :
    GX w ((((((((((X.setCell ⟨w.heap.size + 1, 0, none⟩ (u0)).setCell ⟨w.heap.size + 1, 1, none⟩ (u1)).setCell ⟨w.heap.size + 1 + 1, 0, none⟩ (v0)).setCell ⟨w.heap.size + 1 + 1, 1, none⟩ (v1)).setCell ⟨w.heap.size + 1 + 1, 2, none⟩ (v2)).setCell ⟨w.heap.size + 1 + 1, 3, none⟩ (v3)).setCell ⟨w.heap.size + 1 + 1, 4, none⟩ (v4)).setCell ⟨w.heap.size + 1 + 1, 5, none⟩ (v5)).setCell ⟨w.heap.size + 1 + 1, 6, none⟩ (v6)).setCell ⟨w.heap.size + 1 + 1, 7, none⟩ (v7)) s [u0, u1] [v0, v1, v2, v3, v4, v5, v6, v7] :=
  ⟨below_set8 (below_set2 h.bel (by omega) _ _) (by omega) _ _ _ _ _ _ _ _, (h.b5.oth2 (by omega) _ _).oth8 (by omega) _ _ _ _ _ _ _ _, (h.b8.all2 _ _).oth8 (by omega) _ _ _ _ _ _ _ _, (h.b9.oth2 (by omega) _ _).all8 _ _ _ _ _ _ _ _⟩

set_option maxRecDepth 20000 in
set_option maxHeartbeats 1000000 in
theorem get_kind (z : Int) (s : KS) (A : Option Addr) (m c : Nat) (a : Int) (w : World) (h1 : (z == 1) = false) (h2 : (z == 2) = false) :
    Calls Tryz.prog 90 #[.int .i64 z, (.agg #[.int .i64 (s.n : Int), .int .i64 s.t, .int .i64 s.d, .int .u64 (s.v : Int), .int .u64 (s.e : Int), .int .u64 (s.x.prev : Int), .int .i64 (s.x.lead : Int), .int .i64 (s.x.len : Int)]), .slice A m c, .int .i64 a] w fun e w' => e = .returned (.tuple #[.agg #[.int .i64 0, .int .u64 0], (.agg #[.int .i64 0, .int .i64 0, .int .i64 0, .int .u64 0, .int .u64 0, .int .u64 0, .int .i64 0, .int .i64 0]), .int .i64 0, .iface 59 (.int .i64 6)]) ∧ Below w.heap.size w w' := by
  go_enter Tryz.func90, Tryz.ntmps90
  go_wp2_with fail
  refine (known_no z _ h1 h2).mono ?_
  rintro e w1 ⟨rfl, rfl⟩
  go_wp2
  go_returns
  exact ⟨rfl, by repeat (first | with_reducible exact Below.refl _ _ | assumption | with_reducible refine Below.drew ?_ | with_reducible refine Below.alloc ?_ (by (first | assumption | omega | (simp; done) | (simp; omega))) _)⟩

set_option maxRecDepth 20000 in
set_option maxHeartbeats 2000000 in
theorem get_terr (k : Nat) (s : KS) (A : Option Addr) (m c : Nat) (a : Int) (w : World) (hk : k = 1 ∨ k = 2) (t n : Int) (e : Nat) (he : e ≠ 0)
    (hGT : ∀ X, Below w.heap.size w X → Calls Tryz.prog 108 #[(.agg #[.int .i64 (s.n : Int), .int .i64 s.t, .int .i64 s.d, .int .u64 (s.v : Int), .int .u64 (s.e : Int), .int .u64 (s.x.prev : Int), .int .i64 (s.x.lead : Int), .int .i64 (s.x.len : Int)]), .slice A m c, .int .i64 a] X fun f X' => f = .returned (.tuple #[.int .i64 t, .int .i64 n, errV e]) ∧ Below X.heap.size X X') :
    Calls Tryz.prog 90 #[.int .i64 (k : Int), (.agg #[.int .i64 (s.n : Int), .int .i64 s.t, .int .i64 s.d, .int .u64 (s.v : Int), .int .u64 (s.e : Int), .int .u64 (s.x.prev : Int), .int .i64 (s.x.lead : Int), .int .i64 (s.x.len : Int)]), .slice A m c, .int .i64 a] w fun f w' => f = .returned (.tuple #[.agg #[.int .i64 0, .int .u64 0], (.agg #[.int .i64 0, .int .i64 0, .int .i64 0, .int .u64 0, .int .u64 0, .int .u64 0, .int .i64 0, .int .i64 0]), .int .i64 0, errV e]) ∧ Below w.heap.size w w' := by
  rw [errV_some he] at hGT ⊢
  have hX := gworld_is w s
  clear he
  go_enter Tryz.func90, Tryz.ntmps90
  go_wp2_with fail
  change Calls _ _ _ (gworld w s) _
  generalize gworld w s = W at *
  refine (known_yes k _ hk).mono ?_
  rintro e' w1 ⟨rfl, rfl⟩
  obtain ⟨q0, q1, q2, q3, q4, q5, q6, q7⟩ := hX.b5.get8
  go_wp2_with fail
  refine (hGT _ hX.bel).mono ?_
  rintro e' w1 ⟨rfl, hb1⟩
  replace hX := hX.below hb1
  clear q0 q1 q2 q3 q4 q5 q6 q7 hb1 hGT
  obtain ⟨a0, a1⟩ := hX.b8.get2
  obtain ⟨af0, af1⟩ := hX.b8.free2
  obtain ⟨d0, d1, d2, d3, d4, d5, d6, d7⟩ := hX.b9.get8
  obtain ⟨df0, df1, df2, df3, df4, df5, df6, df7⟩ := hX.b9.free8
  go_wp2
  have hY := hX.zero (.int .i64 0) (.int .u64 0) (.int .i64 0) (.int .i64 0) (.int .i64 0) (.int .u64 0) (.int .u64 0) (.int .u64 0) (.int .i64 0) (.int .i64 0)
  clear a0 a1 af0 af1 d0 d1 d2 d3 d4 d5 d6 d7 df0 df1 df2 df3 df4 df5 df6 df7 hX
  generalize ((((((((((w1.setCell ⟨w.heap.size + 1, 0, none⟩ (.int .i64 0)).setCell ⟨w.heap.size + 1, 1, none⟩ (.int .u64 0)).setCell ⟨w.heap.size + 1 + 1, 0, none⟩ (.int .i64 0)).setCell ⟨w.heap.size + 1 + 1, 1, none⟩ (.int .i64 0)).setCell ⟨w.heap.size + 1 + 1, 2, none⟩ (.int .i64 0)).setCell ⟨w.heap.size + 1 + 1, 3, none⟩ (.int .u64 0)).setCell ⟨w.heap.size + 1 + 1, 4, none⟩ (.int .u64 0)).setCell ⟨w.heap.size + 1 + 1, 5, none⟩ (.int .u64 0)).setCell ⟨w.heap.size + 1 + 1, 6, none⟩ (.int .i64 0)).setCell ⟨w.heap.size + 1 + 1, 7, none⟩ (.int .i64 0)) = X at *
  obtain ⟨a0, a1⟩ := hY.b8.get2
  obtain ⟨d0, d1, d2, d3, d4, d5, d6, d7⟩ := hY.b9.get8
  refine bodyPost_ret (v := .tuple #[.agg #[.int .i64 0, .int .u64 0], (.agg #[.int .i64 0, .int .i64 0, .int .i64 0, .int .u64 0, .int .u64 0, .int .u64 0, .int .i64 0, .int .i64 0]), .int .i64 0, .iface 59 (.int .i64 (e : Int))]) ?_ rfl ⟨rfl, hY.bel⟩
  simp [results, Tryz.results90, go_sem, a0, a1, d0, d1, d2, d3, d4, d5, d6, d7]

set_option maxRecDepth 20000 in
set_option maxHeartbeats 2000000 in
theorem get_verr (k : Nat) (s : KS) (A : Option Addr) (m c : Nat) (a : Int) (w : World) (hk : k = 1 ∨ k = 2) (t : Int) (n : Nat) (v : Int) (y : XS) (j : Int) (e : Nat) (he : e ≠ 0) (hs1 : -9223372036854775808 ≤ a + (n : Int)) (hs2 : a + (n : Int) ≤ 9223372036854775807)
    (hGT : ∀ X, Below w.heap.size w X → Calls Tryz.prog 108 #[(.agg #[.int .i64 (s.n : Int), .int .i64 s.t, .int .i64 s.d, .int .u64 (s.v : Int), .int .u64 (s.e : Int), .int .u64 (s.x.prev : Int), .int .i64 (s.x.lead : Int), .int .i64 (s.x.len : Int)]), .slice A m c, .int .i64 a] X fun f X' => f = .returned (.tuple #[.int .i64 t, .int .i64 (n : Int), .nilIface]) ∧ Below X.heap.size X X')
    (hGV : ∀ X, Below w.heap.size w X → Calls Tryz.prog 109 #[.int .i64 (k : Int), (.agg #[.int .i64 (s.n : Int), .int .i64 s.t, .int .i64 s.d, .int .u64 (s.v : Int), .int .u64 (s.e : Int), .int .u64 (s.x.prev : Int), .int .i64 (s.x.lead : Int), .int .i64 (s.x.len : Int)]), .slice A m c, .int .i64 (a + (n : Int))] X fun f X' => f = .returned (.tuple #[.int .u64 v, (.agg #[.int .u64 (y.prev : Int), .int .i64 (y.lead : Int), .int .i64 (y.len : Int)]), .int .i64 j, errV e]) ∧ Below X.heap.size X X') :
    Calls Tryz.prog 90 #[.int .i64 (k : Int), (.agg #[.int .i64 (s.n : Int), .int .i64 s.t, .int .i64 s.d, .int .u64 (s.v : Int), .int .u64 (s.e : Int), .int .u64 (s.x.prev : Int), .int .i64 (s.x.lead : Int), .int .i64 (s.x.len : Int)]), .slice A m c, .int .i64 a] w fun f w' => f = .returned (.tuple #[.agg #[.int .i64 0, .int .u64 0], (.agg #[.int .i64 0, .int .i64 0, .int .i64 0, .int .u64 0, .int .u64 0, .int .u64 0, .int .i64 0, .int .i64 0]), .int .i64 0, errV e]) ∧ Below w.heap.size w w' := by
  rw [errV_some he] at hGV ⊢
  have hX := gworld_is w s
  clear he
  go_enter Tryz.func90, Tryz.ntmps90
  go_wp2_with fail
  change Calls _ _ _ (gworld w s) _
  generalize gworld w s = W at *
  refine (known_yes k _ hk).mono ?_
  rintro e' w1 ⟨rfl, rfl⟩
  obtain ⟨q0, q1, q2, q3, q4, q5, q6, q7⟩ := hX.b5.get8
  go_wp2_with fail
  refine (hGT _ hX.bel).mono ?_
  rintro e' w1 ⟨rfl, hb1⟩
  replace hX := hX.below hb1
  clear q0 q1 q2 q3 q4 q5 q6 q7 hb1 hGT
  obtain ⟨q0, q1, q2, q3, q4, q5, q6, q7⟩ := hX.b5.get8
  go_wp2_with fail
  refine (hGV _ hX.bel).mono ?_
  rintro e' w2 ⟨rfl, hb2⟩
  replace hX := hX.below (hb2.trans ((Below.refl _ _).alloc hb2.size (.cells #[.int .u64 (y.prev : Int), .int .i64 (y.lead : Int), .int .i64 (y.len : Int)] 149)))
  clear q0 q1 q2 q3 q4 q5 q6 q7 hb2 hGV
  go_upto_region 7 with fail
  generalize w2.alloc (.cells #[.int .u64 (y.prev : Int), .int .i64 (y.lead : Int), .int .i64 (y.len : Int)] 149) = W2 at *
  obtain ⟨a0, a1⟩ := hX.b8.get2
  obtain ⟨af0, af1⟩ := hX.b8.free2
  obtain ⟨d0, d1, d2, d3, d4, d5, d6, d7⟩ := hX.b9.get8
  obtain ⟨df0, df1, df2, df3, df4, df5, df6, df7⟩ := hX.b9.free8
  go_wp2
  have hY := hX.zero (.int .i64 0) (.int .u64 0) (.int .i64 0) (.int .i64 0) (.int .i64 0) (.int .u64 0) (.int .u64 0) (.int .u64 0) (.int .i64 0) (.int .i64 0)
  clear a0 a1 af0 af1 d0 d1 d2 d3 d4 d5 d6 d7 df0 df1 df2 df3 df4 df5 df6 df7 hX
  generalize ((((((((((W2.setCell ⟨w.heap.size + 1, 0, none⟩ (.int .i64 0)).setCell ⟨w.heap.size + 1, 1, none⟩ (.int .u64 0)).setCell ⟨w.heap.size + 1 + 1, 0, none⟩ (.int .i64 0)).setCell ⟨w.heap.size + 1 + 1, 1, none⟩ (.int .i64 0)).setCell ⟨w.heap.size + 1 + 1, 2, none⟩ (.int .i64 0)).setCell ⟨w.heap.size + 1 + 1, 3, none⟩ (.int .u64 0)).setCell ⟨w.heap.size + 1 + 1, 4, none⟩ (.int .u64 0)).setCell ⟨w.heap.size + 1 + 1, 5, none⟩ (.int .u64 0)).setCell ⟨w.heap.size + 1 + 1, 6, none⟩ (.int .i64 0)).setCell ⟨w.heap.size + 1 + 1, 7, none⟩ (.int .i64 0)) = X at *
  obtain ⟨a0, a1⟩ := hY.b8.get2
  obtain ⟨d0, d1, d2, d3, d4, d5, d6, d7⟩ := hY.b9.get8
  refine bodyPost_ret (v := .tuple #[.agg #[.int .i64 0, .int .u64 0], (.agg #[.int .i64 0, .int .i64 0, .int .i64 0, .int .u64 0, .int .u64 0, .int .u64 0, .int .i64 0, .int .i64 0]), .int .i64 0, .iface 59 (.int .i64 (e : Int))]) ?_ rfl ⟨rfl, hY.bel⟩
  simp [results, Tryz.results90, go_sem, a0, a1, d0, d1, d2, d3, d4, d5, d6, d7]

/-- the boxes behind Get's two parts, ahead of its last region, and behind each of its steps -/
structure GY (w X : World) (s : KS) (g16 g18 : Nat) (l8 l9 l16 l18 : List Value) : Prop where
  gx : GX w X s l8 l9
  b16 : BoxL X g16 l16
  b18 : BoxL X g18 l18
  h16 : w.heap.size + 1 + 1 < g16
  h18 : w.heap.size + 1 + 1 < g18
section
variable {w X X' : World} {s : KS} {g16 g18 : Nat} {l8 l9 l16 l18 : List Value}
theorem GY.below (h : GY w X s g16 g18 l8 l9 l16 l18) (hb : Below X.heap.size X X') : GY w X' s g16 g18 l8 l9 l16 l18 := ⟨h.gx.below hb, h.b16.below hb, h.b18.below hb, h.h16, h.h18⟩
theorem GY.drew (h : GY w X s g16 g18 l8 l9 l16 l18) : GY w X.drew s g16 g18 l8 l9 l16 l18 := ⟨⟨h.gx.bel.drew, h.gx.b5.drew, h.gx.b8.drew, h.gx.b9.drew⟩, h.b16.drew, h.b18.drew, h.h16, h.h18⟩
theorem GY.set8 {x0 x1 : Value} (h : GY w X s g16 g18 [x0, x1] l9 l16 l18) (u0 u1 : Value) : GY w ((X.setCell ⟨w.heap.size + 1, 0, none⟩ (u0)).setCell ⟨w.heap.size + 1, 1, none⟩ (u1)) s g16 g18 [u0, u1] l9 l16 l18 :=
  have := h.h16
  have := h.h18
  ⟨⟨below_set2 h.gx.bel (by omega) _ _, h.gx.b5.oth2 (by omega) _ _, h.gx.b8.all2 _ _, h.gx.b9.oth2 (by omega) _ _⟩, h.b16.oth2 (by omega) _ _, h.b18.oth2 (by omega) _ _, h.h16, h.h18⟩
theorem GY.set9 {a0 a1 a2 a3 a4 a5 a6 a7 : Value} (h : GY w X s g16 g18 l8 [a0, a1, a2, a3, a4, a5, a6, a7] l16 l18) (v0 v1 v2 v3 v4 v5 v6 v7 : Value) : GY w ((((((((X.setCell ⟨w.heap.size + 1 + 1, 0, none⟩ (v0)).setCell ⟨w.heap.size + 1 + 1, 1, none⟩ (v1)).setCell ⟨w.heap.size + 1 + 1, 2, none⟩ (v2)).setCell ⟨w.heap.size + 1 + 1, 3, none⟩ (v3)).setCell ⟨w.heap.size + 1 + 1, 4, none⟩ (v4)).setCell ⟨w.heap.size + 1 + 1, 5, none⟩ (v5)).setCell ⟨w.heap.size + 1 + 1, 6, none⟩ (v6)).setCell ⟨w.heap.size + 1 + 1, 7, none⟩ (v7)) s g16 g18 l8 [v0, v1, v2, v3, v4, v5, v6, v7] l16 l18 :=
  have := h.h16
  have := h.h18
  ⟨⟨below_set8 h.gx.bel (by omega) _ _ _ _ _ _ _ _, h.gx.b5.oth8 (by omega) _ _ _ _ _ _ _ _, h.gx.b8.oth8 (by omega) _ _ _ _ _ _ _ _, h.gx.b9.all8 _ _ _ _ _ _ _ _⟩, h.b16.oth8 (by omega) _ _ _ _ _ _ _ _, h.b18.oth8 (by omega) _ _ _ _ _ _ _ _, h.h16, h.h18⟩
theorem GY.cells {a b c d e : Value} (h : GY w X s g16 g18 l8 l9 [c, d, e] [a, b]) : (X.cell? ⟨w.heap.size, 0, none⟩ = some (.int .i64 (s.n : Int)) ∧ X.cell? ⟨w.heap.size, 1, none⟩ = some (.int .i64 s.t) ∧ X.cell? ⟨w.heap.size, 2, none⟩ = some (.int .i64 s.d) ∧ X.cell? ⟨w.heap.size, 3, none⟩ = some (.int .u64 (s.v : Int)) ∧ X.cell? ⟨w.heap.size, 4, none⟩ = some (.int .u64 (s.e : Int)) ∧ X.cell? ⟨w.heap.size, 5, none⟩ = some (.int .u64 (s.x.prev : Int)) ∧ X.cell? ⟨w.heap.size, 6, none⟩ = some (.int .i64 (s.x.lead : Int)) ∧ X.cell? ⟨w.heap.size, 7, none⟩ = some (.int .i64 (s.x.len : Int))) ∧ (X.cell? ⟨g16, 0, none⟩ = some (c) ∧ X.cell? ⟨g16, 1, none⟩ = some (d) ∧ X.cell? ⟨g16, 2, none⟩ = some (e)) ∧ (X.cell? ⟨g18, 0, none⟩ = some (a) ∧ X.cell? ⟨g18, 1, none⟩ = some (b)) := ⟨h.gx.b5.get8, h.b16.get3, h.b18.get2⟩
end

set_option maxRecDepth 20000 in
set_option maxHeartbeats 4000000 in
theorem get_last (k : Nat) (s : KS) (A : Option Addr) (m c : Nat) (a : Int) (w : World) (hk : k = 1 ∨ k = 2) (hn : s.n ≤ 1000000) (t : Int) (n v : Nat) (y : XS) (j : Nat) (hs1 : -9223372036854775808 ≤ a + (n : Int)) (hs2 : a + (n : Int) ≤ 9223372036854775807) (hnj : n ≤ 1000 ∧ j ≤ 1000)
    (hGT : ∀ X, Below w.heap.size w X → Calls Tryz.prog 108 #[(.agg #[.int .i64 (s.n : Int), .int .i64 s.t, .int .i64 s.d, .int .u64 (s.v : Int), .int .u64 (s.e : Int), .int .u64 (s.x.prev : Int), .int .i64 (s.x.lead : Int), .int .i64 (s.x.len : Int)]), .slice A m c, .int .i64 a] X fun f X' => f = .returned (.tuple #[.int .i64 t, .int .i64 (n : Int), .nilIface]) ∧ Below X.heap.size X X')
    (hGV : ∀ X, Below w.heap.size w X → Calls Tryz.prog 109 #[.int .i64 (k : Int), (.agg #[.int .i64 (s.n : Int), .int .i64 s.t, .int .i64 s.d, .int .u64 (s.v : Int), .int .u64 (s.e : Int), .int .u64 (s.x.prev : Int), .int .i64 (s.x.lead : Int), .int .i64 (s.x.len : Int)]), .slice A m c, .int .i64 (a + (n : Int))] X fun f X' => f = .returned (.tuple #[.int .u64 (v : Int), (.agg #[.int .u64 (y.prev : Int), .int .i64 (y.lead : Int), .int .i64 (y.len : Int)]), .int .i64 (j : Int), .nilIface]) ∧ Below X.heap.size X X') :
    Calls Tryz.prog 90 #[.int .i64 (k : Int), (.agg #[.int .i64 (s.n : Int), .int .i64 s.t, .int .i64 s.d, .int .u64 (s.v : Int), .int .u64 (s.e : Int), .int .u64 (s.x.prev : Int), .int .i64 (s.x.lead : Int), .int .i64 (s.x.len : Int)]), .slice A m c, .int .i64 a] w fun f w' =>
      ((risesK s t = false ∧ f = .returned (.tuple #[.agg #[.int .i64 0, .int .u64 0], (.agg #[.int .i64 0, .int .i64 0, .int .i64 0, .int .u64 0, .int .u64 0, .int .u64 0, .int .i64 0, .int .i64 0]), .int .i64 0, .iface 59 (.int .i64 4)])) ∨
      (risesK s t = true ∧ f = .returned (.tuple #[(.agg #[.int .i64 t, .int .u64 (v : Int)]), (.agg #[.int .i64 ((afterK k s t v y).n : Int), .int .i64 (afterK k s t v y).t, .int .i64 (afterK k s t v y).d, .int .u64 ((afterK k s t v y).v : Int), .int .u64 ((afterK k s t v y).e : Int), .int .u64 ((afterK k s t v y).x.prev : Int), .int .i64 ((afterK k s t v y).x.lead : Int), .int .i64 ((afterK k s t v y).x.len : Int)]), .int .i64 ((n : Int) + (j : Int)), .nilIface]))) ∧ Below w.heap.size w w' := by
  have hX := gworld_is w s
  have hRS := fun w => rises_any s t v w
  have hAF := fun w => after_any k s t v y w hk hn
  generalize afterK k s t v y = s' at *
  obtain ⟨rb, hrb⟩ : ∃ rb, risesK s t = rb := ⟨_, rfl⟩
  rw [hrb] at hRS ⊢
  clear hrb
  go_enter Tryz.func90, Tryz.ntmps90
  go_wp2_with fail
  change Calls _ _ _ (gworld w s) _
  generalize gworld w s = W at *
  refine (known_yes k _ hk).mono ?_
  rintro e' w1 ⟨rfl, rfl⟩
  obtain ⟨q0, q1, q2, q3, q4, q5, q6, q7⟩ := hX.b5.get8
  go_wp2_with fail
  refine (hGT _ hX.bel).mono ?_
  rintro e' w1 ⟨rfl, hb1⟩
  replace hX := hX.below hb1
  clear q0 q1 q2 q3 q4 q5 q6 q7 hb1 hGT
  obtain ⟨q0, q1, q2, q3, q4, q5, q6, q7⟩ := hX.b5.get8
  go_wp2_with fail
  refine (hGV _ hX.bel).mono ?_
  rintro e' w2 ⟨rfl, hb2⟩
  have b16 := BoxL.new w2 [.int .u64 (y.prev : Int), .int .i64 (y.lead : Int), .int .i64 (y.len : Int)] 149
  have h16 := (hX.below hb2).b9.lt
  replace hX := hX.below (hb2.trans ((Below.refl _ _).alloc hb2.size (.cells #[.int .u64 (y.prev : Int), .int .i64 (y.lead : Int), .int .i64 (y.len : Int)] 149)))
  clear q0 q1 q2 q3 q4 q5 q6 q7 hb2 hGV
  go_upto_region 7 with fail
  generalize w2.alloc (.cells #[.int .u64 (y.prev : Int), .int .i64 (y.lead : Int), .int .i64 (y.len : Int)] 149) = W2 at *
  generalize w2.heap.size = g16 at *
  go_upto_region 10 with fail
  have b18 := BoxL.new W2 [.int .i64 t, .int .u64 (v : Int)] 74
  have gy := GY.mk (hX.below ((Below.refl _ _).alloc (Nat.le_refl _) (.cells #[.int .i64 t, .int .u64 (v : Int)] 74))) (b16.onA (.cells #[.int .i64 t, .int .u64 (v : Int)] 74)) b18 h16 hX.b9.lt
  clear hX b16 b18 h16
  generalize W2.alloc (.cells #[.int .i64 t, .int .u64 (v : Int)] 74) = W3 at *
  generalize W2.heap.size = g18 at *
  obtain ⟨q0, q1, q2, q3, q4, q5, q6, q7⟩ := gy.gx.b5.get8
  obtain ⟨z0, z1⟩ := gy.b18.get2
  go_wp2_with fail
  refine (hRS _).mono ?_
  rintro e' w3 ⟨rfl, hb3⟩
  replace gy := gy.below hb3
  clear q0 q1 q2 q3 q4 q5 q6 q7 z0 z1 hb3 hRS
  cases rb
  · obtain ⟨a0, a1⟩ := gy.gx.b8.get2
    obtain ⟨af0, af1⟩ := gy.gx.b8.free2
    obtain ⟨d0, d1, d2, d3, d4, d5, d6, d7⟩ := gy.gx.b9.get8
    obtain ⟨df0, df1, df2, df3, df4, df5, df6, df7⟩ := gy.gx.b9.free8
    go_wp2
    have hY := gy.gx.zero (.int .i64 0) (.int .u64 0) (.int .i64 0) (.int .i64 0) (.int .i64 0) (.int .u64 0) (.int .u64 0) (.int .u64 0) (.int .i64 0) (.int .i64 0)
    clear a0 a1 af0 af1 d0 d1 d2 d3 d4 d5 d6 d7 df0 df1 df2 df3 df4 df5 df6 df7 gy
    generalize ((((((((((w3.setCell ⟨w.heap.size + 1, 0, none⟩ (.int .i64 0)).setCell ⟨w.heap.size + 1, 1, none⟩ (.int .u64 0)).setCell ⟨w.heap.size + 1 + 1, 0, none⟩ (.int .i64 0)).setCell ⟨w.heap.size + 1 + 1, 1, none⟩ (.int .i64 0)).setCell ⟨w.heap.size + 1 + 1, 2, none⟩ (.int .i64 0)).setCell ⟨w.heap.size + 1 + 1, 3, none⟩ (.int .u64 0)).setCell ⟨w.heap.size + 1 + 1, 4, none⟩ (.int .u64 0)).setCell ⟨w.heap.size + 1 + 1, 5, none⟩ (.int .u64 0)).setCell ⟨w.heap.size + 1 + 1, 6, none⟩ (.int .i64 0)).setCell ⟨w.heap.size + 1 + 1, 7, none⟩ (.int .i64 0)) = X at *
    obtain ⟨a0, a1⟩ := hY.b8.get2
    obtain ⟨d0, d1, d2, d3, d4, d5, d6, d7⟩ := hY.b9.get8
    refine bodyPost_ret (v := .tuple #[.agg #[.int .i64 0, .int .u64 0], (.agg #[.int .i64 0, .int .i64 0, .int .i64 0, .int .u64 0, .int .u64 0, .int .u64 0, .int .i64 0, .int .i64 0]), .int .i64 0, .iface 59 (.int .i64 4)]) ?_ rfl ⟨rfl, hY.bel⟩
    simp [results, Tryz.results90, go_sem, a0, a1, d0, d1, d2, d3, d4, d5, d6, d7]
  · go_upto_region 12 with fail
    replace gy := gy.drew
    go_cut [10, 11] (fun x10 x11 wx => x10 = .int .i64 ((n : Int) + (j : Int)) ∧ x11 = .nilIface ∧ GX w wx s [.int .i64 t, .int .u64 (v : Int)] [.int .i64 (s'.n : Int), .int .i64 s'.t, .int .i64 s'.d, .int .u64 (s'.v : Int), .int .u64 (s'.e : Int), .int .u64 (s'.x.prev : Int), .int .i64 (s'.x.lead : Int), .int .i64 (s'.x.len : Int)])
    case first =>
      have px := gy
      clear gy
      have q0 := px.cells
      obtain ⟨u60, u61⟩ := px.gx.b8.get2
      obtain ⟨v60, v61⟩ := px.gx.b8.free2
      obtain ⟨u70, u71, u72, u73, u74, u75, u76, u77⟩ := px.gx.b9.get8
      obtain ⟨v70, v71, v72, v73, v74, v75, v76, v77⟩ := px.gx.b9.free8
      have hj : IntKind.i64.wrap ((n : Int) + (j : Int)) = (n : Int) + (j : Int) := by rw [IntKind.wrap_i64]; omega
      go_region_held3 (fun w' => (w'.cell? ⟨w.heap.size, 0, none⟩ = some (.int .i64 (s.n : Int)) ∧ w'.cell? ⟨w.heap.size, 1, none⟩ = some (.int .i64 s.t) ∧ w'.cell? ⟨w.heap.size, 2, none⟩ = some (.int .i64 s.d) ∧ w'.cell? ⟨w.heap.size, 3, none⟩ = some (.int .u64 (s.v : Int)) ∧ w'.cell? ⟨w.heap.size, 4, none⟩ = some (.int .u64 (s.e : Int)) ∧ w'.cell? ⟨w.heap.size, 5, none⟩ = some (.int .u64 (s.x.prev : Int)) ∧ w'.cell? ⟨w.heap.size, 6, none⟩ = some (.int .i64 (s.x.lead : Int)) ∧ w'.cell? ⟨w.heap.size, 7, none⟩ = some (.int .i64 (s.x.len : Int))) ∧ (w'.cell? ⟨g16, 0, none⟩ = some (.int .u64 (y.prev : Int)) ∧ w'.cell? ⟨g16, 1, none⟩ = some (.int .i64 (y.lead : Int)) ∧ w'.cell? ⟨g16, 2, none⟩ = some (.int .i64 (y.len : Int))) ∧ (w'.cell? ⟨g18, 0, none⟩ = some (.int .i64 t) ∧ w'.cell? ⟨g18, 1, none⟩ = some (.int .u64 (v : Int))))
        (with_reducible first | exact px.cells | exact (px.set8 _ _).cells | exact (px.set9 _ _ _ _ _ _ _ _).cells | exact ((px.set8 _ _).set9 _ _ _ _ _ _ _ _).cells | exact ((px.set9 _ _ _ _ _ _ _ _).set8 _ _).cells) (first
        | (go_at_call 103; (with_reducible refine (hAF _).mono ?_); rintro e w7 ⟨rfl, HB⟩; (with_reducible first | replace px := px.below HB | replace px := (px.set8 _ _).below HB); clear HB u60 u61 v60 v61 u70 u71 u72 u73 u74 u75 u76 u77 v70 v71 v72 v73 v74 v75 v76 v77; obtain ⟨u60, u61⟩ := px.gx.b8.get2; obtain ⟨v60, v61⟩ := px.gx.b8.free2; obtain ⟨u70, u71, u72, u73, u74, u75, u76, u77⟩ := px.gx.b9.get8; obtain ⟨v70, v71, v72, v73, v74, v75, v76, v77⟩ := px.gx.b9.free8))
      all_goals
        clear q0 u60 u61 v60 v61 u70 u71 u72 u73 u74 u75 u76 u77 v70 v71 v72 v73 v74 v75 v76 v77 hAF
        go_wp2_with fail
        go_meet
        with_reducible first
          | exact ⟨rfl, rfl, (px.set9 _ _ _ _ _ _ _ _).gx⟩
          | exact ⟨rfl, rfl, ((px.set8 _ _).set9 _ _ _ _ _ _ _ _).gx⟩
          | exact ⟨rfl, rfl, ((px.set9 _ _ _ _ _ _ _ _).set8 _ _).gx⟩
    case rest =>
      obtain ⟨rfl, rfl, hY⟩ := hcut
      obtain ⟨a0, a1⟩ := hY.b8.get2
      obtain ⟨d0, d1, d2, d3, d4, d5, d6, d7⟩ := hY.b9.get8
      go_wp2
      refine bodyPost_ret (v := .tuple #[(.agg #[.int .i64 t, .int .u64 (v : Int)]), (.agg #[.int .i64 (s'.n : Int), .int .i64 s'.t, .int .i64 s'.d, .int .u64 (s'.v : Int), .int .u64 (s'.e : Int), .int .u64 (s'.x.prev : Int), .int .i64 (s'.x.lead : Int), .int .i64 (s'.x.len : Int)]), .int .i64 ((n : Int) + (j : Int)), .nilIface]) ?_ rfl ⟨rfl, hY.bel⟩
      simp [results, Tryz.results90, go_sem, a0, a1, d0, d1, d2, d3, d4, d5, d6, d7]

theorem get_any (k : Nat) (A : Option Addr) (m c B : Nat) (bs : List Nat) (a : Int) (s : KS) (w : World) (hk : k = 1 ∨ k = 2) (h : Rd w B A m c bs) (hB : B ≤ w.heap.size) (hb : ∀ x ∈ bs, x < 256) (hm : m ≤ 140737488355328)
    (ha : -9223372036854775808 ≤ a ∧ a ≤ 9223372036854775807) (hs : s.May) (hn : s.n ≤ 1000000) (hR : RoomW w) (hT : TzW w) :
    Calls Tryz.prog 90 #[.int .i64 (k : Int), (.agg #[.int .i64 (s.n : Int), .int .i64 s.t, .int .i64 s.d, .int .u64 (s.v : Int), .int .u64 (s.e : Int), .int .u64 (s.x.prev : Int), .int .i64 (s.x.lead : Int), .int .i64 (s.x.len : Int)]), .slice A m c, .int .i64 a] w (RetG8 w k s (restL bs a)) := by
  have hl := h.len
  have hk' : ∀ X, Below w.heap.size w X → Rd X B A m c bs ∧ B ≤ X.heap.size := fun X hX => ⟨h.keep fun _ hp => hX.cell (Nat.lt_of_lt_of_le hp hB), Nat.le_trans hB hX.size⟩
  by_cases h0 : s.n = 0
  · have hz : risesK s (sgnN (num (cut (restL bs a) 0 64)) 64) = true := by unfold risesK; simp [h0]
    have hF : firstK k s (restL bs a) = firstK k s (restL bs a) := rfl
    by_cases h1 : 64 ≤ (restL bs a).length
    · have hGT : ∀ X, Below w.heap.size w X → Calls Tryz.prog 108 #[(.agg #[.int .i64 (s.n : Int), .int .i64 s.t, .int .i64 s.d, .int .u64 (s.v : Int), .int .u64 (s.e : Int), .int .u64 (s.x.prev : Int), .int .i64 (s.x.lead : Int), .int .i64 (s.x.len : Int)]), .slice A m c, .int .i64 a] X fun f X' => f = .returned (.tuple #[.int .i64 (sgnN (num (cut (restL bs a) 0 64)) 64), .int .i64 ((64 : Nat) : Int), .nilIface]) ∧ Below X.heap.size X X' := fun X hX =>
        (gettime_first A m c B bs a s X (hk' X hX).1 (hk' X hX).2 hb hm ha h0).mono fun f X' ⟨h2, h3⟩ => ⟨by
          rcases h2 with ⟨_, h2⟩ | ⟨h2, _⟩
          · exact h2
          · omega, h3⟩
      obtain ⟨g1, g2, g3⟩ := rest_more (bs := bs) (a := a) (n := 64) (by omega) h1
      by_cases h2 : 128 ≤ (restL bs a).length
      · have hGV : ∀ X, Below w.heap.size w X → Calls Tryz.prog 109 #[.int .i64 (k : Int), (.agg #[.int .i64 (s.n : Int), .int .i64 s.t, .int .i64 s.d, .int .u64 (s.v : Int), .int .u64 (s.e : Int), .int .u64 (s.x.prev : Int), .int .i64 (s.x.lead : Int), .int .i64 (s.x.len : Int)]), .slice A m c, .int .i64 (a + ((64 : Nat) : Int))] X fun f X' => f = .returned (.tuple #[.int .u64 ((num (cut (restL bs a) 64 64) : Nat) : Int), (.agg #[.int .u64 (zeroX.prev : Int), .int .i64 (zeroX.lead : Int), .int .i64 (zeroX.len : Int)]), .int .i64 ((64 : Nat) : Int), .nilIface]) ∧ Below X.heap.size X X' := fun X hX =>
          (getvalue_first k A m c B bs _ s X (hk' X hX).1 (hk' X hX).2 hb hm (by omega) h0).mono fun f X' ⟨h3, h4⟩ => ⟨by
            rw [g3, List.length_drop, cut_drop] at h3
            rcases h3 with ⟨_, h3⟩ | ⟨h3, _⟩
            · exact h3
            · omega, h4⟩
        refine (get_last k s A m c a w hk hn _ 64 _ zeroX 64 (by omega) (by omega) (by omega) hGT hGV).mono fun f w' ⟨h3, h4⟩ => ?_
        rcases h3 with ⟨h3, _⟩ | ⟨_, h3⟩
        · rw [hz] at h3; cases h3
        · refine ⟨firstK k s (restL bs a), .inl ⟨h0, rfl⟩, ?_, h4⟩
          unfold firstK
          rw [if_neg (by omega)]
          exact h3
      · have hGV : ∀ X, Below w.heap.size w X → Calls Tryz.prog 109 #[.int .i64 (k : Int), (.agg #[.int .i64 (s.n : Int), .int .i64 s.t, .int .i64 s.d, .int .u64 (s.v : Int), .int .u64 (s.e : Int), .int .u64 (s.x.prev : Int), .int .i64 (s.x.lead : Int), .int .i64 (s.x.len : Int)]), .slice A m c, .int .i64 (a + ((64 : Nat) : Int))] X fun f X' => f = .returned (.tuple #[.int .u64 0, (.agg #[.int .u64 (zeroX.prev : Int), .int .i64 (zeroX.lead : Int), .int .i64 (zeroX.len : Int)]), .int .i64 0, errV 2]) ∧ Below X.heap.size X X' := fun X hX =>
          (getvalue_first k A m c B bs _ s X (hk' X hX).1 (hk' X hX).2 hb hm (by omega) h0).mono fun f X' ⟨h3, h4⟩ => ⟨by
            rw [g3, List.length_drop, cut_drop] at h3
            rcases h3 with ⟨h3, _⟩ | ⟨_, h3⟩
            · omega
            · exact h3, h4⟩
        refine (get_verr k s A m c a w hk _ 64 _ zeroX _ 2 (by omega) (by omega) (by omega) hGT hGV).mono fun f w' ⟨h3, h4⟩ => ?_
        refine ⟨firstK k s (restL bs a), .inl ⟨h0, rfl⟩, ?_, h4⟩
        unfold firstK
        rw [if_pos (by omega)]
        exact h3
    · have hGT : ∀ X, Below w.heap.size w X → Calls Tryz.prog 108 #[(.agg #[.int .i64 (s.n : Int), .int .i64 s.t, .int .i64 s.d, .int .u64 (s.v : Int), .int .u64 (s.e : Int), .int .u64 (s.x.prev : Int), .int .i64 (s.x.lead : Int), .int .i64 (s.x.len : Int)]), .slice A m c, .int .i64 a] X fun f X' => f = .returned (.tuple #[.int .i64 0, .int .i64 0, errV 2]) ∧ Below X.heap.size X X' := fun X hX =>
        (gettime_first A m c B bs a s X (hk' X hX).1 (hk' X hX).2 hb hm ha h0).mono fun f X' ⟨h2, h3⟩ => ⟨by
          rcases h2 with ⟨h2, _⟩ | ⟨_, h2⟩
          · omega
          · exact h2, h3⟩
      refine (get_terr k s A m c a w hk _ _ 2 (by omega) hGT).mono fun f w' ⟨h3, h4⟩ => ?_
      refine ⟨firstK k s (restL bs a), .inl ⟨h0, rfl⟩, ?_, h4⟩
      unfold firstK
      rw [if_pos (by omega)]
      exact h3
  · obtain ⟨st, n, e, hd⟩ := dgets_is (restL bs a)
    obtain ⟨v, y, j, e2, hv⟩ := vgets_is k s ((restL bs a).drop n)
    have hK : KGets k s (restL bs a) (laterK k s st n e v y j e2) := .inr ⟨h0, st, n, e, v, y, j, e2, hd, hv, rfl⟩
    have hGT : ∀ X, Below w.heap.size w X → Calls Tryz.prog 108 #[(.agg #[.int .i64 (s.n : Int), .int .i64 s.t, .int .i64 s.d, .int .u64 (s.v : Int), .int .u64 (s.e : Int), .int .u64 (s.x.prev : Int), .int .i64 (s.x.lead : Int), .int .i64 (s.x.len : Int)]), .slice A m c, .int .i64 a] X fun f X' => f = .returned (.tuple #[.int .i64 (w64 (s.t + s.d + st)), .int .i64 (n : Int), errV e]) ∧ Below X.heap.size X X' := fun X hX =>
      (gettime_later A m c B bs a s X (hk' X hX).1 (hk' X hX).2 hb hm ha h0 (hR.bel hX)).mono fun f X' ⟨st', n', k', h1, h2, h3⟩ => by
        obtain ⟨rfl, rfl, rfl⟩ := hd.same h1
        exact ⟨h2, h3⟩
    by_cases he : e = 0
    · subst he
      have p1 := dgets_back hd
      have c1 := (codeD_pos st).1
      rw [p1.1, List.length_take] at c1
      obtain ⟨g1, g2, g3⟩ := rest_more (bs := bs) (a := a) (n := n) (by omega) p1.2
      have hGV : ∀ X, Below w.heap.size w X → Calls Tryz.prog 109 #[.int .i64 (k : Int), (.agg #[.int .i64 (s.n : Int), .int .i64 s.t, .int .i64 s.d, .int .u64 (s.v : Int), .int .u64 (s.e : Int), .int .u64 (s.x.prev : Int), .int .i64 (s.x.lead : Int), .int .i64 (s.x.len : Int)]), .slice A m c, .int .i64 (a + (n : Int))] X fun f X' => f = .returned (.tuple #[.int .u64 (v : Int), (.agg #[.int .u64 (y.prev : Int), .int .i64 (y.lead : Int), .int .i64 (y.len : Int)]), .int .i64 (j : Int), errV e2]) ∧ Below X.heap.size X X' := fun X hX =>
        (getvalue_later k A m c B bs _ s X hk (hk' X hX).1 (hk' X hX).2 hb hm (by omega) h0 hs (hR.bel hX) (hT.bel hX)).mono fun f X' ⟨v', y', m', e', h1, h2, h3⟩ => by
          rw [g3] at h1
          obtain ⟨rfl, rfl, rfl, rfl⟩ := hv.same h1
          exact ⟨h2, h3⟩
      by_cases he2 : e2 = 0
      · subst he2
        have i1 := gets_in hd
        have i2 := vgets_in hs hv
        refine (get_last k s A m c a w hk hn _ n v y j (by omega) (by omega) (by omega) hGT hGV).mono fun f w' ⟨h3, h4⟩ => ⟨_, hK, ?_, h4⟩
        unfold laterK
        rw [if_neg (by omega), if_neg (by omega)]
        rcases h3 with ⟨h3, h5⟩ | ⟨h3, h5⟩
        · rw [if_pos (by unfold risesK at h3; simp [h0] at h3; exact h3)]
          exact h5
        · rw [if_neg (by unfold risesK at h3; simp [h0] at h3; omega)]
          rw [h5]
          simp only [errV_zero]
          exact congrArg (fun z => Ending.returned (.tuple #[_, _, .int .i64 z, _])) (by omega)
      · refine (get_verr k s A m c a w hk _ n _ y _ e2 he2 (by omega) (by omega) hGT hGV).mono fun f w' ⟨h3, h4⟩ => ⟨_, hK, ?_, h4⟩
        unfold laterK
        rw [if_neg (by omega), if_pos he2]
        exact h3
    · refine (get_terr k s A m c a w hk _ _ e he hGT).mono fun f w' ⟨h3, h4⟩ => ⟨_, hK, ?_, h4⟩
      unfold laterK
      rw [if_pos he]
      exact h3

end Go.Proofs.YtaebljoacffghaaGreatDoor

/-
  Layer 8's Get for any kind: one answer, told in one form.
-/
namespace Go.Proofs.YtaebljoacffghaaGreatDoor
open Go.RowKit

/-- what Get comes to -/
def RetGA (w : World) (z : Int) (s : KS) (p : List Bool) (e : Ending) (w' : World) : Prop :=
  ∃ r, KG z s p r ∧ e = .returned (.tuple #[(.agg #[.int .i64 r.t, .int .u64 (r.v : Int)]), (.agg #[.int .i64 (r.s.n : Int), .int .i64 r.s.t, .int .i64 r.s.d, .int .u64 (r.s.v : Int), .int .u64 (r.s.e : Int), .int .u64 (r.s.x.prev : Int), .int .i64 (r.s.x.lead : Int), .int .i64 (r.s.x.len : Int)]), .int .i64 (r.n : Int), errV r.e]) ∧ Below w.heap.size w w'
theorem get_all (z : Int) (A : Option Addr) (m c B : Nat) (bs : List Nat) (a : Int) (s : KS) (w : World) (h : Rd w B A m c bs) (hB : B ≤ w.heap.size) (hb : ∀ x ∈ bs, x < 256) (hm : m ≤ 140737488355328)
    (ha : -9223372036854775808 ≤ a ∧ a ≤ 9223372036854775807) (hs : s.May) (hn : s.n ≤ 1000000) (hR : RoomW w) (hT : TzW w) :
    Calls Tryz.prog 90 #[.int .i64 z, (.agg #[.int .i64 (s.n : Int), .int .i64 s.t, .int .i64 s.d, .int .u64 (s.v : Int), .int .u64 (s.e : Int), .int .u64 (s.x.prev : Int), .int .i64 (s.x.lead : Int), .int .i64 (s.x.len : Int)]), .slice A m c, .int .i64 a] w (RetGA w z s (restL bs a)) := by
  by_cases hz : z ≠ 1 ∧ z ≠ 2
  · exact (get_kind z s A m c a w (by simp [hz.1]) (by simp [hz.2])).mono fun e w' ⟨h1, h2⟩ => ⟨_, .inl ⟨hz, rfl⟩, h1, h2⟩
  · obtain ⟨k, rfl, hk⟩ := known_is hz
    exact (get_any k A m c B bs a s w hk h hB hb hm ha hs hn hR hT).mono fun e w' ⟨r, h1, h2, h3⟩ => ⟨r, .inr ⟨k, rfl, hk, h1⟩, h2, h3⟩

end Go.Proofs.YtaebljoacffghaaGreatDoor
