/-
  Texts of this proof, one behind the other: KinPut, KinAllP.
-/
import Derived.Test.YtaebljoacffghaaGreatDoorKins
import Derived.Test.YtaebljoacffghaaGreatDoorPut1
import Derived.Test.YtaebljoacffghaaGreatDoorWords
import Derived.Test.YtaebljoacffghaaGreatDoorSlowP
import Derived.Deep.DeepCutAuto
import Derived.Deep.RegionHeld3

/-
  The contract of layer 8's Put: a sample's bits and the state behind it, or what is amiss.
-/
namespace Go.Proofs.YtaebljoacffghaaGreatDoor
open Go.RowKit

/-- what Put comes to -/
def RetPut (w : World) (p : List Bool) (s : KS) (e : Ending) (w' : World) : Prop :=
  ∃ A c, e = .returned (.tuple #[.agg #[.slice A (pack p).length c, .int .i64 ((p.length : Nat) : Int)], (.agg #[.int .i64 (s.n : Int), .int .i64 s.t, .int .i64 s.d, .int .u64 (s.v : Int), .int .u64 (s.e : Int), .int .u64 (s.x.prev : Int), .int .i64 (s.x.lead : Int), .int .i64 (s.x.len : Int)]), .nilIface]) ∧ Own w w' (.slice A (pack p).length c) (pack p)

/-- the world behind Put's four boxes -/
def pworld (w : World) (s : KS) (t : Int) (v : Nat) : World := (((w.alloc (.cells #[.int .i64 (s.n : Int), .int .i64 s.t, .int .i64 s.d, .int .u64 (s.v : Int), .int .u64 (s.e : Int), .int .u64 (s.x.prev : Int), .int .i64 (s.x.lead : Int), .int .i64 (s.x.len : Int)] 151)).alloc (.cells #[.int .i64 t, .int .u64 (v : Int)] 74)).alloc (.cells #[.slice none 0 0, .int .i64 0] 148)).alloc (.cells #[.int .i64 0, .int .i64 0, .int .i64 0, .int .u64 0, .int .u64 0, .int .u64 0, .int .i64 0, .int .i64 0] 151)
/-- what lies in them -/
structure PW (w W : World) (s : KS) (t : Int) (v : Nat) : Prop where
  bel : Below w.heap.size w W
  b4 : BoxL W w.heap.size [.int .i64 (s.n : Int), .int .i64 s.t, .int .i64 s.d, .int .u64 (s.v : Int), .int .u64 (s.e : Int), .int .u64 (s.x.prev : Int), .int .i64 (s.x.lead : Int), .int .i64 (s.x.len : Int)]
  b5 : BoxL W (w.heap.size + 1) [.int .i64 t, .int .u64 (v : Int)]
  b6 : BoxL W (w.heap.size + 1 + 1) [.slice none 0 0, .int .i64 0]
  b7 : BoxL W (w.heap.size + 1 + 1 + 1) [.int .i64 0, .int .i64 0, .int .i64 0, .int .u64 0, .int .u64 0, .int .u64 0, .int .i64 0, .int .i64 0]
theorem pworld_is (w : World) (s : KS) (t : Int) (v : Nat) : PW w (pworld w s t v) s t v := by
  have h4 := ((BoxL.new w [.int .i64 (s.n : Int), .int .i64 s.t, .int .i64 s.d, .int .u64 (s.v : Int), .int .u64 (s.e : Int), .int .u64 (s.x.prev : Int), .int .i64 (s.x.lead : Int), .int .i64 (s.x.len : Int)] 151).onA (.cells #[.int .i64 t, .int .u64 (v : Int)] 74)).onA (.cells #[.slice none 0 0, .int .i64 0] 148) |>.onA (.cells #[.int .i64 0, .int .i64 0, .int .i64 0, .int .u64 0, .int .u64 0, .int .u64 0, .int .i64 0, .int .i64 0] 151)
  have h5 := ((BoxL.new (w.alloc (.cells #[.int .i64 (s.n : Int), .int .i64 s.t, .int .i64 s.d, .int .u64 (s.v : Int), .int .u64 (s.e : Int), .int .u64 (s.x.prev : Int), .int .i64 (s.x.lead : Int), .int .i64 (s.x.len : Int)] 151)) [.int .i64 t, .int .u64 (v : Int)] 74)).onA (.cells #[.slice none 0 0, .int .i64 0] 148) |>.onA (.cells #[.int .i64 0, .int .i64 0, .int .i64 0, .int .u64 0, .int .u64 0, .int .u64 0, .int .i64 0, .int .i64 0] 151)
  have h6 := (BoxL.new ((w.alloc (.cells #[.int .i64 (s.n : Int), .int .i64 s.t, .int .i64 s.d, .int .u64 (s.v : Int), .int .u64 (s.e : Int), .int .u64 (s.x.prev : Int), .int .i64 (s.x.lead : Int), .int .i64 (s.x.len : Int)] 151)).alloc (.cells #[.int .i64 t, .int .u64 (v : Int)] 74)) [.slice none 0 0, .int .i64 0] 148).onA (.cells #[.int .i64 0, .int .i64 0, .int .i64 0, .int .u64 0, .int .u64 0, .int .u64 0, .int .i64 0, .int .i64 0] 151)
  have h7 := BoxL.new (((w.alloc (.cells #[.int .i64 (s.n : Int), .int .i64 s.t, .int .i64 s.d, .int .u64 (s.v : Int), .int .u64 (s.e : Int), .int .u64 (s.x.prev : Int), .int .i64 (s.x.lead : Int), .int .i64 (s.x.len : Int)] 151)).alloc (.cells #[.int .i64 t, .int .u64 (v : Int)] 74)).alloc (.cells #[.slice none 0 0, .int .i64 0] 148)) [.int .i64 0, .int .i64 0, .int .i64 0, .int .u64 0, .int .u64 0, .int .u64 0, .int .i64 0, .int .i64 0] 151
  simp only [World.size_alloc] at h5 h6 h7
  unfold pworld
  exact ⟨by repeat (first | with_reducible exact Below.refl _ _ | assumption | with_reducible refine Below.drew ?_ | with_reducible refine Below.alloc ?_ (by (first | assumption | omega | (simp; done) | (simp; omega))) _), h4, h5, h6, h7⟩
theorem PW.below {w W W' : World} {s : KS} {t : Int} {v : Nat} (h : PW w W s t v) (hb : Below W.heap.size W W') : PW w W' s t v :=
  ⟨h.bel.trans (hb.mono h.bel.size), h.b4.below hb, h.b5.below hb, h.b6.below hb, h.b7.below hb⟩

/-- the boxes ahead of Put's last region, and behind each of its steps -/
structure PX (w X : World) (s : KS) (t : Int) (v g9 : Nat) (l9 l10 l6 l7 : List Value) : Prop where
  bel : Below w.heap.size w X
  b4 : BoxL X w.heap.size [.int .i64 (s.n : Int), .int .i64 s.t, .int .i64 s.d, .int .u64 (s.v : Int), .int .u64 (s.e : Int), .int .u64 (s.x.prev : Int), .int .i64 (s.x.lead : Int), .int .i64 (s.x.len : Int)]
  b5 : BoxL X (w.heap.size + 1) [.int .i64 t, .int .u64 (v : Int)]
  b6 : BoxL X (w.heap.size + 1 + 1) l6
  b7 : BoxL X (w.heap.size + 1 + 1 + 1) l7
  b9 : BoxL X g9 l9
  b10 : BoxL X (g9 + 1) l10
  hg : w.heap.size + 1 + 1 + 1 < g9
section
variable {w X X' : World} {s : KS} {t : Int} {v g9 : Nat} {l9 l10 l6 l7 : List Value}
theorem PX.below (h : PX w X s t v g9 l9 l10 l6 l7) (hb : Below X.heap.size X X') : PX w X' s t v g9 l9 l10 l6 l7 :=
  ⟨h.bel.trans (hb.mono h.bel.size), h.b4.below hb, h.b5.below hb, h.b6.below hb, h.b7.below hb, h.b9.below hb, h.b10.below hb, h.hg⟩
theorem PX.drew (h : PX w X s t v g9 l9 l10 l6 l7) : PX w X.drew s t v g9 l9 l10 l6 l7 :=
  ⟨h.bel.drew, h.b4.drew, h.b5.drew, h.b6.drew, h.b7.drew, h.b9.drew, h.b10.drew, h.hg⟩
theorem PX.set6 {x0 x1 : Value} (h : PX w X s t v g9 l9 l10 [x0, x1] l7) (u0 u1 : Value) : PX w ((X.setCell ⟨w.heap.size + 1 + 1, 0, none⟩ (u0)).setCell ⟨w.heap.size + 1 + 1, 1, none⟩ (u1)) s t v g9 l9 l10 [u0, u1] l7 :=
  have := h.hg
  ⟨below_set2 h.bel (by omega) _ _, h.b4.oth2 (by omega) _ _, h.b5.oth2 (by omega) _ _, h.b6.all2 _ _, h.b7.oth2 (by omega) _ _, h.b9.oth2 (by omega) _ _, h.b10.oth2 (by omega) _ _, h.hg⟩
theorem PX.set7 {x0 x1 x2 x3 x4 x5 x6 x7 : Value} (h : PX w X s t v g9 l9 l10 l6 [x0, x1, x2, x3, x4, x5, x6, x7]) (u0 u1 u2 u3 u4 u5 u6 u7 : Value) : PX w ((((((((X.setCell ⟨w.heap.size + 1 + 1 + 1, 0, none⟩ (u0)).setCell ⟨w.heap.size + 1 + 1 + 1, 1, none⟩ (u1)).setCell ⟨w.heap.size + 1 + 1 + 1, 2, none⟩ (u2)).setCell ⟨w.heap.size + 1 + 1 + 1, 3, none⟩ (u3)).setCell ⟨w.heap.size + 1 + 1 + 1, 4, none⟩ (u4)).setCell ⟨w.heap.size + 1 + 1 + 1, 5, none⟩ (u5)).setCell ⟨w.heap.size + 1 + 1 + 1, 6, none⟩ (u6)).setCell ⟨w.heap.size + 1 + 1 + 1, 7, none⟩ (u7)) s t v g9 l9 l10 l6 [u0, u1, u2, u3, u4, u5, u6, u7] :=
  have := h.hg
  ⟨below_set8 h.bel (by omega) _ _ _ _ _ _ _ _, h.b4.oth8 (by omega) _ _ _ _ _ _ _ _, h.b5.oth8 (by omega) _ _ _ _ _ _ _ _, h.b6.oth8 (by omega) _ _ _ _ _ _ _ _, h.b7.all8 _ _ _ _ _ _ _ _, h.b9.oth8 (by omega) _ _ _ _ _ _ _ _, h.b10.oth8 (by omega) _ _ _ _ _ _ _ _, h.hg⟩
theorem PX.cells {a b c d e : Value} (h : PX w X s t v g9 [a, b] [c, d, e] l6 l7) :
    (X.cell? ⟨w.heap.size, 0, none⟩ = some (.int .i64 (s.n : Int)) ∧ X.cell? ⟨w.heap.size, 1, none⟩ = some (.int .i64 s.t) ∧ X.cell? ⟨w.heap.size, 2, none⟩ = some (.int .i64 s.d) ∧ X.cell? ⟨w.heap.size, 3, none⟩ = some (.int .u64 (s.v : Int)) ∧ X.cell? ⟨w.heap.size, 4, none⟩ = some (.int .u64 (s.e : Int)) ∧ X.cell? ⟨w.heap.size, 5, none⟩ = some (.int .u64 (s.x.prev : Int)) ∧ X.cell? ⟨w.heap.size, 6, none⟩ = some (.int .i64 (s.x.lead : Int)) ∧ X.cell? ⟨w.heap.size, 7, none⟩ = some (.int .i64 (s.x.len : Int))) ∧ (X.cell? ⟨w.heap.size + 1, 0, none⟩ = some (.int .i64 t) ∧ X.cell? ⟨w.heap.size + 1, 1, none⟩ = some (.int .u64 (v : Int))) ∧ (X.cell? ⟨g9, 0, none⟩ = some (a) ∧ X.cell? ⟨g9, 1, none⟩ = some (b)) ∧ (X.cell? ⟨g9 + 1, 0, none⟩ = some (c) ∧ X.cell? ⟨g9 + 1, 1, none⟩ = some (d) ∧ X.cell? ⟨g9 + 1, 2, none⟩ = some (e)) :=
  ⟨h.b4.get8, h.b5.get2, h.b9.get2, h.b10.get3⟩
end
set_option maxRecDepth 20000 in
set_option maxHeartbeats 1000000 in
theorem put_kind (z : Int) (s : KS) (t : Int) (v : Nat) (w : World) (h1 : (z == 1) = false) (h2 : (z == 2) = false) :
    Calls Tryz.prog 84 #[.int .i64 z, (.agg #[.int .i64 (s.n : Int), .int .i64 s.t, .int .i64 s.d, .int .u64 (s.v : Int), .int .u64 (s.e : Int), .int .u64 (s.x.prev : Int), .int .i64 (s.x.lead : Int), .int .i64 (s.x.len : Int)]), (.agg #[.int .i64 t, .int .u64 (v : Int)])] w fun e w' => e = .returned (.tuple #[.agg #[.slice none 0 0, .int .i64 0], (.agg #[.int .i64 0, .int .i64 0, .int .i64 0, .int .u64 0, .int .u64 0, .int .u64 0, .int .i64 0, .int .i64 0]), .iface 59 (.int .i64 6)]) ∧ Below w.heap.size w w' := by
  go_enter Tryz.func84, Tryz.ntmps84
  go_wp2_with fail
  refine (known_no z _ h1 h2).mono ?_
  rintro e w1 ⟨rfl, rfl⟩
  go_wp2
  go_returns
  exact ⟨rfl, by repeat (first | with_reducible exact Below.refl _ _ | assumption | with_reducible refine Below.drew ?_ | with_reducible refine Below.alloc ?_ (by (first | assumption | omega | (simp; done) | (simp; omega))) _)⟩

set_option maxRecDepth 20000 in
set_option maxHeartbeats 2000000 in
theorem put_order (k : Nat) (s : KS) (t : Int) (v : Nat) (w : World) (hk : k = 1 ∨ k = 2) (hr : risesK s t = false) :
    Calls Tryz.prog 84 #[.int .i64 (k : Int), (.agg #[.int .i64 (s.n : Int), .int .i64 s.t, .int .i64 s.d, .int .u64 (s.v : Int), .int .u64 (s.e : Int), .int .u64 (s.x.prev : Int), .int .i64 (s.x.lead : Int), .int .i64 (s.x.len : Int)]), (.agg #[.int .i64 t, .int .u64 (v : Int)])] w fun e w' => e = .returned (.tuple #[.agg #[.slice none 0 0, .int .i64 0], (.agg #[.int .i64 0, .int .i64 0, .int .i64 0, .int .u64 0, .int .u64 0, .int .u64 0, .int .i64 0, .int .i64 0]), .iface 59 (.int .i64 4)]) ∧ Below w.heap.size w w' := by
  have hP := pworld_is w s t v
  have hRS := fun w => rises_any s t v w
  rw [hr] at hRS
  go_enter Tryz.func84, Tryz.ntmps84
  go_wp2_with fail
  change Calls _ _ _ (pworld w s t v) _
  generalize pworld w s t v = W at *
  refine (known_yes k _ hk).mono ?_
  rintro e w1 ⟨rfl, rfl⟩
  obtain ⟨hb, b4, b5, b6, b7⟩ := hP
  have hP := PW.mk hb b4 b5 b6 b7
  obtain ⟨a0, a1, a2, a3, a4, a5, a6, a7⟩ := b4.get8
  obtain ⟨d0, d1⟩ := b5.get2
  go_wp2_with fail
  refine (hRS _).mono ?_
  rintro e w2 ⟨rfl, hb2⟩
  obtain ⟨hb, b4, b5, b6, b7⟩ := hP.below hb2
  clear hP a0 a1 a2 a3 a4 a5 a6 a7 d0 d1 hb2
  obtain ⟨a0, a1⟩ := b6.get2
  obtain ⟨af0, af1⟩ := b6.free2
  obtain ⟨d0, d1, d2, d3, d4, d5, d6, d7⟩ := b7.get8
  obtain ⟨df0, df1, df2, df3, df4, df5, df6, df7⟩ := b7.free8
  have hg6 : w.heap.size ≤ w.heap.size + 1 + 1 := by omega
  have hg7 : w.heap.size ≤ w.heap.size + 1 + 1 + 1 := by omega
  have hne : w.heap.size + 1 + 1 ≠ w.heap.size + 1 + 1 + 1 := by omega
  generalize w.heap.size + 1 + 1 + 1 = g7 at *
  generalize w.heap.size + 1 + 1 = g6 at *
  go_wp2
  have hbs := below_set8 (below_set2 hb hg6 (.slice none 0 0) (.int .i64 0)) hg7 (.int .i64 0) (.int .i64 0) (.int .i64 0) (.int .u64 0) (.int .u64 0) (.int .u64 0) (.int .i64 0) (.int .i64 0)
  have y6 := (b6.all2 (.slice none 0 0) (.int .i64 0)).oth8 hne (.int .i64 0) (.int .i64 0) (.int .i64 0) (.int .u64 0) (.int .u64 0) (.int .u64 0) (.int .i64 0) (.int .i64 0)
  have y7 := (b7.oth2 (Ne.symm hne) (.slice none 0 0) (.int .i64 0)).all8 (.int .i64 0) (.int .i64 0) (.int .i64 0) (.int .u64 0) (.int .u64 0) (.int .u64 0) (.int .i64 0) (.int .i64 0)
  clear a0 a1 af0 af1 d0 d1 d2 d3 d4 d5 d6 d7 df0 df1 df2 df3 df4 df5 df6 df7 b4 b5 b6 b7 hRS
  generalize ((((((((((w2.setCell ⟨g6, 0, none⟩ (.slice none 0 0)).setCell ⟨g6, 1, none⟩ (.int .i64 0)).setCell ⟨g7, 0, none⟩ (.int .i64 0)).setCell ⟨g7, 1, none⟩ (.int .i64 0)).setCell ⟨g7, 2, none⟩ (.int .i64 0)).setCell ⟨g7, 3, none⟩ (.int .u64 0)).setCell ⟨g7, 4, none⟩ (.int .u64 0)).setCell ⟨g7, 5, none⟩ (.int .u64 0)).setCell ⟨g7, 6, none⟩ (.int .i64 0)).setCell ⟨g7, 7, none⟩ (.int .i64 0)) = X at *
  obtain ⟨a0, a1⟩ := y6.get2
  obtain ⟨d0, d1, d2, d3, d4, d5, d6, d7⟩ := y7.get8
  refine bodyPost_ret (v := .tuple #[.agg #[.slice none 0 0, .int .i64 0], (.agg #[.int .i64 0, .int .i64 0, .int .i64 0, .int .u64 0, .int .u64 0, .int .u64 0, .int .i64 0, .int .i64 0]), .iface 59 (.int .i64 4)]) ?_ rfl ⟨rfl, hbs⟩
  simp [results, Tryz.results84, go_sem, a0, a1, d0, d1, d2, d3, d4, d5, d6, d7]

set_option maxRecDepth 20000 in
set_option maxHeartbeats 4000000 in
theorem put_yes8 (k : Nat) (s : KS) (t : Int) (v : Nat) (w : World) (hk : k = 1 ∨ k = 2) (hs : s.May) (hn : s.n ≤ 1000000) (hv : v ≤ 18446744073709551615) (hr : risesK s t = true) (hR : RoomW w) (hT : TzW w) :
    Calls Tryz.prog 84 #[.int .i64 (k : Int), (.agg #[.int .i64 (s.n : Int), .int .i64 s.t, .int .i64 s.d, .int .u64 (s.v : Int), .int .u64 (s.e : Int), .int .u64 (s.x.prev : Int), .int .i64 (s.x.lead : Int), .int .i64 (s.x.len : Int)]), (.agg #[.int .i64 t, .int .u64 (v : Int)])] w (RetPut w (putK k s t v) (nextK k s t v)) := by
  have hP := pworld_is w s t v
  have hRS := fun w => rises_any s t v w
  rw [hr] at hRS
  have hVB := fun w hR hT => valuebits_any k s v w hk hs hv hR hT
  have hTB := fun w hR => timebits_any s t w hR
  have hAF := fun y w => after_any k s t v y w hk hn
  have hlt := timeK_len s t
  have hlv := valK_len (k := k) hs hv
  have HQ : Hid (putK k s t v = timeK s t ++ valK k s v) := Lib.hid rfl
  have HN : Hid (afterK k s t v (if s.n = 0 then zeroX else if k = 1 then nextX s.x v else zeroX) = nextK k s t v) := Lib.hid (by
    unfold nextK afterK
    by_cases h0 : s.n = 0
    · rw [if_pos h0, if_pos h0]
    · rw [if_neg h0, if_neg h0, if_neg h0]
      by_cases h1 : k = 1
      · rw [if_pos h1, if_pos h1, if_pos h1]
      · rw [if_neg h1, if_neg h1, if_neg h1])
  generalize putK k s t v = q at *
  generalize nextK k s t v = s' at *
  generalize timeK s t = pt at *
  generalize valK k s v = pv at *
  generalize (if s.n = 0 then zeroX else if k = 1 then nextX s.x v else zeroX) = y at *
  replace hAF := hAF y
  rw [HN.out] at hAF
  unfold RetV at hVB
  obtain ⟨N, HNN⟩ : ∃ N, Hid (q.length = N) := ⟨_, Lib.hid rfl⟩
  obtain ⟨Lv, HLV⟩ : ∃ N, Hid (pv.length = N) := ⟨_, Lib.hid rfl⟩
  obtain ⟨Lt, HLT⟩ : ∃ N, Hid (pt.length = N) := ⟨_, Lib.hid rfl⟩
  rw [HLV.out] at hVB hlv
  rw [HLT.out] at hlt
  clear HN hs
  go_enter Tryz.func84, Tryz.ntmps84
  go_wp2_with fail
  change Calls _ _ _ (pworld w s t v) _
  generalize pworld w s t v = W at *
  refine (known_yes k _ hk).mono ?_
  rintro e w1 ⟨rfl, rfl⟩
  obtain ⟨hb, b4, b5, b6, b7⟩ := hP
  have hP := PW.mk hb b4 b5 b6 b7
  obtain ⟨a0, a1, a2, a3, a4, a5, a6, a7⟩ := b4.get8
  obtain ⟨d0, d1⟩ := b5.get2
  go_wp2_with fail
  refine (hRS _).mono ?_
  rintro e w2 ⟨rfl, hb2⟩
  replace hP := hP.below hb2
  clear a0 a1 a2 a3 a4 a5 a6 a7 d0 d1 hb2 hb b4 b5 b6 b7 hRS
  obtain ⟨hb, b4, b5, b6, b7⟩ := hP
  have hP := PW.mk hb b4 b5 b6 b7
  obtain ⟨a0, a1, a2, a3, a4, a5, a6, a7⟩ := b4.get8
  obtain ⟨d0, d1⟩ := b5.get2
  go_wp2_with fail
  refine (hVB _ (hR.bel hb) (hT.bel hb)).mono ?_
  rintro e w3 ⟨A3, c3, rfl, ho3⟩
  go_upto_region 6 with fail
  have b9 := (BoxL.new w3 [.slice A3 (pack pv).length c3, .int .i64 (Lv : Int)] 148).onA (.cells #[.int .u64 (y.prev : Int), .int .i64 (y.lead : Int), .int .i64 (y.len : Int)] 149)
  have b10 := BoxL.new (w3.alloc (.cells #[.slice A3 (pack pv).length c3, .int .i64 (Lv : Int)] 148)) [.int .u64 (y.prev : Int), .int .i64 (y.lead : Int), .int .i64 (y.len : Int)] 149
  simp only [World.size_alloc] at b10
  have hal : Below w3.heap.size w3 ((w3.alloc (.cells #[.slice A3 (pack pv).length c3, .int .i64 (Lv : Int)] 148)).alloc (.cells #[.int .u64 (y.prev : Int), .int .i64 (y.lead : Int), .int .i64 (y.len : Int)] 149)) := by repeat (first | with_reducible exact Below.refl _ _ | assumption | with_reducible refine Below.drew ?_ | with_reducible refine Below.alloc ?_ (by (first | assumption | omega | (simp; done) | (simp; omega))) _)
  have hr3 := (ho3.rd.below hal).more hal.size
  have hw3 := ho3.bel.trans (hal.mono ho3.bel.size)
  have hg9 := (hP.below ho3.bel).b7.lt
  replace hP := hP.below hw3
  clear a0 a1 a2 a3 a4 a5 a6 a7 d0 d1 hb b4 b5 b6 b7 hVB ho3 hw3 hal
  generalize (w3.alloc (.cells #[.slice A3 (pack pv).length c3, .int .i64 (Lv : Int)] 148)).alloc (.cells #[.int .u64 (y.prev : Int), .int .i64 (y.lead : Int), .int .i64 (y.len : Int)] 149) = W3 at *
  generalize w3.heap.size = g9 at *
  have px := (PX.mk hP.bel hP.b4 hP.b5 hP.b6 hP.b7 b9 b10 hg9).drew
  clear b9 b10
  have l7 := hP.b7.lt
  have hRX := hR.bel px.bel
  replace hr3 := hr3.drew
  unfold RetBits at hTB
  rw [HLT.out] at hTB
  go_cut [8] (fun x8 wx => x8 = .nilIface ∧ ∃ A c, BoxL wx (w.heap.size + 1 + 1) [.slice A (pack q).length c, .int .i64 (N : Int)] ∧ BoxL wx (w.heap.size + 1 + 1 + 1) [.int .i64 (s'.n : Int), .int .i64 s'.t, .int .i64 s'.d, .int .u64 (s'.v : Int), .int .u64 (s'.e : Int), .int .u64 (s'.x.prev : Int), .int .i64 (s'.x.lead : Int), .int .i64 (s'.x.len : Int)] ∧ Own w wx (.slice A (pack q).length c) (pack q))
  case first =>
    have q0 := px.cells
    go_region_held3 (fun w' => (w'.cell? ⟨w.heap.size, 0, none⟩ = some (.int .i64 (s.n : Int)) ∧ w'.cell? ⟨w.heap.size, 1, none⟩ = some (.int .i64 s.t) ∧ w'.cell? ⟨w.heap.size, 2, none⟩ = some (.int .i64 s.d) ∧ w'.cell? ⟨w.heap.size, 3, none⟩ = some (.int .u64 (s.v : Int)) ∧ w'.cell? ⟨w.heap.size, 4, none⟩ = some (.int .u64 (s.e : Int)) ∧ w'.cell? ⟨w.heap.size, 5, none⟩ = some (.int .u64 (s.x.prev : Int)) ∧ w'.cell? ⟨w.heap.size, 6, none⟩ = some (.int .i64 (s.x.lead : Int)) ∧ w'.cell? ⟨w.heap.size, 7, none⟩ = some (.int .i64 (s.x.len : Int))) ∧ (w'.cell? ⟨w.heap.size + 1, 0, none⟩ = some (.int .i64 t) ∧ w'.cell? ⟨w.heap.size + 1, 1, none⟩ = some (.int .u64 (v : Int))) ∧ (w'.cell? ⟨g9, 0, none⟩ = some (.slice A3 (pack pv).length c3) ∧ w'.cell? ⟨g9, 1, none⟩ = some (.int .i64 (Lv : Int))) ∧ (w'.cell? ⟨g9 + 1, 0, none⟩ = some (.int .u64 (y.prev : Int)) ∧ w'.cell? ⟨g9 + 1, 1, none⟩ = some (.int .i64 (y.lead : Int)) ∧ w'.cell? ⟨g9 + 1, 2, none⟩ = some (.int .i64 (y.len : Int))))
      (with_reducible first | exact px.cells | exact (px.set6 _ _).cells | exact (px.set7 _ _ _ _ _ _ _ _).cells | exact ((px.set6 _ _).set7 _ _ _ _ _ _ _ _).cells | exact ((px.set7 _ _ _ _ _ _ _ _).set6 _ _).cells) (first
      | (go_at_call 102; (with_reducible refine (hTB _ hRX).mono ?_); rintro e w5 ⟨A5, c5, rfl, ho5⟩; replace px := px.below ho5.bel; replace hr3 := (hr3.below ho5.bel).more ho5.bel.size; have hr5 := ho5.rd; clear ho5)
      | (go_at_call 86; (with_reducible refine (join_as _ _ _ _ _ _ pt pv q _ _ N _ hr5 hr3 (by rw [HLT.out]) (by rw [HLV.out]) HQ.out HNN.out (by rw [HLT.out]; omega) (by rw [HLV.out]; omega)).mono ?_); rintro e w6 ⟨A6, c6, rfl, ho6⟩; have hm := Mid.of ho6 px.bel; have hB7 := px.b7.lt; replace px := px.below ho6.bel; clear ho6 hr5 hr3; (try clear u60 u61 v60 v61 u70 u71 u72 u73 u74 u75 u76 u77 v70 v71 v72 v73 v74 v75 v76 v77); obtain ⟨u60, u61⟩ := px.b6.get2; obtain ⟨v60, v61⟩ := px.b6.free2; obtain ⟨u70, u71, u72, u73, u74, u75, u76, u77⟩ := px.b7.get8; obtain ⟨v70, v71, v72, v73, v74, v75, v76, v77⟩ := px.b7.free8)
      | (go_at_call 103; (with_reducible refine (hAF _).mono ?_); rintro e w7 ⟨rfl, HB⟩; (with_reducible first | (replace px := px.below HB; replace hm := hm.on HB) | (replace px := (px.set6 _ _).below HB; replace hm := (hm.set2 (by omega) (by omega) _ _).on HB)); clear HB; (try clear u60 u61 v60 v61 u70 u71 u72 u73 u74 u75 u76 u77 v70 v71 v72 v73 v74 v75 v76 v77); obtain ⟨u60, u61⟩ := px.b6.get2; obtain ⟨v60, v61⟩ := px.b6.free2; obtain ⟨u70, u71, u72, u73, u74, u75, u76, u77⟩ := px.b7.get8; obtain ⟨v70, v71, v72, v73, v74, v75, v76, v77⟩ := px.b7.free8))
    all_goals
      clear q0 u60 u61 v60 v61 u70 u71 u72 u73 u74 u75 u76 u77 v70 v71 v72 v73 v74 v75 v76 v77 hTB hAF
      go_wp2_with fail
      go_meet
      with_reducible first
        | exact ⟨rfl, A6, c6, (px.set7 _ _ _ _ _ _ _ _).b6, (px.set7 _ _ _ _ _ _ _ _).b7, (hm.set8 (by omega) (by omega) _ _ _ _ _ _ _ _).own⟩
        | exact ⟨rfl, A6, c6, ((px.set6 _ _).set7 _ _ _ _ _ _ _ _).b6, ((px.set6 _ _).set7 _ _ _ _ _ _ _ _).b7, ((hm.set2 (by omega) (by omega) _ _).set8 (by omega) (by omega) _ _ _ _ _ _ _ _).own⟩
        | exact ⟨rfl, A6, c6, ((px.set7 _ _ _ _ _ _ _ _).set6 _ _).b6, ((px.set7 _ _ _ _ _ _ _ _).set6 _ _).b7, ((hm.set8 (by omega) (by omega) _ _ _ _ _ _ _ _).set2 (by omega) (by omega) _ _).own⟩
  case rest =>
    obtain ⟨rfl, A6, c6, b6, b7, ho⟩ := hcut
    obtain ⟨a0, a1⟩ := b6.get2
    obtain ⟨d0, d1, d2, d3, d4, d5, d6, d7⟩ := b7.get8
    go_wp2
    refine bodyPost_ret (v := .tuple #[.agg #[.slice A6 (pack q).length c6, .int .i64 (N : Int)], (.agg #[.int .i64 (s'.n : Int), .int .i64 s'.t, .int .i64 s'.d, .int .u64 (s'.v : Int), .int .u64 (s'.e : Int), .int .u64 (s'.x.prev : Int), .int .i64 (s'.x.lead : Int), .int .i64 (s'.x.len : Int)]), .nilIface]) ?_ rfl ⟨A6, c6, by rw [HNN.out], ho⟩
    simp [results, Tryz.results84, go_sem, a0, a1, d0, d1, d2, d3, d4, d5, d6, d7]

end Go.Proofs.YtaebljoacffghaaGreatDoor

/-
  Layer 8's Put for any kind: one answer, told in one form.
-/
namespace Go.Proofs.YtaebljoacffghaaGreatDoor
open Go.RowKit

/-- what Put answers: bits, a state, an error's number -/
structure PA where
  p : List Bool
  s : KS
  e : Nat
def putA (z : Int) (s : KS) (t : Int) (v : Nat) : PA :=
  if z ≠ 1 ∧ z ≠ 2 then ⟨[], zeroK, 6⟩ else if risesK s t = false then ⟨[], zeroK, 4⟩ else ⟨putK z.toNat s t v, nextK z.toNat s t v, 0⟩
theorem putA_e (z : Int) (s : KS) (t : Int) (v : Nat) : (putA z s t v).e ≤ 6 := by unfold putA; split; simp; split <;> simp
theorem putA_len (z : Int) {s : KS} {t : Int} {v : Nat} (hs : s.May) (hv : v ≤ 18446744073709551615) : (putA z s t v).p.length ≤ 146 := by
  unfold putA
  split
  · simp
  · split
    · simp
    · exact (putK_len hs hv).2
theorem putA_may (z : Int) {s : KS} {t : Int} {v : Nat} (hs : s.May) (ht : -9223372036854775808 ≤ t ∧ t ≤ 9223372036854775807) (hv : v ≤ 18446744073709551615) : (putA z s t v).s.May ∧ (putA z s t v).s.n ≤ s.n + 1 := by
  unfold putA
  split
  · exact ⟨zeroK_may, by simp [zeroK]⟩
  · split
    · exact ⟨zeroK_may, by simp [zeroK]⟩
    · exact ⟨nextK_may hs ht hv, by simp only; unfold nextK; rw [afterK_n]; exact Nat.le_refl _⟩
theorem after_same (k : Nat) (s : KS) (t : Int) (v : Nat) : afterK k s t v (nextK k s t v).x = nextK k s t v := by
  unfold nextK afterK
  by_cases h0 : s.n = 0
  · rw [if_pos h0, if_pos h0]
  · rw [if_neg h0, if_neg h0]
    split <;> rfl
/-- without an error the kind is known, and After tells the state -/
theorem putA_ok {z : Int} {s : KS} {t : Int} {v : Nat} (h : (putA z s t v).e = 0) : ∃ k : Nat, z = (k : Int) ∧ (k = 1 ∨ k = 2) ∧ afterK k s t v (putA z s t v).s.x = (putA z s t v).s := by
  unfold putA at h ⊢
  split
  · rename_i h1
    rw [if_pos h1] at h
    simp at h
  · rename_i h1
    rw [if_neg h1] at h
    obtain ⟨k, rfl, hk⟩ := known_is h1
    split
    · rename_i h2
      rw [if_pos h2] at h
      simp at h
    · exact ⟨k, rfl, hk, after_same k s t v⟩

/-- what Put comes to -/
def RetPA (w : World) (r : PA) (e : Ending) (w' : World) : Prop :=
  ∃ A c, e = .returned (.tuple #[.agg #[.slice A (pack r.p).length c, .int .i64 ((r.p.length : Nat) : Int)], (.agg #[.int .i64 (r.s.n : Int), .int .i64 r.s.t, .int .i64 r.s.d, .int .u64 (r.s.v : Int), .int .u64 (r.s.e : Int), .int .u64 (r.s.x.prev : Int), .int .i64 (r.s.x.lead : Int), .int .i64 (r.s.x.len : Int)]), errV r.e]) ∧ Own w w' (.slice A (pack r.p).length c) (pack r.p)
theorem put_all (z : Int) (s : KS) (t : Int) (v : Nat) (w : World) (hs : s.May) (hn : s.n ≤ 1000000) (hv : v ≤ 18446744073709551615) (hR : RoomW w) (hT : TzW w) :
    Calls Tryz.prog 84 #[.int .i64 z, (.agg #[.int .i64 (s.n : Int), .int .i64 s.t, .int .i64 s.d, .int .u64 (s.v : Int), .int .u64 (s.e : Int), .int .u64 (s.x.prev : Int), .int .i64 (s.x.lead : Int), .int .i64 (s.x.len : Int)]), (.agg #[.int .i64 t, .int .u64 (v : Int)])] w (RetPA w (putA z s t v)) := by
  unfold putA
  split
  · rename_i h
    exact (put_kind z s t v w (by simp [h.1]) (by simp [h.2])).mono fun e w' ⟨h1, h2⟩ => ⟨none, 0, h1, Own.nil_ _ _ h2⟩
  · rename_i h
    obtain ⟨k, rfl, hk⟩ := known_is h
    split
    · rename_i h3
      exact (put_order k s t v w hk h3).mono fun e w' ⟨h1, h2⟩ => ⟨none, 0, h1, Own.nil_ _ _ h2⟩
    · rename_i h3
      exact put_yes8 k s t v w hk hs hn hv (by simpa using h3) hR hT

end Go.Proofs.YtaebljoacffghaaGreatDoor
