/-
  The contract of layer 11's get: the sample that is next.
-/
import Derived.Test.YtnjohmgacmcdnaaDoorBatGet
namespace Go.Proofs.YtnjohmgacmcdnaaDoor
open Go.RowKit

/-- the three boxes at the head of get -/
theorem get_boxes (w : World) (s : KS) : Below w.heap.size w (((w.alloc (.cells #[.int .i64 (s.n : Int), .int .i64 s.t, .int .i64 s.d, .int .u64 (s.v : Int), .int .u64 (s.e : Int), .int .u64 (s.x.prev : Int), .int .i64 (s.x.lead : Int), .int .i64 (s.x.len : Int)] 46)).alloc (.cells #[.int .i64 0, .int .u64 0] 41)).alloc (.cells #[.int .u64 0, .int .i64 0, .int .i64 0] 44)) ∧
    BoxL (((w.alloc (.cells #[.int .i64 (s.n : Int), .int .i64 s.t, .int .i64 s.d, .int .u64 (s.v : Int), .int .u64 (s.e : Int), .int .u64 (s.x.prev : Int), .int .i64 (s.x.lead : Int), .int .i64 (s.x.len : Int)] 46)).alloc (.cells #[.int .i64 0, .int .u64 0] 41)).alloc (.cells #[.int .u64 0, .int .i64 0, .int .i64 0] 44)) w.heap.size [.int .i64 (s.n : Int), .int .i64 s.t, .int .i64 s.d, .int .u64 (s.v : Int), .int .u64 (s.e : Int), .int .u64 (s.x.prev : Int), .int .i64 (s.x.lead : Int), .int .i64 (s.x.len : Int)] ∧
    BoxL (((w.alloc (.cells #[.int .i64 (s.n : Int), .int .i64 s.t, .int .i64 s.d, .int .u64 (s.v : Int), .int .u64 (s.e : Int), .int .u64 (s.x.prev : Int), .int .i64 (s.x.lead : Int), .int .i64 (s.x.len : Int)] 46)).alloc (.cells #[.int .i64 0, .int .u64 0] 41)).alloc (.cells #[.int .u64 0, .int .i64 0, .int .i64 0] 44)) (w.heap.size + 1) [.int .i64 0, .int .u64 0] ∧
    BoxL (((w.alloc (.cells #[.int .i64 (s.n : Int), .int .i64 s.t, .int .i64 s.d, .int .u64 (s.v : Int), .int .u64 (s.e : Int), .int .u64 (s.x.prev : Int), .int .i64 (s.x.lead : Int), .int .i64 (s.x.len : Int)] 46)).alloc (.cells #[.int .i64 0, .int .u64 0] 41)).alloc (.cells #[.int .u64 0, .int .i64 0, .int .i64 0] 44)) (w.heap.size + 1 + 1) [.int .u64 0, .int .i64 0, .int .i64 0] := by
  have h2 := (BoxL.new (w.alloc (.cells #[.int .i64 (s.n : Int), .int .i64 s.t, .int .i64 s.d, .int .u64 (s.v : Int), .int .u64 (s.e : Int), .int .u64 (s.x.prev : Int), .int .i64 (s.x.lead : Int), .int .i64 (s.x.len : Int)] 46)) [.int .i64 0, .int .u64 0] 41).onA (.cells #[.int .u64 0, .int .i64 0, .int .i64 0] 44)
  have h3 := BoxL.new ((w.alloc (.cells #[.int .i64 (s.n : Int), .int .i64 s.t, .int .i64 s.d, .int .u64 (s.v : Int), .int .u64 (s.e : Int), .int .u64 (s.x.prev : Int), .int .i64 (s.x.lead : Int), .int .i64 (s.x.len : Int)] 46)).alloc (.cells #[.int .i64 0, .int .u64 0] 41)) [.int .u64 0, .int .i64 0, .int .i64 0] 44
  simp only [World.size_alloc] at h2 h3
  exact ⟨by repeat (first | with_reducible exact Below.refl _ _ | assumption | with_reducible refine Below.drew ?_ | with_reducible refine Below.alloc ?_ (by (first | assumption | omega | (simp; done) | (simp; omega))) _), ((BoxL.new w [.int .i64 (s.n : Int), .int .i64 s.t, .int .i64 s.d, .int .u64 (s.v : Int), .int .u64 (s.e : Int), .int .u64 (s.x.prev : Int), .int .i64 (s.x.lead : Int), .int .i64 (s.x.len : Int)] 46).onA _).onA _, h2, h3⟩
theorem BoxL.oth3 {w : World} {g : Nat} {l : List Value} (h : BoxL w g l) {d : Nat} (hd : g ≠ d) (u0 u1 u2 : Value) : BoxL (((w.setCell ⟨d, 0, none⟩ u0).setCell ⟨d, 1, none⟩ u1).setCell ⟨d, 2, none⟩ u2) g l := (h.oth2 hd u0 u1).oth hd 2 u2

section
variable (g : Nat) (A : Option Addr) (m c : Nat) (bs : List Nat) (a k : Nat) (s : KS) (w : World) (hr : Rdr w g A m c bs a)
include hr
set_option maxRecDepth 20000 in
set_option maxHeartbeats 1000000 in
theorem bget_terr (t : Int) (e : Nat) (he : e ≠ 0) (hGT : ∀ X, Wt w g A m c bs a X → Calls Tryd.prog 40 #[.pointer (some ⟨g, 0, none⟩), (.agg #[.int .i64 (s.n : Int), .int .i64 s.t, .int .i64 s.d, .int .u64 (s.v : Int), .int .u64 (s.e : Int), .int .u64 (s.x.prev : Int), .int .i64 (s.x.lead : Int), .int .i64 (s.x.len : Int)])] X fun f X' => f = .returned (.tuple #[.int .i64 t, errV e]) ∧ ∃ a', Wt X g A m c bs a' X') :
    Calls Tryd.prog 25 #[.int .i64 (k : Int), .pointer (some ⟨g, 0, none⟩), (.agg #[.int .i64 (s.n : Int), .int .i64 s.t, .int .i64 s.d, .int .u64 (s.v : Int), .int .u64 (s.e : Int), .int .u64 (s.x.prev : Int), .int .i64 (s.x.lead : Int), .int .i64 (s.x.len : Int)])] w fun f w' => f = .returned (.tuple #[(.agg #[.int .i64 0, .int .u64 (0 : Int)]), .agg #[.int .u64 0, .int .i64 0, .int .i64 0], errV e]) ∧ ∃ a', Wt w g A m c bs a' w' := by
  have hg := hr.lt
  obtain ⟨hV, x5, x6, x7⟩ := get_boxes w s
  have hb0 := (Wt.of hr).below hV
  have hev : errV e = .iface 42 (.int .i64 (e : Int)) := errV_some he
  rw [hev] at hGT ⊢
  clear hev he
  obtain ⟨q0, q1, q2, q3, q4, q5, q6, q7⟩ := x5.get8
  have hR := hGT _ hb0
  clear hGT hr x5
  go_enter Tryd.func25, Tryd.ntmps25
  go_wp2_with fail
  refine hR.mono ?_
  rintro f w1 ⟨rfl, a1, hW⟩
  replace x6 := hW.box x6 (by omega)
  replace x7 := hW.box x7 (by omega)
  replace hW := hb0.trans hW
  clear hR hb0 hV q0 q1 q2 q3 q4 q5 q6 q7
  have z6 := (x6.all2 (.int .i64 0) (.int .u64 0)).oth3 (d := w.heap.size + 1 + 1) (by omega) (.int .u64 0) (.int .i64 0) (.int .i64 0)
  have z7 := (x7.oth2 (d := w.heap.size + 1) (by omega) (.int .i64 0) (.int .u64 0)).all3 (.int .u64 0) (.int .i64 0) (.int .i64 0)
  have hZ := (hW.put2 hg (d := w.heap.size + 1) (by omega) (.int .i64 0) (.int .u64 0)).put3 hg (d := w.heap.size + 1 + 1) (by omega) (.int .u64 0) (.int .i64 0) (.int .i64 0)
  obtain ⟨f0, f1⟩ := x6.free2
  obtain ⟨y0, y1⟩ := x6.get2
  obtain ⟨f3, f4, f5⟩ := x7.free3
  obtain ⟨y3, y4, y5⟩ := x7.get3
  clear x6 x7 hW
  go_wp2
  clear f0 f1 y0 y1 f3 f4 f5 y3 y4 y5
  generalize (((((w1.setCell ⟨w.heap.size + 1, 0, none⟩ (.int .i64 0)).setCell ⟨w.heap.size + 1, 1, none⟩ (.int .u64 0)).setCell ⟨w.heap.size + 1 + 1, 0, none⟩ (.int .u64 0)).setCell ⟨w.heap.size + 1 + 1, 1, none⟩ (.int .i64 0)).setCell ⟨w.heap.size + 1 + 1, 2, none⟩ (.int .i64 0)) = Z at *
  obtain ⟨u0, u1⟩ := z6.get2
  obtain ⟨u2, u3, u4⟩ := z7.get3
  refine bodyPost_ret (v := .tuple #[.agg #[.int .i64 0, .int .u64 0], .agg #[.int .u64 0, .int .i64 0, .int .i64 0], .iface 42 (.int .i64 (e : Int))]) ?_ rfl ⟨rfl, _, hZ⟩
  simp [results, Tryd.results25, go_sem, u0, u1, u2, u3, u4]

set_option maxRecDepth 20000 in
set_option maxHeartbeats 1000000 in
theorem bget_verr (t : Int) (v : Nat) (y : XS) (e a2 : Nat) (he : e ≠ 0) (hGT : ∀ X, Wt w g A m c bs a X → Calls Tryd.prog 40 #[.pointer (some ⟨g, 0, none⟩), (.agg #[.int .i64 (s.n : Int), .int .i64 s.t, .int .i64 s.d, .int .u64 (s.v : Int), .int .u64 (s.e : Int), .int .u64 (s.x.prev : Int), .int .i64 (s.x.lead : Int), .int .i64 (s.x.len : Int)])] X fun f X' => f = .returned (.tuple #[.int .i64 t, .nilIface]) ∧ Wt X g A m c bs a2 X')
    (hGV : ∀ X, Wt w g A m c bs a2 X → Calls Tryd.prog 41 #[.int .i64 (k : Int), .pointer (some ⟨g, 0, none⟩), (.agg #[.int .i64 (s.n : Int), .int .i64 s.t, .int .i64 s.d, .int .u64 (s.v : Int), .int .u64 (s.e : Int), .int .u64 (s.x.prev : Int), .int .i64 (s.x.lead : Int), .int .i64 (s.x.len : Int)])] X fun f X' => f = .returned (.tuple #[.int .u64 (v : Int), (.agg #[.int .u64 (y.prev : Int), .int .i64 (y.lead : Int), .int .i64 (y.len : Int)]), errV e]) ∧ ∃ a', Wt X g A m c bs a' X') :
    Calls Tryd.prog 25 #[.int .i64 (k : Int), .pointer (some ⟨g, 0, none⟩), (.agg #[.int .i64 (s.n : Int), .int .i64 s.t, .int .i64 s.d, .int .u64 (s.v : Int), .int .u64 (s.e : Int), .int .u64 (s.x.prev : Int), .int .i64 (s.x.lead : Int), .int .i64 (s.x.len : Int)])] w fun f w' => f = .returned (.tuple #[(.agg #[.int .i64 0, .int .u64 (0 : Int)]), .agg #[.int .u64 0, .int .i64 0, .int .i64 0], errV e]) ∧ ∃ a', Wt w g A m c bs a' w' := by
  have hg := hr.lt
  obtain ⟨hV, x5, x6, x7⟩ := get_boxes w s
  have hb0 := (Wt.of hr).below hV
  have hev : errV e = .iface 42 (.int .i64 (e : Int)) := errV_some he
  rw [hev] at hGV ⊢
  clear hev he
  obtain ⟨q0, q1, q2, q3, q4, q5, q6, q7⟩ := x5.get8
  have hR := hGT _ hb0
  clear hGT hr
  go_enter Tryd.func25, Tryd.ntmps25
  go_wp2_with fail
  refine hR.mono ?_
  rintro f w1 ⟨rfl, hW⟩
  replace x5 := hW.box x5 (by omega)
  replace x6 := hW.box x6 (by omega)
  replace x7 := hW.box x7 (by omega)
  replace hW := hb0.trans hW
  clear hR hb0 hV q0 q1 q2 q3 q4 q5 q6 q7
  obtain ⟨q0, q1, q2, q3, q4, q5, q6, q7⟩ := x5.get8
  have hR := hGV _ hW
  clear hGV
  go_wp2_with fail
  refine hR.mono ?_
  rintro f w2 ⟨rfl, a1, hW2⟩
  replace x5 := hW2.box x5 (by omega)
  replace x6 := hW2.box x6 (by omega)
  replace x7 := hW2.box x7 (by omega)
  replace hW := hW.trans hW2
  clear hR hW2 q0 q1 q2 q3 q4 q5 q6 q7
  clear w1
  go_upto_region 6 with fail
  have hal : Below w2.heap.size w2 (w2.alloc (.cells #[.int .u64 (y.prev : Int), .int .i64 (y.lead : Int), .int .i64 (y.len : Int)] 44)) := by repeat (first | with_reducible exact Below.refl _ _ | assumption | with_reducible refine Below.drew ?_ | with_reducible refine Below.alloc ?_ (by (first | assumption | omega | (simp; done) | (simp; omega))) _)
  have x12 := BoxL.new w2 [.int .u64 (y.prev : Int), .int .i64 (y.lead : Int), .int .i64 (y.len : Int)] 44
  have h712 := x7.lt
  replace x5 := x5.below hal
  replace x6 := x6.below hal
  replace x7 := x7.below hal
  replace hW := hW.below hal
  change BoxL (w2.alloc (.cells #[.int .u64 (y.prev : Int), .int .i64 (y.lead : Int), .int .i64 (y.len : Int)] 44)) w2.heap.size [.int .u64 (y.prev : Int), .int .i64 (y.lead : Int), .int .i64 (y.len : Int)] at x12
  generalize w2.alloc (.cells #[.int .u64 (y.prev : Int), .int .i64 (y.lead : Int), .int .i64 (y.len : Int)] 44) = w1 at *
  generalize w2.heap.size = g12 at *
  clear hal
  clear w2
  have z6 := (x6.all2 (.int .i64 0) (.int .u64 0)).oth3 (d := w.heap.size + 1 + 1) (by omega) (.int .u64 0) (.int .i64 0) (.int .i64 0)
  have z7 := (x7.oth2 (d := w.heap.size + 1) (by omega) (.int .i64 0) (.int .u64 0)).all3 (.int .u64 0) (.int .i64 0) (.int .i64 0)
  have hZ := (hW.put2 hg (d := w.heap.size + 1) (by omega) (.int .i64 0) (.int .u64 0)).put3 hg (d := w.heap.size + 1 + 1) (by omega) (.int .u64 0) (.int .i64 0) (.int .i64 0)
  obtain ⟨f0, f1⟩ := x6.free2
  obtain ⟨y0, y1⟩ := x6.get2
  obtain ⟨f3, f4, f5⟩ := x7.free3
  obtain ⟨y3, y4, y5⟩ := x7.get3
  clear x6 x7 hW
  go_wp2
  clear f0 f1 y0 y1 f3 f4 f5 y3 y4 y5
  generalize (((((w1.setCell ⟨w.heap.size + 1, 0, none⟩ (.int .i64 0)).setCell ⟨w.heap.size + 1, 1, none⟩ (.int .u64 0)).setCell ⟨w.heap.size + 1 + 1, 0, none⟩ (.int .u64 0)).setCell ⟨w.heap.size + 1 + 1, 1, none⟩ (.int .i64 0)).setCell ⟨w.heap.size + 1 + 1, 2, none⟩ (.int .i64 0)) = Z at *
  obtain ⟨u0, u1⟩ := z6.get2
  obtain ⟨u2, u3, u4⟩ := z7.get3
  refine bodyPost_ret (v := .tuple #[.agg #[.int .i64 0, .int .u64 0], .agg #[.int .u64 0, .int .i64 0, .int .i64 0], .iface 42 (.int .i64 (e : Int))]) ?_ rfl ⟨rfl, _, hZ⟩
  simp [results, Tryd.results25, go_sem, u0, u1, u2, u3, u4]

set_option maxRecDepth 20000 in
set_option maxHeartbeats 1000000 in
theorem bget_order (t : Int) (v : Nat) (y : XS) (a2 a3 : Nat) (h0 : s.n ≠ 0) (hle : t ≤ s.t) (hGT : ∀ X, Wt w g A m c bs a X → Calls Tryd.prog 40 #[.pointer (some ⟨g, 0, none⟩), (.agg #[.int .i64 (s.n : Int), .int .i64 s.t, .int .i64 s.d, .int .u64 (s.v : Int), .int .u64 (s.e : Int), .int .u64 (s.x.prev : Int), .int .i64 (s.x.lead : Int), .int .i64 (s.x.len : Int)])] X fun f X' => f = .returned (.tuple #[.int .i64 t, .nilIface]) ∧ Wt X g A m c bs a2 X')
    (hGV : ∀ X, Wt w g A m c bs a2 X → Calls Tryd.prog 41 #[.int .i64 (k : Int), .pointer (some ⟨g, 0, none⟩), (.agg #[.int .i64 (s.n : Int), .int .i64 s.t, .int .i64 s.d, .int .u64 (s.v : Int), .int .u64 (s.e : Int), .int .u64 (s.x.prev : Int), .int .i64 (s.x.lead : Int), .int .i64 (s.x.len : Int)])] X fun f X' => f = .returned (.tuple #[.int .u64 (v : Int), (.agg #[.int .u64 (y.prev : Int), .int .i64 (y.lead : Int), .int .i64 (y.len : Int)]), .nilIface]) ∧ Wt X g A m c bs a3 X') :
    Calls Tryd.prog 25 #[.int .i64 (k : Int), .pointer (some ⟨g, 0, none⟩), (.agg #[.int .i64 (s.n : Int), .int .i64 s.t, .int .i64 s.d, .int .u64 (s.v : Int), .int .u64 (s.e : Int), .int .u64 (s.x.prev : Int), .int .i64 (s.x.lead : Int), .int .i64 (s.x.len : Int)])] w fun f w' => f = .returned (.tuple #[(.agg #[.int .i64 0, .int .u64 (0 : Int)]), .agg #[.int .u64 0, .int .i64 0, .int .i64 0], .iface 42 (.int .i64 4)]) ∧ ∃ a', Wt w g A m c bs a' w' := by
  have hg := hr.lt
  obtain ⟨hV, x5, x6, x7⟩ := get_boxes w s
  have hb0 := (Wt.of hr).below hV
  obtain ⟨q0, q1, q2, q3, q4, q5, q6, q7⟩ := x5.get8
  have hR := hGT _ hb0
  clear hGT hr
  go_enter Tryd.func25, Tryd.ntmps25
  go_wp2_with fail
  refine hR.mono ?_
  rintro f w1 ⟨rfl, hW⟩
  replace x5 := hW.box x5 (by omega)
  replace x6 := hW.box x6 (by omega)
  replace x7 := hW.box x7 (by omega)
  replace hW := hb0.trans hW
  clear hR hb0 hV q0 q1 q2 q3 q4 q5 q6 q7
  obtain ⟨q0, q1, q2, q3, q4, q5, q6, q7⟩ := x5.get8
  have hR := hGV _ hW
  clear hGV
  go_wp2_with fail
  refine hR.mono ?_
  rintro f w2 ⟨rfl, hW2⟩
  replace x5 := hW2.box x5 (by omega)
  replace x6 := hW2.box x6 (by omega)
  replace x7 := hW2.box x7 (by omega)
  replace hW := hW.trans hW2
  clear hR hW2 q0 q1 q2 q3 q4 q5 q6 q7
  clear w1
  go_upto_region 7 with fail
  have hal : Below w2.heap.size w2 (w2.alloc (.cells #[.int .u64 (y.prev : Int), .int .i64 (y.lead : Int), .int .i64 (y.len : Int)] 44)) := by repeat (first | with_reducible exact Below.refl _ _ | assumption | with_reducible refine Below.drew ?_ | with_reducible refine Below.alloc ?_ (by (first | assumption | omega | (simp; done) | (simp; omega))) _)
  have x12 := BoxL.new w2 [.int .u64 (y.prev : Int), .int .i64 (y.lead : Int), .int .i64 (y.len : Int)] 44
  have h712 := x7.lt
  replace x5 := x5.below hal
  replace x6 := x6.below hal
  replace x7 := x7.below hal
  replace hW := hW.below hal
  change BoxL (w2.alloc (.cells #[.int .u64 (y.prev : Int), .int .i64 (y.lead : Int), .int .i64 (y.len : Int)] 44)) w2.heap.size [.int .u64 (y.prev : Int), .int .i64 (y.lead : Int), .int .i64 (y.len : Int)] at x12
  generalize w2.alloc (.cells #[.int .u64 (y.prev : Int), .int .i64 (y.lead : Int), .int .i64 (y.len : Int)] 44) = w1 at *
  generalize w2.heap.size = g12 at *
  clear hal
  clear w2
  have hn0 : 0 < (s.n : Int) := by omega
  obtain ⟨q0, q1, q2, q3, q4, q5, q6, q7⟩ := x5.get8
  clear h0
  have z6 := (x6.all2 (.int .i64 0) (.int .u64 0)).oth3 (d := w.heap.size + 1 + 1) (by omega) (.int .u64 0) (.int .i64 0) (.int .i64 0)
  have z7 := (x7.oth2 (d := w.heap.size + 1) (by omega) (.int .i64 0) (.int .u64 0)).all3 (.int .u64 0) (.int .i64 0) (.int .i64 0)
  have hZ := (hW.put2 hg (d := w.heap.size + 1) (by omega) (.int .i64 0) (.int .u64 0)).put3 hg (d := w.heap.size + 1 + 1) (by omega) (.int .u64 0) (.int .i64 0) (.int .i64 0)
  obtain ⟨f0, f1⟩ := x6.free2
  obtain ⟨y0, y1⟩ := x6.get2
  obtain ⟨f3, f4, f5⟩ := x7.free3
  obtain ⟨y3, y4, y5⟩ := x7.get3
  clear x6 x7 hW
  go_wp2
  clear f0 f1 y0 y1 f3 f4 f5 y3 y4 y5
  generalize (((((w1.setCell ⟨w.heap.size + 1, 0, none⟩ (.int .i64 0)).setCell ⟨w.heap.size + 1, 1, none⟩ (.int .u64 0)).setCell ⟨w.heap.size + 1 + 1, 0, none⟩ (.int .u64 0)).setCell ⟨w.heap.size + 1 + 1, 1, none⟩ (.int .i64 0)).setCell ⟨w.heap.size + 1 + 1, 2, none⟩ (.int .i64 0)) = Z at *
  obtain ⟨u0, u1⟩ := z6.get2
  obtain ⟨u2, u3, u4⟩ := z7.get3
  refine bodyPost_ret (v := .tuple #[.agg #[.int .i64 0, .int .u64 0], .agg #[.int .u64 0, .int .i64 0, .int .i64 0], .iface 42 (.int .i64 4)]) ?_ rfl ⟨rfl, _, hZ⟩
  simp [results, Tryd.results25, go_sem, u0, u1, u2, u3, u4]

set_option maxRecDepth 20000 in
set_option maxHeartbeats 1000000 in
theorem bget_good (t : Int) (v : Nat) (y : XS) (a2 a3 : Nat) (h0 : s.n = 0 ∨ s.t < t) (hGT : ∀ X, Wt w g A m c bs a X → Calls Tryd.prog 40 #[.pointer (some ⟨g, 0, none⟩), (.agg #[.int .i64 (s.n : Int), .int .i64 s.t, .int .i64 s.d, .int .u64 (s.v : Int), .int .u64 (s.e : Int), .int .u64 (s.x.prev : Int), .int .i64 (s.x.lead : Int), .int .i64 (s.x.len : Int)])] X fun f X' => f = .returned (.tuple #[.int .i64 t, .nilIface]) ∧ Wt X g A m c bs a2 X')
    (hGV : ∀ X, Wt w g A m c bs a2 X → Calls Tryd.prog 41 #[.int .i64 (k : Int), .pointer (some ⟨g, 0, none⟩), (.agg #[.int .i64 (s.n : Int), .int .i64 s.t, .int .i64 s.d, .int .u64 (s.v : Int), .int .u64 (s.e : Int), .int .u64 (s.x.prev : Int), .int .i64 (s.x.lead : Int), .int .i64 (s.x.len : Int)])] X fun f X' => f = .returned (.tuple #[.int .u64 (v : Int), (.agg #[.int .u64 (y.prev : Int), .int .i64 (y.lead : Int), .int .i64 (y.len : Int)]), .nilIface]) ∧ Wt X g A m c bs a3 X') :
    Calls Tryd.prog 25 #[.int .i64 (k : Int), .pointer (some ⟨g, 0, none⟩), (.agg #[.int .i64 (s.n : Int), .int .i64 s.t, .int .i64 s.d, .int .u64 (s.v : Int), .int .u64 (s.e : Int), .int .u64 (s.x.prev : Int), .int .i64 (s.x.lead : Int), .int .i64 (s.x.len : Int)])] w fun f w' => f = .returned (.tuple #[(.agg #[.int .i64 t, .int .u64 (v : Int)]), (.agg #[.int .u64 (y.prev : Int), .int .i64 (y.lead : Int), .int .i64 (y.len : Int)]), .nilIface]) ∧ Wt w g A m c bs a3 w' := by
  have hg := hr.lt
  obtain ⟨hV, x5, x6, x7⟩ := get_boxes w s
  have hb0 := (Wt.of hr).below hV
  obtain ⟨q0, q1, q2, q3, q4, q5, q6, q7⟩ := x5.get8
  have hR := hGT _ hb0
  clear hGT hr
  go_enter Tryd.func25, Tryd.ntmps25
  go_wp2_with fail
  refine hR.mono ?_
  rintro f w1 ⟨rfl, hW⟩
  replace x5 := hW.box x5 (by omega)
  replace x6 := hW.box x6 (by omega)
  replace x7 := hW.box x7 (by omega)
  replace hW := hb0.trans hW
  clear hR hb0 hV q0 q1 q2 q3 q4 q5 q6 q7
  obtain ⟨q0, q1, q2, q3, q4, q5, q6, q7⟩ := x5.get8
  have hR := hGV _ hW
  clear hGV
  go_wp2_with fail
  refine hR.mono ?_
  rintro f w2 ⟨rfl, hW2⟩
  replace x5 := hW2.box x5 (by omega)
  replace x6 := hW2.box x6 (by omega)
  replace x7 := hW2.box x7 (by omega)
  replace hW := hW.trans hW2
  clear hR hW2 q0 q1 q2 q3 q4 q5 q6 q7
  clear w1
  go_upto_region 7 with fail
  have hal : Below w2.heap.size w2 (w2.alloc (.cells #[.int .u64 (y.prev : Int), .int .i64 (y.lead : Int), .int .i64 (y.len : Int)] 44)) := by repeat (first | with_reducible exact Below.refl _ _ | assumption | with_reducible refine Below.drew ?_ | with_reducible refine Below.alloc ?_ (by (first | assumption | omega | (simp; done) | (simp; omega))) _)
  have x12 := BoxL.new w2 [.int .u64 (y.prev : Int), .int .i64 (y.lead : Int), .int .i64 (y.len : Int)] 44
  have h712 := x7.lt
  replace x5 := x5.below hal
  replace x6 := x6.below hal
  replace x7 := x7.below hal
  replace hW := hW.below hal
  change BoxL (w2.alloc (.cells #[.int .u64 (y.prev : Int), .int .i64 (y.lead : Int), .int .i64 (y.len : Int)] 44)) w2.heap.size [.int .u64 (y.prev : Int), .int .i64 (y.lead : Int), .int .i64 (y.len : Int)] at x12
  generalize w2.alloc (.cells #[.int .u64 (y.prev : Int), .int .i64 (y.lead : Int), .int .i64 (y.len : Int)] 44) = w1 at *
  generalize w2.heap.size = g12 at *
  clear hal
  clear w2
  obtain ⟨q0, q1, q2, q3, q4, q5, q6, q7⟩ := x5.get8
  have z6 := ((x6.all2 (.int .i64 t) (.int .u64 (v : Int))).oth3 (d := w.heap.size + 1 + 1) (by omega) (.int .u64 (y.prev : Int)) (.int .i64 (y.lead : Int)) (.int .i64 (y.len : Int))).drew
  have z7 := ((x7.oth2 (d := w.heap.size + 1) (by omega) (.int .i64 t) (.int .u64 (v : Int))).all3 (.int .u64 (y.prev : Int)) (.int .i64 (y.lead : Int)) (.int .i64 (y.len : Int))).drew
  have hZ := ((hW.put2 hg (d := w.heap.size + 1) (by omega) (.int .i64 t) (.int .u64 (v : Int))).put3 hg (d := w.heap.size + 1 + 1) (by omega) (.int .u64 (y.prev : Int)) (.int .i64 (y.lead : Int)) (.int .i64 (y.len : Int))).below ((Below.refl _ _).drew)
  obtain ⟨i0, i1, i2⟩ := x12.get3
  obtain ⟨i3, i4, i5⟩ := x12.drew.get3
  obtain ⟨f0, f1⟩ := x6.free2
  obtain ⟨y0, y1⟩ := x6.get2
  obtain ⟨f3, f4, f5⟩ := x7.free3
  obtain ⟨y3, y4, y5⟩ := x7.get3
  have x6d := x6.drew
  have x7d := x7.drew
  obtain ⟨g0, g1⟩ := x6d.free2
  obtain ⟨j0, j1⟩ := x6d.get2
  obtain ⟨g3, g4, g5⟩ := x7d.free3
  obtain ⟨j3, j4, j5⟩ := x7d.get3
  clear x5 x6 x7 hW x12 x6d x7d
  by_cases hz : s.n = 0
  all_goals
    first
    | (have hn0 : ¬ 0 < (s.n : Int) := by omega)
    | (have hn0 : 0 < (s.n : Int) := by omega
       have hn1 : ¬ t ≤ s.t := by omega)
    clear h0 hz
    go_upto_region 9 with fail
    clear q0 q1 q2 q3 q4 q5 q6 q7
    go_region
    clear f0 f1 y0 y1 f3 f4 f5 y3 y4 y5 g0 g1 g3 g4 g5 j0 j1 j3 j4 j5 i0 i1 i2 i3 i4 i5
    generalize (((((w1.setCell ⟨w.heap.size + 1, 0, none⟩ (.int .i64 t)).setCell ⟨w.heap.size + 1, 1, none⟩ (.int .u64 (v : Int))).setCell ⟨w.heap.size + 1 + 1, 0, none⟩ (.int .u64 (y.prev : Int))).setCell ⟨w.heap.size + 1 + 1, 1, none⟩ (.int .i64 (y.lead : Int))).setCell ⟨w.heap.size + 1 + 1, 2, none⟩ (.int .i64 (y.len : Int))).drew = Z at *
    obtain ⟨u0, u1⟩ := z6.get2
    obtain ⟨u2, u3, u4⟩ := z7.get3
    go_wp2
    refine bodyPost_ret (v := .tuple #[(.agg #[.int .i64 t, .int .u64 (v : Int)]), (.agg #[.int .u64 (y.prev : Int), .int .i64 (y.lead : Int), .int .i64 (y.len : Int)]), .nilIface]) ?_ rfl ⟨rfl, hZ⟩
    simp [results, Tryd.results25, go_sem, u0, u1, u2, u3, u4]
end

/-- what get comes to -/
def RetBG (w : World) (g : Nat) (A : Option Addr) (m c : Nat) (bs : List Nat) (a k : Nat) (s : KS) (e : Ending) (w' : World) : Prop :=
  ∃ r, KGets k s (restL bs a) r ∧ ((r.e ≠ 0 ∧ e = .returned (.tuple #[(.agg #[.int .i64 0, .int .u64 (0 : Int)]), .agg #[.int .u64 0, .int .i64 0, .int .i64 0], errV r.e]) ∧ ∃ a', Wt w g A m c bs a' w') ∨
    (r.e = 0 ∧ ∃ y : XS, e = .returned (.tuple #[(.agg #[.int .i64 r.t, .int .u64 (r.v : Int)]), (.agg #[.int .u64 (y.prev : Int), .int .i64 (y.lead : Int), .int .i64 (y.len : Int)]), .nilIface]) ∧ r.s = afterK k s r.t r.v y ∧ Wt w g A m c bs (a + r.n) w'))
theorem rest_at {bs : List Nat} {a n : Nat} (h : n ≤ (restL bs a).length) : restL bs (a + n : Nat) = (restL bs a).drop n ∧ a + n ≤ 8 * bs.length ∨ n = 0 := by
  by_cases h0 : n = 0
  · exact .inr h0
  · by_cases ha : a ≤ 8 * bs.length
    · have h1 := restL_length (bs := bs) ha
      exact .inl ⟨by rw [restL_yes (by omega), restL_yes ha, List.drop_drop], by omega⟩
    · rw [restL_no (by omega)] at h
      simp at h
      omega
theorem rest_plus {bs : List Nat} {a n : Nat} (h : n ≤ (restL bs a).length) : restL bs (a + n : Nat) = (restL bs a).drop n := by
  rcases rest_at h with h | rfl
  · exact h.1
  · simp
theorem bget_any (k : Nat) (hk : k = 1 ∨ k = 2) (g : Nat) (A : Option Addr) (m c : Nat) (bs : List Nat) (a : Nat) (s : KS) (w : World) (hr : Rdr w g A m c bs a) (hs : s.May) (hT : TabsW w) (hl : TabsLt g) :
    Calls Tryd.prog 25 #[.int .i64 (k : Int), .pointer (some ⟨g, 0, none⟩), (.agg #[.int .i64 (s.n : Int), .int .i64 s.t, .int .i64 s.d, .int .u64 (s.v : Int), .int .u64 (s.e : Int), .int .u64 (s.x.prev : Int), .int .i64 (s.x.lead : Int), .int .i64 (s.x.len : Int)])] w (RetBG w g A m c bs a k s) := by
  by_cases h0 : s.n = 0
  · by_cases h1 : 64 ≤ (restL bs a).length
    · have hGT := fun X (hX : Wt w g A m c bs a X) => btime_yes g A m c bs a s X hX.1 h0 h1
      have hp := rest_plus h1
      by_cases h2 : 128 ≤ (restL bs a).length
      · have hGV := fun X (hX : Wt w g A m c bs (a + 64) X) => bval_yes g A m c bs (a + 64) k s X hX.1 h0 (by rw [hp, List.length_drop]; omega)
        rw [hp, cut_drop] at hGV
        refine (bget_good g A m c bs a k s w hr _ _ zeroX (a + 64) (a + 64 + 64) (.inl h0) hGT hGV).mono fun f w' ⟨h3, h4⟩ => ⟨firstK k s (restL bs a), .inl ⟨h0, rfl⟩, .inr ?_⟩
        unfold firstK
        rw [if_neg (by omega)]
        exact ⟨rfl, zeroX, h3, rfl, h4⟩
      · have hGV : ∀ X, Wt w g A m c bs (a + 64) X → Calls Tryd.prog 41 #[.int .i64 (k : Int), .pointer (some ⟨g, 0, none⟩), (.agg #[.int .i64 (s.n : Int), .int .i64 s.t, .int .i64 s.d, .int .u64 (s.v : Int), .int .u64 (s.e : Int), .int .u64 (s.x.prev : Int), .int .i64 (s.x.lead : Int), .int .i64 (s.x.len : Int)])] X fun f X' => f = .returned (.tuple #[.int .u64 ((0 : Nat) : Int), (.agg #[.int .u64 (zeroX.prev : Int), .int .i64 (zeroX.lead : Int), .int .i64 (zeroX.len : Int)]), errV 2]) ∧ ∃ a', Wt X g A m c bs a' X' := fun X hX =>
          (bval_no g A m c bs (a + 64) k s X hX.1 h0 (by rw [hp, List.length_drop]; omega)).mono fun f X' h => ⟨h.1, _, h.2⟩
        refine (bget_verr g A m c bs a k s w hr _ _ zeroX 2 (a + 64) (by omega) hGT hGV).mono fun f w' h => ⟨firstK k s (restL bs a), .inl ⟨h0, rfl⟩, .inl ?_⟩
        unfold firstK
        rw [if_pos (by omega)]
        exact ⟨by simp [badK], h⟩
    · have hGT : ∀ X, Wt w g A m c bs a X → Calls Tryd.prog 40 #[.pointer (some ⟨g, 0, none⟩), (.agg #[.int .i64 (s.n : Int), .int .i64 s.t, .int .i64 s.d, .int .u64 (s.v : Int), .int .u64 (s.e : Int), .int .u64 (s.x.prev : Int), .int .i64 (s.x.lead : Int), .int .i64 (s.x.len : Int)])] X fun f X' => f = .returned (.tuple #[.int .i64 0, errV 2]) ∧ ∃ a', Wt X g A m c bs a' X' := fun X hX =>
        (btime_no g A m c bs a s X hX.1 h0 (by omega)).mono fun f X' h => ⟨h.1, _, h.2⟩
      refine (bget_terr g A m c bs a k s w hr _ 2 (by omega) hGT).mono fun f w' h => ⟨firstK k s (restL bs a), .inl ⟨h0, rfl⟩, .inl ?_⟩
      unfold firstK
      rw [if_pos (by omega)]
      exact ⟨by simp [badK], h⟩
  · obtain ⟨st, n, e, hd⟩ := dgets_is (restL bs a)
    obtain ⟨v, y, j, e2, hv⟩ := vgets_is k s ((restL bs a).drop n)
    have hK : KGets k s (restL bs a) (laterK k s st n e v y j e2) := .inr ⟨h0, st, n, e, v, y, j, e2, hd, hv, rfl⟩
    have hGT : ∀ X, Wt w g A m c bs a X → Calls Tryd.prog 40 #[.pointer (some ⟨g, 0, none⟩), (.agg #[.int .i64 (s.n : Int), .int .i64 s.t, .int .i64 s.d, .int .u64 (s.v : Int), .int .u64 (s.e : Int), .int .u64 (s.x.prev : Int), .int .i64 (s.x.lead : Int), .int .i64 (s.x.len : Int)])] X fun f X' => f = .returned (.tuple #[.int .i64 (w64 (s.t + s.d + st)), errV e]) ∧ ∃ a', (e = 0 → a' = a + n) ∧ Wt X g A m c bs a' X' := fun X hX =>
      (btime_later g A m c bs a s X hX.1 h0 (hX.tabs hT hl) hl).mono fun f X' ⟨st', n', k', a', h1, h2, h3, h4⟩ => by
        obtain ⟨rfl, rfl, rfl⟩ := hd.same h1
        exact ⟨h2, a', h3, h4⟩
    by_cases he : e = 0
    · subst he
      have p1 := (dgets_back hd).2
      have g3 := rest_plus p1
      have hGT' : ∀ X, Wt w g A m c bs a X → Calls Tryd.prog 40 #[.pointer (some ⟨g, 0, none⟩), (.agg #[.int .i64 (s.n : Int), .int .i64 s.t, .int .i64 s.d, .int .u64 (s.v : Int), .int .u64 (s.e : Int), .int .u64 (s.x.prev : Int), .int .i64 (s.x.lead : Int), .int .i64 (s.x.len : Int)])] X fun f X' => f = .returned (.tuple #[.int .i64 (w64 (s.t + s.d + st)), .nilIface]) ∧ Wt X g A m c bs (a + n) X' := fun X hX =>
        (hGT X hX).mono fun f X' ⟨h1, a', h2, h3⟩ => ⟨h1, h2 rfl ▸ h3⟩
      have hGV : ∀ X, Wt w g A m c bs (a + n) X → Calls Tryd.prog 41 #[.int .i64 (k : Int), .pointer (some ⟨g, 0, none⟩), (.agg #[.int .i64 (s.n : Int), .int .i64 s.t, .int .i64 s.d, .int .u64 (s.v : Int), .int .u64 (s.e : Int), .int .u64 (s.x.prev : Int), .int .i64 (s.x.lead : Int), .int .i64 (s.x.len : Int)])] X fun f X' => f = .returned (.tuple #[.int .u64 (v : Int), (.agg #[.int .u64 (y.prev : Int), .int .i64 (y.lead : Int), .int .i64 (y.len : Int)]), errV e2]) ∧ ∃ a', (e2 = 0 → a' = a + n + j) ∧ Wt X g A m c bs a' X' := fun X hX =>
        (bval_later k hk g A m c bs (a + n) s X hX.1 h0 hs (hX.tabs hT hl) hl).mono fun f X' ⟨v', y', m', e', a', h1, h2, h3, h4⟩ => by
          rw [g3] at h1
          obtain ⟨rfl, rfl, rfl, rfl⟩ := hv.same h1
          exact ⟨h2, a', h3, h4⟩
      by_cases he2 : e2 = 0
      · subst he2
        have hGV' : ∀ X, Wt w g A m c bs (a + n) X → Calls Tryd.prog 41 #[.int .i64 (k : Int), .pointer (some ⟨g, 0, none⟩), (.agg #[.int .i64 (s.n : Int), .int .i64 s.t, .int .i64 s.d, .int .u64 (s.v : Int), .int .u64 (s.e : Int), .int .u64 (s.x.prev : Int), .int .i64 (s.x.lead : Int), .int .i64 (s.x.len : Int)])] X fun f X' => f = .returned (.tuple #[.int .u64 (v : Int), (.agg #[.int .u64 (y.prev : Int), .int .i64 (y.lead : Int), .int .i64 (y.len : Int)]), .nilIface]) ∧ Wt X g A m c bs (a + n + j) X' := fun X hX =>
          (hGV X hX).mono fun f X' ⟨h1, a', h2, h3⟩ => ⟨h1, h2 rfl ▸ h3⟩
        by_cases ho : w64 (s.t + s.d + st) ≤ s.t
        · refine (bget_order g A m c bs a k s w hr _ v y (a + n) (a + n + j) h0 ho hGT' hGV').mono fun f w' h => ⟨_, hK, .inl ?_⟩
          unfold laterK
          rw [if_neg (by omega), if_neg (by omega), if_pos ho]
          exact ⟨by simp [badK], h⟩
        · refine (bget_good g A m c bs a k s w hr _ v y (a + n) (a + n + j) (.inr (by omega)) hGT' hGV').mono fun f w' ⟨h3, h4⟩ => ⟨_, hK, .inr ?_⟩
          unfold laterK
          rw [if_neg (by omega), if_neg (by omega), if_neg ho]
          exact ⟨rfl, y, h3, rfl, by rw [← Nat.add_assoc]; exact h4⟩
      · refine (bget_verr g A m c bs a k s w hr _ v y e2 (a + n) he2 hGT' fun X hX => (hGV X hX).mono fun f X' ⟨h1, a', _, h3⟩ => ⟨h1, a', h3⟩).mono fun f w' h => ⟨_, hK, .inl ?_⟩
        unfold laterK
        rw [if_neg (by omega), if_pos he2]
        exact ⟨he2, h⟩
    · refine (bget_terr g A m c bs a k s w hr _ e he fun X hX => (hGT X hX).mono fun f X' ⟨h1, a', _, h3⟩ => ⟨h1, a', h3⟩).mono fun f w' h => ⟨_, hK, .inl ?_⟩
      unfold laterK
      rw [if_pos he]
      exact ⟨he, h⟩

end Go.Proofs.YtnjohmgacmcdnaaDoor
