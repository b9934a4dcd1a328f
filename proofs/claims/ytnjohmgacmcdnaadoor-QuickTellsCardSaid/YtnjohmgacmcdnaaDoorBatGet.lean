/-
  The contracts of layer 11's getTime, getValue.
-/
import Derived.Test.YtnjohmgacmcdnaaDoorBatXor
import Derived.Test.YtnjohmgacmcdnaaDoorNextC
import Derived.Test.YtnjohmgacmcdnaaDoorKinGet
namespace Go.Proofs.YtnjohmgacmcdnaaDoor
open Go.RowKit

theorem Wt.tabs {w w1 : World} {g m c a : Nat} {A : Option Addr} {bs : List Nat} (h : Wt w g A m c bs a w1) (hT : TabsW w) (hl : TabsLt g) : TabsW w1 := hT.grown h.2 hl

set_option maxRecDepth 20000 in
set_option maxHeartbeats 1000000 in
theorem btime_yes (g : Nat) (A : Option Addr) (m c : Nat) (bs : List Nat) (a : Nat) (s : KS) (w : World) (h : Rdr w g A m c bs a) (h0 : s.n = 0) (hy : 64 ≤ (restL bs a).length) :
    Calls Tryd.prog 40 #[.pointer (some ⟨g, 0, none⟩), (.agg #[.int .i64 (s.n : Int), .int .i64 s.t, .int .i64 s.d, .int .u64 (s.v : Int), .int .u64 (s.e : Int), .int .u64 (s.x.prev : Int), .int .i64 (s.x.lead : Int), .int .i64 (s.x.len : Int)])] w fun e w' => e = .returned (.tuple #[.int .i64 (sgnN (num (cut (restL bs a) 0 64)) 64), .nilIface]) ∧ Wt w g A m c bs (a + 64) w' := by
  have hg := h.lt
  have x3 := BoxL.new w [.int .i64 (s.n : Int), .int .i64 s.t, .int .i64 s.d, .int .u64 (s.v : Int), .int .u64 (s.e : Int), .int .u64 (s.x.prev : Int), .int .i64 (s.x.lead : Int), .int .i64 (s.x.len : Int)] 46
  have hV : Below w.heap.size w (w.alloc (.cells #[.int .i64 (s.n : Int), .int .i64 s.t, .int .i64 s.d, .int .u64 (s.v : Int), .int .u64 (s.e : Int), .int .u64 (s.x.prev : Int), .int .i64 (s.x.lead : Int), .int .i64 (s.x.len : Int)] 46)) := by repeat (first | with_reducible exact Below.refl _ _ | assumption | with_reducible refine Below.drew ?_ | with_reducible refine Below.alloc ?_ (by (first | assumption | omega | (simp; done) | (simp; omega))) _)
  have hb0 := (Wt.of h).below hV
  have h1 : ((s.n : Int) == 0) = true := by simp [h0]
  have hR := bword_yes g A m c bs a _ hb0.1 hy
  have hsg := sg_64 (num (cut (restL bs a) 0 64))
  generalize num (cut (restL bs a) 0 64) = x at *
  generalize sgnN x 64 = z at *
  clear h0 h hy
  go_enter Tryd.func40, Tryd.ntmps40
  go_wp2_with fail
  refine hR.mono ?_
  rintro e w1 ⟨rfl, hW⟩
  replace hW := hb0.trans hW
  go_wp2
  go_ret2
  exact ⟨by rw [← hsg]; rfl, hW⟩
set_option maxRecDepth 20000 in
set_option maxHeartbeats 1000000 in
theorem btime_no (g : Nat) (A : Option Addr) (m c : Nat) (bs : List Nat) (a : Nat) (s : KS) (w : World) (h : Rdr w g A m c bs a) (h0 : s.n = 0) (hy : (restL bs a).length < 64) :
    Calls Tryd.prog 40 #[.pointer (some ⟨g, 0, none⟩), (.agg #[.int .i64 (s.n : Int), .int .i64 s.t, .int .i64 s.d, .int .u64 (s.v : Int), .int .u64 (s.e : Int), .int .u64 (s.x.prev : Int), .int .i64 (s.x.lead : Int), .int .i64 (s.x.len : Int)])] w fun e w' => e = .returned (.tuple #[.int .i64 0, .iface 42 (.int .i64 2)]) ∧ Wt w g A m c bs a w' := by
  have hg := h.lt
  have x3 := BoxL.new w [.int .i64 (s.n : Int), .int .i64 s.t, .int .i64 s.d, .int .u64 (s.v : Int), .int .u64 (s.e : Int), .int .u64 (s.x.prev : Int), .int .i64 (s.x.lead : Int), .int .i64 (s.x.len : Int)] 46
  have hV : Below w.heap.size w (w.alloc (.cells #[.int .i64 (s.n : Int), .int .i64 s.t, .int .i64 s.d, .int .u64 (s.v : Int), .int .u64 (s.e : Int), .int .u64 (s.x.prev : Int), .int .i64 (s.x.lead : Int), .int .i64 (s.x.len : Int)] 46)) := by repeat (first | with_reducible exact Below.refl _ _ | assumption | with_reducible refine Below.drew ?_ | with_reducible refine Below.alloc ?_ (by (first | assumption | omega | (simp; done) | (simp; omega))) _)
  have hb0 := (Wt.of h).below hV
  have h1 : ((s.n : Int) == 0) = true := by simp [h0]
  have hR := bword_no g A m c bs a _ hb0.1 hy
  have hz : wrap64 (0 : Int) = 0 := by rw [w64_wrap]; decide
  clear h0 h hy
  go_enter Tryd.func40, Tryd.ntmps40
  go_wp2_with fail
  refine hR.mono ?_
  rintro e w1 ⟨rfl, hW⟩
  replace hW := hb0.trans hW
  go_wp2
  go_ret2
  exact ⟨rfl, hW⟩
set_option maxRecDepth 20000 in
set_option maxHeartbeats 1000000 in
theorem btime_later (g : Nat) (A : Option Addr) (m c : Nat) (bs : List Nat) (a : Nat) (s : KS) (w : World) (h : Rdr w g A m c bs a) (h0 : s.n ≠ 0) (hT : TabsW w) (hl : TabsLt g) :
    Calls Tryd.prog 40 #[.pointer (some ⟨g, 0, none⟩), (.agg #[.int .i64 (s.n : Int), .int .i64 s.t, .int .i64 s.d, .int .u64 (s.v : Int), .int .u64 (s.e : Int), .int .u64 (s.x.prev : Int), .int .i64 (s.x.lead : Int), .int .i64 (s.x.len : Int)])] w fun e w' => ∃ st n k a', DGets (restL bs a) st n k ∧ e = .returned (.tuple #[.int .i64 (w64 (s.t + s.d + st)), errV k]) ∧ (k = 0 → a' = a + n) ∧ Wt w g A m c bs a' w' := by
  have hg := h.lt
  have x3 := BoxL.new w [.int .i64 (s.n : Int), .int .i64 s.t, .int .i64 s.d, .int .u64 (s.v : Int), .int .u64 (s.e : Int), .int .u64 (s.x.prev : Int), .int .i64 (s.x.lead : Int), .int .i64 (s.x.len : Int)] 46
  have hV : Below w.heap.size w (w.alloc (.cells #[.int .i64 (s.n : Int), .int .i64 s.t, .int .i64 s.d, .int .u64 (s.v : Int), .int .u64 (s.e : Int), .int .u64 (s.x.prev : Int), .int .i64 (s.x.lead : Int), .int .i64 (s.x.len : Int)] 46)) := by repeat (first | with_reducible exact Below.refl _ _ | assumption | with_reducible refine Below.drew ?_ | with_reducible refine Below.alloc ?_ (by (first | assumption | omega | (simp; done) | (simp; omega))) _)
  have hb0 := (Wt.of h).below hV
  have h1 : ((s.n : Int) == 0) = false := by simp [h0]
  have hTV := hT.bel hV
  have hR := tget_any g A m c bs a _ hb0.1 hTV.room hTV.rows ⟨hl.1, hl.2.1⟩
  clear h0 h
  go_enter Tryd.func40, Tryd.ntmps40
  go_wp2_with fail
  refine hR.mono ?_
  rintro e w1 ⟨st, n, k, a', hd, rfl, hr1, hk, hg1⟩
  have hW1 : Wt _ g A m c bs a' w1 := ⟨hr1, hg1⟩
  replace x3 := hW1.box x3 hg
  replace hW1 := hb0.trans hW1
  have HD := Lib.hid hd
  have HK := Lib.hid hk
  obtain ⟨ev, HE⟩ : ∃ ev, Hid (errV k = ev) := ⟨_, Lib.hid rfl⟩
  rw [HE.out]
  have hw := sumT_wrap s.t s.d st
  obtain ⟨q0, q1, q2, q3, q4, q5, q6, q7⟩ := x3.get8
  clear hR hd hk hr1 hg1 x3 hb0 hV hTV
  go_wp2
  go_ret2
  exact ⟨st, n, k, a', HD.out, by rw [HE.out, ← hw]; rfl, HK.out, hW1⟩

/-- what getValue comes to, behind the first sample -/
def RetBV (w : World) (g : Nat) (A : Option Addr) (m c : Nat) (bs : List Nat) (a k : Nat) (s : KS) (e : Ending) (w' : World) : Prop :=
  ∃ v y n e2 a', VGets k s (restL bs a) v y n e2 ∧ e = .returned (.tuple #[.int .u64 ((v : Nat) : Int), (.agg #[.int .u64 (y.prev : Int), .int .i64 (y.lead : Int), .int .i64 (y.len : Int)]), errV e2]) ∧ (e2 = 0 → a' = a + n) ∧ Wt w g A m c bs a' w'
set_option maxRecDepth 20000 in
set_option maxHeartbeats 1000000 in
theorem bval_yes (g : Nat) (A : Option Addr) (m c : Nat) (bs : List Nat) (a k : Nat) (s : KS) (w : World) (h : Rdr w g A m c bs a) (h0 : s.n = 0) (hy : 64 ≤ (restL bs a).length) :
    Calls Tryd.prog 41 #[.int .i64 (k : Int), .pointer (some ⟨g, 0, none⟩), (.agg #[.int .i64 (s.n : Int), .int .i64 s.t, .int .i64 s.d, .int .u64 (s.v : Int), .int .u64 (s.e : Int), .int .u64 (s.x.prev : Int), .int .i64 (s.x.lead : Int), .int .i64 (s.x.len : Int)])] w fun e w' => e = .returned (.tuple #[.int .u64 ((num (cut (restL bs a) 0 64) : Nat) : Int), .agg #[.int .u64 0, .int .i64 0, .int .i64 0], .nilIface]) ∧ Wt w g A m c bs (a + 64) w' := by
  have hg := h.lt
  obtain ⟨hV, x5, x7⟩ := gv_boxes w s
  have hb0 := (Wt.of h).below hV
  have h1 : ((s.n : Int) == 0) = true := by simp [h0]
  have hR := bword_yes g A m c bs a _ hb0.1 hy
  generalize num (cut (restL bs a) 0 64) = x at *
  clear h0 h hy
  go_enter Tryd.func41, Tryd.ntmps41
  go_wp2_with fail
  refine hR.mono ?_
  rintro e w1 ⟨rfl, hW⟩
  replace x7 := hW.box x7 (by omega)
  replace hW := hb0.trans hW
  clear hR hb0 hV x5
  have z7 := x7.all3 (.int .u64 0) (.int .i64 0) (.int .i64 0)
  have hZ := hW.put3 hg (Nat.le_succ _) (.int .u64 0) (.int .i64 0) (.int .i64 0)
  obtain ⟨f0, f1, f2⟩ := x7.free3
  obtain ⟨y0, y1, y2⟩ := x7.get3
  clear x7 hW
  go_wp2
  clear f0 f1 f2 y0 y1 y2
  generalize (((w1.setCell ⟨w.heap.size + 1, 0, none⟩ (.int .u64 0)).setCell ⟨w.heap.size + 1, 1, none⟩ (.int .i64 0)).setCell ⟨w.heap.size + 1, 2, none⟩ (.int .i64 0)) = Z at *
  obtain ⟨u0, u1, u2⟩ := z7.get3
  refine bodyPost_ret (v := .tuple #[.int .u64 (x : Int), .agg #[.int .u64 0, .int .i64 0, .int .i64 0], .nilIface]) ?_ rfl ⟨rfl, hZ⟩
  simp [results, Tryd.results41, go_sem, u0, u1, u2]
set_option maxRecDepth 20000 in
set_option maxHeartbeats 1000000 in
theorem bval_no (g : Nat) (A : Option Addr) (m c : Nat) (bs : List Nat) (a k : Nat) (s : KS) (w : World) (h : Rdr w g A m c bs a) (h0 : s.n = 0) (hy : (restL bs a).length < 64) :
    Calls Tryd.prog 41 #[.int .i64 (k : Int), .pointer (some ⟨g, 0, none⟩), (.agg #[.int .i64 (s.n : Int), .int .i64 s.t, .int .i64 s.d, .int .u64 (s.v : Int), .int .u64 (s.e : Int), .int .u64 (s.x.prev : Int), .int .i64 (s.x.lead : Int), .int .i64 (s.x.len : Int)])] w fun e w' => e = .returned (.tuple #[.int .u64 0, .agg #[.int .u64 0, .int .i64 0, .int .i64 0], .iface 42 (.int .i64 2)]) ∧ Wt w g A m c bs a w' := by
  have hg := h.lt
  obtain ⟨hV, x5, x7⟩ := gv_boxes w s
  have hb0 := (Wt.of h).below hV
  have h1 : ((s.n : Int) == 0) = true := by simp [h0]
  have hR := bword_no g A m c bs a _ hb0.1 hy
  clear h0 h hy
  go_enter Tryd.func41, Tryd.ntmps41
  go_wp2_with fail
  refine hR.mono ?_
  rintro e w1 ⟨rfl, hW⟩
  replace x7 := hW.box x7 (by omega)
  replace hW := hb0.trans hW
  clear hR hb0 hV x5
  have z7 := x7.all3 (.int .u64 0) (.int .i64 0) (.int .i64 0)
  have hZ := hW.put3 hg (Nat.le_succ _) (.int .u64 0) (.int .i64 0) (.int .i64 0)
  obtain ⟨f0, f1, f2⟩ := x7.free3
  obtain ⟨y0, y1, y2⟩ := x7.get3
  clear x7 hW
  go_wp2
  clear f0 f1 f2 y0 y1 y2
  generalize (((w1.setCell ⟨w.heap.size + 1, 0, none⟩ (.int .u64 0)).setCell ⟨w.heap.size + 1, 1, none⟩ (.int .i64 0)).setCell ⟨w.heap.size + 1, 2, none⟩ (.int .i64 0)) = Z at *
  obtain ⟨u0, u1, u2⟩ := z7.get3
  refine bodyPost_ret (v := .tuple #[.int .u64 0, .agg #[.int .u64 0, .int .i64 0, .int .i64 0], .iface 42 (.int .i64 2)]) ?_ rfl ⟨rfl, hZ⟩
  simp [results, Tryd.results41, go_sem, u0, u1, u2]
set_option maxRecDepth 20000 in
set_option maxHeartbeats 1000000 in
theorem bval_ints (g : Nat) (A : Option Addr) (m c : Nat) (bs : List Nat) (a : Nat) (s : KS) (w : World) (h : Rdr w g A m c bs a) (h0 : s.n ≠ 0) (hT : TabsW w) (hl : TabsLt g) :
    Calls Tryd.prog 41 #[.int .i64 2, .pointer (some ⟨g, 0, none⟩), (.agg #[.int .i64 (s.n : Int), .int .i64 s.t, .int .i64 s.d, .int .u64 (s.v : Int), .int .u64 (s.e : Int), .int .u64 (s.x.prev : Int), .int .i64 (s.x.lead : Int), .int .i64 (s.x.len : Int)])] w (RetBV w g A m c bs a 2 s) := by
  have hg := h.lt
  obtain ⟨hV, x5, x7⟩ := gv_boxes w s
  have hb0 := (Wt.of h).below hV
  have h1 : ((s.n : Int) == 0) = false := by simp [h0]
  have hTV := hT.bel hV
  have hR := tget_any g A m c bs a _ hb0.1 hTV.room hTV.rows ⟨hl.1, hl.2.1⟩
  clear h0 h
  go_enter Tryd.func41, Tryd.ntmps41
  go_wp2_with fail
  refine hR.mono ?_
  rintro e w1 ⟨st, n, e2, a', hd, rfl, hr1, hk, hg1⟩
  have HV : Hid (VGets 2 s (restL bs a) (un64 ((s.v : Int) + (s.e : Int) + st)) zeroX n e2) := Lib.hid (by unfold VGets; rw [if_neg (by omega)]; exact ⟨st, hd, rfl, rfl⟩)
  have hw := sumE_wrap s.v s.e st
  have hW : Wt _ g A m c bs a' w1 := ⟨hr1, hg1⟩
  replace x7 := hW.box x7 (by omega)
  replace x5 := hW.box x5 (by omega)
  replace hW := hb0.trans hW
  have HK := Lib.hid hk
  obtain ⟨ev, HE⟩ : ∃ ev, Hid (errV e2 = ev) := ⟨_, Lib.hid rfl⟩
  rw [HE.out]
  obtain ⟨q0, q1, q2, q3, q4, q5, q6, q7⟩ := x5.get8
  generalize un64 ((s.v : Int) + (s.e : Int) + st) = v at *
  clear hR hd hk hr1 hg1 x5 hb0 hV hTV
  have z7 := x7.all3 (.int .u64 0) (.int .i64 0) (.int .i64 0)
  have hZ := hW.put3 hg (Nat.le_succ _) (.int .u64 0) (.int .i64 0) (.int .i64 0)
  obtain ⟨f0, f1, f2⟩ := x7.free3
  obtain ⟨y0, y1, y2⟩ := x7.get3
  clear x7 hW
  go_wp2
  clear f0 f1 f2 y0 y1 y2
  generalize (((w1.setCell ⟨w.heap.size + 1, 0, none⟩ (.int .u64 0)).setCell ⟨w.heap.size + 1, 1, none⟩ (.int .i64 0)).setCell ⟨w.heap.size + 1, 2, none⟩ (.int .i64 0)) = Z at *
  obtain ⟨u0, u1, u2⟩ := z7.get3
  refine bodyPost_ret (v := .tuple #[.int .u64 (v : Int), (.agg #[.int .u64 (zeroX.prev : Int), .int .i64 (zeroX.lead : Int), .int .i64 (zeroX.len : Int)]), ev]) ?_ rfl ⟨v, zeroX, n, e2, a', HV.out, by rw [HE.out], HK.out, hZ⟩
  simp [results, Tryd.results41, go_sem, u0, u1, u2, zeroX]
set_option maxRecDepth 20000 in
set_option maxHeartbeats 1000000 in
theorem bval_xor (g : Nat) (A : Option Addr) (m c : Nat) (bs : List Nat) (a : Nat) (s : KS) (w : World) (h : Rdr w g A m c bs a) (h0 : s.n ≠ 0) (hs : s.May) (hT : TabsW w) (hl : TabsLt g) :
    Calls Tryd.prog 41 #[.int .i64 1, .pointer (some ⟨g, 0, none⟩), (.agg #[.int .i64 (s.n : Int), .int .i64 s.t, .int .i64 s.d, .int .u64 (s.v : Int), .int .u64 (s.e : Int), .int .u64 (s.x.prev : Int), .int .i64 (s.x.lead : Int), .int .i64 (s.x.len : Int)])] w (RetBV w g A m c bs a 1 s) := by
  have hg := h.lt
  obtain ⟨hV, x5, x7⟩ := gv_boxes w s
  have hb0 := (Wt.of h).below hV
  have h1 : ((s.n : Int) == 0) = false := by simp [h0]
  have hTV := hT.bel hV
  have hR := bxor_any g A m c bs a s.x _ hb0.1 hs.x hTV.tz hl.2.2
  unfold RetGX at hR
  have HV : Hid (VGets 1 s (restL bs a) (getX s.x (restL bs a)).v (getX s.x (restL bs a)).s (getX s.x (restL bs a)).n (getX s.x (restL bs a)).e) := Lib.hid ⟨rfl, rfl, rfl, rfl⟩
  rw [getX_v] at HV
  generalize getX s.x (restL bs a) = R at *
  obtain ⟨ev, HE⟩ : ∃ ev, Hid (errV R.e = ev) := ⟨_, Lib.hid rfl⟩
  rw [HE.out] at hR
  obtain ⟨q0, q1, q2, q3, q4, q5, q6, q7⟩ := x5.get8
  clear h0 h
  go_enter Tryd.func41, Tryd.ntmps41
  go_wp2_with fail
  refine hR.mono ?_
  rintro e w2 ⟨a', rfl, hk, hW⟩
  have HK := Lib.hid hk
  replace x7 := hW.box x7 (by omega)
  replace hW := hb0.trans hW
  clear hR hk hb0 hV hTV x5 q0 q1 q2 q3 q4 q5 q6 q7
  go_upto_region 6 with fail
  have hal : Below w2.heap.size w2 (w2.alloc (.cells #[.int .u64 (R.s.prev : Int), .int .i64 (R.s.lead : Int), .int .i64 (R.s.len : Int)] 44)) := by repeat (first | with_reducible exact Below.refl _ _ | assumption | with_reducible refine Below.drew ?_ | with_reducible refine Below.alloc ?_ (by (first | assumption | omega | (simp; done) | (simp; omega))) _)
  have x11 := BoxL.new w2 [.int .u64 (R.s.prev : Int), .int .i64 (R.s.lead : Int), .int .i64 (R.s.len : Int)] 44
  have h711 := x7.lt
  replace x7 := x7.below hal
  replace hW := hW.below hal
  change BoxL (w2.alloc (.cells #[.int .u64 (R.s.prev : Int), .int .i64 (R.s.lead : Int), .int .i64 (R.s.len : Int)] 44)) w2.heap.size [.int .u64 (R.s.prev : Int), .int .i64 (R.s.lead : Int), .int .i64 (R.s.len : Int)] at x11
  generalize w2.alloc (.cells #[.int .u64 (R.s.prev : Int), .int .i64 (R.s.lead : Int), .int .i64 (R.s.len : Int)] 44) = w1 at *
  generalize w2.heap.size = g11 at *
  clear hal
  clear w2
  have z7 := x7.all3 (.int .u64 (R.s.prev : Int)) (.int .i64 (R.s.lead : Int)) (.int .i64 (R.s.len : Int))
  have hZ := hW.put3 hg (Nat.le_succ _) (.int .u64 (R.s.prev : Int)) (.int .i64 (R.s.lead : Int)) (.int .i64 (R.s.len : Int))
  obtain ⟨q0, q1, q2⟩ := x11.get3
  obtain ⟨q3, q4, q5⟩ := x11.drew.get3
  obtain ⟨f0, f1, f2⟩ := x7.free3
  obtain ⟨y0, y1, y2⟩ := x7.get3
  obtain ⟨f3, f4, f5⟩ := x7.drew.free3
  obtain ⟨y3, y4, y5⟩ := x7.drew.get3
  clear x7 hW x11
  go_region
  clear q0 q1 q2 q3 q4 q5 f0 f1 f2 f3 f4 f5 y0 y1 y2 y3 y4 y5
  replace z7 := z7.drew
  replace hZ := hZ.below ((Below.refl _ _).drew)
  generalize (((w1.setCell ⟨w.heap.size + 1, 0, none⟩ (.int .u64 (R.s.prev : Int))).setCell ⟨w.heap.size + 1, 1, none⟩ (.int .i64 (R.s.lead : Int))).setCell ⟨w.heap.size + 1, 2, none⟩ (.int .i64 (R.s.len : Int))).drew = Z at *
  obtain ⟨u0, u1, u2⟩ := z7.get3
  go_wp2
  refine bodyPost_ret (v := .tuple #[.int .u64 (R.s.prev : Int), (.agg #[.int .u64 (R.s.prev : Int), .int .i64 (R.s.lead : Int), .int .i64 (R.s.len : Int)]), ev]) ?_ rfl ⟨_, _, _, _, a', HV.out, by rw [HE.out], HK.out, hZ⟩
  simp [results, Tryd.results41, go_sem, u0, u1, u2]

theorem bval_later (k : Nat) (hk : k = 1 ∨ k = 2) (g : Nat) (A : Option Addr) (m c : Nat) (bs : List Nat) (a : Nat) (s : KS) (w : World) (h : Rdr w g A m c bs a) (h0 : s.n ≠ 0) (hs : s.May) (hT : TabsW w) (hl : TabsLt g) :
    Calls Tryd.prog 41 #[.int .i64 (k : Int), .pointer (some ⟨g, 0, none⟩), (.agg #[.int .i64 (s.n : Int), .int .i64 s.t, .int .i64 s.d, .int .u64 (s.v : Int), .int .u64 (s.e : Int), .int .u64 (s.x.prev : Int), .int .i64 (s.x.lead : Int), .int .i64 (s.x.len : Int)])] w (RetBV w g A m c bs a k s) := by
  rcases hk with rfl | rfl
  · exact bval_xor g A m c bs a s w h h0 hs hT hl
  · exact bval_ints g A m c bs a s w h h0 hT hl

end Go.Proofs.YtnjohmgacmcdnaaDoor
