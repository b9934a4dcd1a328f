/-
  The contract of layer 11's getXor: what the bits ahead of a reader begin with, as a value's code in a state.
-/
import Derived.Test.YtnjohmgacmcdnaaDoorBatRd
import Derived.Test.YtnjohmgacmcdnaaDoorXorAll
import Derived.Test.YtnjohmgacmcdnaaDoorXorGets
import Derived.Test.YtnjohmgacmcdnaaDoorXorEq
import Derived.Test.YtnjohmgacmcdnaaDoorCode
namespace Go.Proofs.YtnjohmgacmcdnaaDoor
open Go.RowKit

theorem TzW.grown' {w w' : World} {g : Nat} (h : TzW w) (hg : w.grownBy w' (some g)) (h1 : 2 < g) : TzW w' :=
  ⟨by have := hg.size; have := h.size; omega, fun t ht => (World.cell?_of_block (a := ⟨2, 2 ^ t * 285870213051353865 % 18446744073709551616 / 288230376151711744, none⟩) (hg.block _ h.size (by simp; omega))).trans (h.cell t ht)⟩
theorem run_neq_stateB (w : World) (a b c a' b' c' : Int) (h : ¬ (a = a' ∧ b = b' ∧ c = c')) : (binOp .neq 44 (.agg #[.int .u64 a, .int .i64 b, .int .i64 c]) (.agg #[.int .u64 a', .int .i64 b', .int .i64 c'])).run Tryd.prog w = .ok (.bool true) w := by
  rw [run_neq_struct, run_equalIn_agg _ _ _ _ _ state_fields state_held]
  have h2 : ¬ ((a = a' ∧ b = b') ∧ c = c') := fun e => h ⟨e.1.1, e.1.2, e.2⟩
  simp [Op.eqFields, go_sem]
  omega

/-- what getXor comes to -/
def RetGX (w : World) (g : Nat) (A : Option Addr) (m c : Nat) (bs : List Nat) (a : Nat) (s : XS) (e : Ending) (w' : World) : Prop :=
  ∃ a', e = .returned (.tuple #[(.agg #[.int .u64 ((getX s (restL bs a)).s.prev : Int), .int .i64 ((getX s (restL bs a)).s.lead : Int), .int .i64 ((getX s (restL bs a)).s.len : Int)]), errV (getX s (restL bs a)).e]) ∧ ((getX s (restL bs a)).e = 0 → a' = a + (getX s (restL bs a)).n) ∧ Wt w g A m c bs a' w'
theorem RetGX.bad {w : World} {g : Nat} {A : Option Addr} {m c : Nat} {bs : List Nat} {a a' : Nat} {s : XS} {w' : World} {k : Nat} (h : getX s (restL bs a) = badX k) (hk : k ≠ 0) (hw : Wt w g A m c bs a' w') :
    RetGX w g A m c bs a s (.returned (.tuple #[.agg #[.int .u64 0, .int .i64 0, .int .i64 0], .iface 42 (.int .i64 (k : Int))])) w' := by
  refine ⟨a', ?_, fun e => ?_, hw⟩
  · have e : errV k = .iface 42 (.int .i64 (k : Int)) := by unfold errV; rw [if_neg hk]
    rw [h]
    show _ = Ending.returned (.tuple #[.agg #[.int .u64 0, .int .i64 0, .int .i64 0], errV k])
    rw [e]
  · rw [h] at e
    exact absurd e hk

set_option maxRecDepth 20000 in
set_option maxHeartbeats 1000000 in
theorem bxor_short (g : Nat) (A : Option Addr) (m c : Nat) (bs : List Nat) (a : Nat) (s : XS) (w : World) (h : Rdr w g A m c bs a) (c1 : (restL bs a).length = 0) :
    Calls Tryd.prog 57 #[.pointer (some ⟨g, 0, none⟩), (.agg #[.int .u64 (s.prev : Int), .int .i64 (s.lead : Int), .int .i64 (s.len : Int)])] w (RetGX w g A m c bs a s) := by
  have hg := h.lt
  obtain ⟨hV, x3, x4⟩ := two_boxes w s
  have hb0 := (Wt.of h).below hV
  have HB : Hid (getX s (restL bs a) = badX 2) := Lib.hid (by unfold getX; rw [if_pos c1])
  have hR := rno g A m c bs a 0 _ 1 hb0.1 (by omega) (by omega)
  clear h c1
  go_enter Tryd.func57, Tryd.ntmps57
  go_wp2_with fail
  refine hR.mono ?_
  rintro e w1 ⟨rfl, hW⟩
  replace x3 := hW.box x3 hg
  replace x4 := hW.box x4 (by omega)
  replace hW := hb0.trans hW
  clear hR hV hb0 x3
  have z4 := x4.all3 (.int .u64 0) (.int .i64 0) (.int .i64 0)
  have hZ := hW.put3 hg (Nat.le_succ _) (.int .u64 0) (.int .i64 0) (.int .i64 0)
  obtain ⟨f0, f1, f2⟩ := x4.free3
  obtain ⟨y0, y1, y2⟩ := x4.get3
  clear x4 hW
  go_wp2
  clear f0 f1 f2 y0 y1 y2
  generalize (((w1.setCell ⟨w.heap.size + 1, 0, none⟩ (.int .u64 0)).setCell ⟨w.heap.size + 1, 1, none⟩ (.int .i64 0)).setCell ⟨w.heap.size + 1, 2, none⟩ (.int .i64 0)) = Z at *
  obtain ⟨u0, u1, u2⟩ := z4.get3
  refine bodyPost_ret (v := .tuple #[.agg #[.int .u64 0, .int .i64 0, .int .i64 0], .iface 42 (.int .i64 2)]) ?_ rfl (RetGX.bad (k := 2) HB.out (by omega) hZ)
  simp [results, Tryd.results57, go_sem, u0, u1, u2]

set_option maxRecDepth 20000 in
set_option maxHeartbeats 1000000 in
theorem bxor_same (g : Nat) (A : Option Addr) (m c : Nat) (bs : List Nat) (a : Nat) (s : XS) (w : World) (h : Rdr w g A m c bs a) (c1 : (restL bs a).length ≠ 0) (c2 : (restL bs a).getD 0 false = false) :
    Calls Tryd.prog 57 #[.pointer (some ⟨g, 0, none⟩), (.agg #[.int .u64 (s.prev : Int), .int .i64 (s.lead : Int), .int .i64 (s.len : Int)])] w (RetGX w g A m c bs a s) := by
  have hg := h.lt
  obtain ⟨hV, x3, x4⟩ := two_boxes w s
  have hb0 := (Wt.of h).below hV
  have HB : Hid (getX s (restL bs a) = ⟨s.prev, s, 1, 0⟩) := Lib.hid (by unfold getX; rw [if_neg c1, if_pos c2])
  have hR := rbit g A m c bs a 0 _ 0 hb0.1 (by omega) (by rw [c2]; rfl)
  clear h c1 c2
  go_enter Tryd.func57, Tryd.ntmps57
  go_wp2_with fail
  refine hR.mono ?_
  rintro e w1 ⟨rfl, hW⟩
  replace x3 := hW.box x3 hg
  replace x4 := hW.box x4 (by omega)
  replace hW := hb0.went hW
  clear hR hV hb0
  obtain ⟨q0, q1, q2⟩ := x3.get3
  have z4 := x4.all3 (.int .u64 (s.prev : Int)) (.int .i64 (s.lead : Int)) (.int .i64 (s.len : Int))
  have hZ := hW.put3 hg (Nat.le_succ _) (.int .u64 (s.prev : Int)) (.int .i64 (s.lead : Int)) (.int .i64 (s.len : Int))
  obtain ⟨f0, f1, f2⟩ := x4.free3
  obtain ⟨y0, y1, y2⟩ := x4.get3
  clear x3 x4 hW
  go_wp2
  clear f0 f1 f2 y0 y1 y2 q0 q1 q2
  generalize (((w1.setCell ⟨w.heap.size + 1, 0, none⟩ (.int .u64 (s.prev : Int))).setCell ⟨w.heap.size + 1, 1, none⟩ (.int .i64 (s.lead : Int))).setCell ⟨w.heap.size + 1, 2, none⟩ (.int .i64 (s.len : Int))) = Z at *
  obtain ⟨u0, u1, u2⟩ := z4.get3
  refine bodyPost_ret (v := .tuple #[(.agg #[.int .u64 (s.prev : Int), .int .i64 (s.lead : Int), .int .i64 (s.len : Int)]), .nilIface]) ?_ rfl ⟨_, by rw [HB.out]; rfl, fun _ => by rw [HB.out]; rfl, hZ⟩
  simp [results, Tryd.results57, go_sem, u0, u1, u2]

set_option maxRecDepth 20000 in
set_option maxHeartbeats 1000000 in
theorem bxor_nowin (g : Nat) (A : Option Addr) (m c : Nat) (bs : List Nat) (a : Nat) (s : XS) (w : World) (h : Rdr w g A m c bs a) (hs : s.May) (c1 : (restL bs a).length ≠ 0) (c2 : (restL bs a).getD 0 false = true) (c3 : (winX s (restL bs a)).e ≠ 0) :
    Calls Tryd.prog 57 #[.pointer (some ⟨g, 0, none⟩), (.agg #[.int .u64 (s.prev : Int), .int .i64 (s.lead : Int), .int .i64 (s.len : Int)])] w (RetGX w g A m c bs a s) := by
  have hg := h.lt
  obtain ⟨hV, x3, x4⟩ := two_boxes w s
  have hb0 := (Wt.of h).below hV
  have HB := Lib.hid ((getX_win hs c1 c2).1 c3)
  have HC := Lib.hid c3
  have hR := rbit g A m c bs a 0 _ 1 hb0.1 (by omega) (by rw [c2]; rfl)
  have hR2 := fun X hX => bwin_any g A m c bs a s X hX c1
  unfold RetWin at hR2
  clear h c1 c2
  go_enter Tryd.func57, Tryd.ntmps57
  go_wp2_with fail
  refine hR.mono ?_
  rintro e w1 ⟨rfl, hW⟩
  replace x3 := hW.box x3 hg
  replace x4 := hW.box x4 (by omega)
  replace hW := hb0.went hW
  clear hR hV hb0
  obtain ⟨q0, q1, q2⟩ := x3.get3
  go_wp2_with fail
  refine (hR2 _ hW.1).mono ?_
  clear q0 q1 q2 hR2
  clear c3
  rintro e w2 (⟨_, rfl, a2, hW2⟩ | ⟨h0, _⟩)
  case inr => exact absurd h0 HC.out
  generalize (winX s (restL bs a)).e = k at *
  replace x4 := hW2.box x4 (by omega)
  replace hW := hW.trans hW2
  clear x3 hW2
  clear w1
  go_upto_region 8 with fail
  have hal : Below w2.heap.size w2 (w2.alloc (.cells #[.int .u64 0, .int .i64 0, .int .i64 0] 44)) := by repeat (first | with_reducible exact Below.refl _ _ | assumption | with_reducible refine Below.drew ?_ | with_reducible refine Below.alloc ?_ (by (first | assumption | omega | (simp; done) | (simp; omega))) _)
  replace x4 := x4.below hal
  replace hW := hW.below hal
  generalize w2.alloc (.cells #[.int .u64 0, .int .i64 0, .int .i64 0] 44) = w1 at *
  clear hal
  have z4 := x4.all3 (.int .u64 0) (.int .i64 0) (.int .i64 0)
  have hZ := hW.put3 hg (Nat.le_succ _) (.int .u64 0) (.int .i64 0) (.int .i64 0)
  obtain ⟨f0, f1, f2⟩ := x4.free3
  obtain ⟨y0, y1, y2⟩ := x4.get3
  clear x4 hW
  go_wp2
  clear f0 f1 f2 y0 y1 y2
  generalize (((w1.setCell ⟨w.heap.size + 1, 0, none⟩ (.int .u64 0)).setCell ⟨w.heap.size + 1, 1, none⟩ (.int .i64 0)).setCell ⟨w.heap.size + 1, 2, none⟩ (.int .i64 0)) = Z at *
  obtain ⟨u0, u1, u2⟩ := z4.get3
  refine bodyPost_ret (v := .tuple #[.agg #[.int .u64 0, .int .i64 0, .int .i64 0], .iface 42 (.int .i64 (k : Int))]) ?_ rfl (RetGX.bad (k := k) HB.out HC.out hZ)
  simp [results, Tryd.results57, go_sem, u0, u1, u2]

theorem shl_word {y k x : Nat} (h : x ≤ 18446744073709551615) (e : y * 2 ^ k = x) : IntKind.u64.wrap ((y : Int) * 2 ^ k) = (x : Int) := by
  subst e
  rw [← wrap_u64 _ h]
  simp
set_option maxRecDepth 20000 in
set_option maxHeartbeats 1000000 in
theorem bxor_cut (g : Nat) (A : Option Addr) (m c : Nat) (bs : List Nat) (a : Nat) (s : XS) (w : World) (h : Rdr w g A m c bs a) (hs : s.May) (c1 : (restL bs a).length ≠ 0) (c2 : (restL bs a).getD 0 false = true) (c3 : (winX s (restL bs a)).e = 0)
    (c4 : (restL bs a).length < (winX s (restL bs a)).head + (winX s (restL bs a)).len) :
    Calls Tryd.prog 57 #[.pointer (some ⟨g, 0, none⟩), (.agg #[.int .u64 (s.prev : Int), .int .i64 (s.lead : Int), .int .i64 (s.len : Int)])] w (RetGX w g A m c bs a s) := by
  have hg := h.lt
  obtain ⟨hV, x3, x4⟩ := two_boxes w s
  have hb0 := (Wt.of h).below hV
  have HI := Lib.hid ((getX_win hs c1 c2).2 c3)
  obtain ⟨r1, r2, r3, _⟩ := winX_lead (p := restL bs a) hs
  have HC := Lib.hid c3
  clear c3
  have hR := rbit g A m c bs a 0 _ 1 hb0.1 (by omega) (by rw [c2]; rfl)
  have hR2 := fun X hX => bwin_any g A m c bs a s X hX c1
  unfold RetWin at hR2
  clear h c1 c2
  go_enter Tryd.func57, Tryd.ntmps57
  go_wp2_with fail
  refine hR.mono ?_
  rintro e w1 ⟨rfl, hW⟩
  replace x3 := hW.box x3 hg
  replace x4 := hW.box x4 (by omega)
  replace hW := hb0.went hW
  clear hR hV hb0
  obtain ⟨q0, q1, q2⟩ := x3.get3
  go_wp2_with fail
  refine (hR2 _ hW.1).mono ?_
  clear q0 q1 q2 hR2
  rintro e w2 (⟨h0, _⟩ | ⟨_, rfl, hW2⟩)
  case inl => exact absurd HC.out h0
  generalize winX s (restL bs a) = r at *
  replace x3 := hW2.box x3 hg
  replace x4 := hW2.box x4 (by omega)
  replace hW := hW.trans hW2
  clear hW2
  clear w1
  go_upto_region 9 with fail
  have hal : Below w2.heap.size w2 (w2.alloc (.cells #[.int .u64 (s.prev : Int), .int .i64 (r.lead : Int), .int .i64 (r.len : Int)] 44)) := by repeat (first | with_reducible exact Below.refl _ _ | assumption | with_reducible refine Below.drew ?_ | with_reducible refine Below.alloc ?_ (by (first | assumption | omega | (simp; done) | (simp; omega))) _)
  have x8 := BoxL.new w2 [.int .u64 (s.prev : Int), .int .i64 (r.lead : Int), .int .i64 (r.len : Int)] 44
  have h48 := x4.lt
  replace x3 := x3.below hal
  replace x4 := x4.below hal
  replace hW := hW.below hal
  change BoxL (w2.alloc (.cells #[.int .u64 (s.prev : Int), .int .i64 (r.lead : Int), .int .i64 (r.len : Int)] 44)) w2.heap.size [.int .u64 (s.prev : Int), .int .i64 (r.lead : Int), .int .i64 (r.len : Int)] at x8
  generalize w2.alloc (.cells #[.int .u64 (s.prev : Int), .int .i64 (r.lead : Int), .int .i64 (r.len : Int)] 44) = w1 at *
  generalize w2.heap.size = g8 at *
  clear hal
  clear w2
  obtain ⟨q0, q1, q2⟩ := x8.get3
  have HB := Lib.hid (HI.out.short c4)
  have hR := rno g A m c bs a r.head w1 r.len hW.1 r2 c4
  clear c4 r1 r2 r3
  go_wp2_with fail
  refine hR.mono ?_
  rintro e w2 ⟨rfl, hW2⟩
  replace x4 := hW2.box x4 (by omega)
  replace hW := hW.trans hW2
  clear q0 q1 q2 hR hW2 x3 x8
  clear w1
  obtain ⟨w1, rfl⟩ : ∃ X, X = w2 := ⟨_, rfl⟩
  have z4 := x4.all3 (.int .u64 0) (.int .i64 0) (.int .i64 0)
  have hZ := hW.put3 hg (Nat.le_succ _) (.int .u64 0) (.int .i64 0) (.int .i64 0)
  obtain ⟨f0, f1, f2⟩ := x4.free3
  obtain ⟨y0, y1, y2⟩ := x4.get3
  clear x4 hW
  go_wp2
  clear f0 f1 f2 y0 y1 y2
  generalize (((w1.setCell ⟨w.heap.size + 1, 0, none⟩ (.int .u64 0)).setCell ⟨w.heap.size + 1, 1, none⟩ (.int .i64 0)).setCell ⟨w.heap.size + 1, 2, none⟩ (.int .i64 0)) = Z at *
  obtain ⟨u0, u1, u2⟩ := z4.get3
  refine bodyPost_ret (v := .tuple #[.agg #[.int .u64 0, .int .i64 0, .int .i64 0], .iface 42 (.int .i64 2)]) ?_ rfl (RetGX.bad (k := 2) HB.out (by omega) hZ)
  simp [results, Tryd.results57, go_sem, u0, u1, u2]

set_option maxRecDepth 20000 in
set_option maxHeartbeats 1000000 in
theorem bxor_form (g : Nat) (A : Option Addr) (m c : Nat) (bs : List Nat) (a : Nat) (s : XS) (w : World) (h : Rdr w g A m c bs a) (hs : s.May) (hT : TzW w) (hTg : 2 < g) (c1 : (restL bs a).length ≠ 0) (c2 : (restL bs a).getD 0 false = true) (c3 : (winX s (restL bs a)).e = 0)
    (c4 : (winX s (restL bs a)).head + (winX s (restL bs a)).len ≤ (restL bs a).length)
    (c5 : ¬ asksX s (winX s (restL bs a)).lead (winX s (restL bs a)).len (winX s (restL bs a)).head (wordX (restL bs a) (winX s (restL bs a)).head (winX s (restL bs a)).lead (winX s (restL bs a)).len)) :
    Calls Tryd.prog 57 #[.pointer (some ⟨g, 0, none⟩), (.agg #[.int .u64 (s.prev : Int), .int .i64 (s.lead : Int), .int .i64 (s.len : Int)])] w (RetGX w g A m c bs a s) := by
  have HYN := Lib.hid c5
  clear c5
  have hg := h.lt
  obtain ⟨hV, x3, x4⟩ := two_boxes w s
  have hb0 := (Wt.of h).below hV
  have HI := Lib.hid ((getX_win hs c1 c2).2 c3)
  obtain ⟨r1, r2, r3, _⟩ := winX_lead (p := restL bs a) hs
  have HC := Lib.hid c3
  clear c3
  have hR := rbit g A m c bs a 0 _ 1 hb0.1 (by omega) (by rw [c2]; rfl)
  have hR2 := fun X hX => bwin_any g A m c bs a s X hX c1
  unfold RetWin at hR2
  clear h c1 c2
  go_enter Tryd.func57, Tryd.ntmps57
  go_wp2_with fail
  refine hR.mono ?_
  rintro e w1 ⟨rfl, hW⟩
  replace x3 := hW.box x3 hg
  replace x4 := hW.box x4 (by omega)
  replace hW := hb0.went hW
  clear hR hV hb0
  obtain ⟨q0, q1, q2⟩ := x3.get3
  go_wp2_with fail
  refine (hR2 _ hW.1).mono ?_
  clear q0 q1 q2 hR2
  rintro e w2 (⟨h0, _⟩ | ⟨_, rfl, hW2⟩)
  case inl => exact absurd HC.out h0
  generalize winX s (restL bs a) = r at *
  replace x3 := hW2.box x3 hg
  replace x4 := hW2.box x4 (by omega)
  replace hW := hW.trans hW2
  clear hW2
  clear w1
  go_upto_region 9 with fail
  have hal : Below w2.heap.size w2 (w2.alloc (.cells #[.int .u64 (s.prev : Int), .int .i64 (r.lead : Int), .int .i64 (r.len : Int)] 44)) := by repeat (first | with_reducible exact Below.refl _ _ | assumption | with_reducible refine Below.drew ?_ | with_reducible refine Below.alloc ?_ (by (first | assumption | omega | (simp; done) | (simp; omega))) _)
  have x8 := BoxL.new w2 [.int .u64 (s.prev : Int), .int .i64 (r.lead : Int), .int .i64 (r.len : Int)] 44
  have h48 := x4.lt
  replace x3 := x3.below hal
  replace x4 := x4.below hal
  replace hW := hW.below hal
  change BoxL (w2.alloc (.cells #[.int .u64 (s.prev : Int), .int .i64 (r.lead : Int), .int .i64 (r.len : Int)] 44)) w2.heap.size [.int .u64 (s.prev : Int), .int .i64 (r.lead : Int), .int .i64 (r.len : Int)] at x8
  generalize w2.alloc (.cells #[.int .u64 (s.prev : Int), .int .i64 (r.lead : Int), .int .i64 (r.len : Int)] 44) = w1 at *
  generalize w2.heap.size = g8 at *
  clear hal
  clear w2
  obtain ⟨q0, q1, q2⟩ := x8.get3
  have HB := Lib.hid (HI.out.no c4 HYN.out)
  have hR := rnum g A m c bs a r.head w1 r.len hW.1 r2 c4
  obtain ⟨x, HX⟩ : ∃ x, Hid (wordX (restL bs a) r.head r.lead r.len = x) := ⟨_, Lib.hid rfl⟩
  have hxl : x ≤ 18446744073709551615 := by rw [← HX.out]; exact wordX_le _ HI.out.in_
  have hin := HI.out.in_
  obtain ⟨k, hk⟩ : ∃ k, 64 - r.lead - r.len = k := ⟨_, rfl⟩
  have HY : Hid (num (cut (restL bs a) r.head r.len) * 2 ^ k = x) := Lib.hid (by rw [← HX.out, ← hk]; rfl)
  have HR := Lib.hid hR
  generalize num (cut (restL bs a) r.head r.len) = y at *
  have hsub : 64 - (r.lead : Int) - (r.len : Int) = (k : Int) := by omega
  have hshl := shl_word hxl HY.out
  have hxor := u64_xor_nat s.prev x (by have := hs.p; omega) (by omega)
  have hv := xor_lt hs.p hxl
  rw [HX.out] at HYN
  try rw [HX.out] at HB
  unfold asksX at HYN
  clear hR HY HX hk
  clear c4
  go_wp2_with fail
  refine HR.out.mono ?_
  rintro e w2 ⟨rfl, hW2⟩
  replace x3 := hW2.box x3 hg
  replace x4 := hW2.box x4 (by omega)
  replace x8 := hW2.box x8 (by omega)
  replace hW := hW.went hW2
  clear q0 q1 q2 HR hW2
  clear w1
  generalize s.prev ^^^ x = v at *
  go_upto_region 12 with fail
  obtain ⟨q0, q1, q2⟩ := x8.get3
  obtain ⟨d0, d1, d2⟩ := x8.free3
  obtain ⟨q3, q4, q5⟩ := x8.drew.get3
  obtain ⟨d3, d4, d5⟩ := x8.drew.free3
  have hC := fun X hX => xcode_any s.prev s.lead s.len v X hs hv hX
  unfold RetX at hC
  change ∀ X, TzW X → Calls Tryd.prog 50 #[(.agg #[.int .u64 (s.prev : Int), .int .i64 (s.lead : Int), .int .i64 (s.len : Int)]), .int .u64 (v : Int)] X (fun e w' => ∃ A c, e = .returned (.tuple #[.agg #[.slice A (pack (codeX s v)).length c, .int .i64 (((codeX s v).length : Nat) : Int)], .agg #[.int .u64 (v : Int), .int .i64 ((nextX s v).lead : Int), .int .i64 ((nextX s v).len : Int)]]) ∧ Own X w' (.slice A (pack (codeX s v)).length c) (pack (codeX s v))) at hC
  have hM := codeX_pos hs hv
  have hN := nextX_may hs hv
  have hna := hN.a
  have hnb := hN.b
  clear hN
  generalize codeX s v = cd at *
  generalize (nextX s v).lead = l at *
  generalize (nextX s v).len = n at *
  obtain ⟨M, HM⟩ : ∃ M, Hid (cd.length = M) := ⟨_, Lib.hid rfl⟩
  rw [HM.out] at HYN hM
  go_region
  have hsz : w2.heap.size ≤ (w2.setCell ⟨g8, 0, none⟩ (.int .u64 (v : Int))).drew.heap.size := by simp
  clear q0 q1 q2 q3 q4 q5 d0 d1 d2 d3 d4 d5 hsub hshl hxor
  have h38 : w.heap.size ≠ g8 := by omega
  have h48' : w.heap.size + 1 ≠ g8 := by omega
  replace x3 := (x3.oth h38 0 (.int .u64 (v : Int))).drew
  replace x4 := (x4.oth h48' 0 (.int .u64 (v : Int))).drew
  replace x8 : BoxL (w2.setCell ⟨g8, 0, none⟩ (.int .u64 (v : Int))).drew g8 [.int .u64 (v : Int), .int .i64 (r.lead : Int), .int .i64 (r.len : Int)] := (x8.put 0 (.int .u64 (v : Int))).drew
  replace hW := (hW.put hg (d := g8) (by omega) 0 (.int .u64 (v : Int))).below ((Below.refl _ _).drew)
  generalize (w2.setCell ⟨g8, 0, none⟩ (.int .u64 (v : Int))).drew = w1 at *
  clear hsz
  clear w2
  obtain ⟨q0, q1, q2⟩ := x8.get3
  obtain ⟨q3, q4, q5⟩ := x3.get3
  go_wp2_with fail
  refine (hC _ (hT.grown' hW.2 hTg)).mono ?_
  rintro e w2 ⟨A2, c2, rfl, hown⟩
  have hb2 := hown.bel
  rw [HM.out]
  clear hC hown q0 q1 q2 q3 q4 q5 x3
  replace x4 := x4.below hb2
  replace x8 := x8.below hb2
  replace hW := hW.below hb2
  clear hb2
  clear w1
  go_upto_region 14 with fail
  have x12 := (BoxL.new w2 [.slice A2 (pack cd).length c2, .int .i64 (M : Int)] 60).onA (.cells #[.int .u64 (v : Int), .int .i64 (l : Int), .int .i64 (n : Int)] 44)
  have x13 := BoxL.new (w2.alloc (.cells #[.slice A2 (pack cd).length c2, .int .i64 (M : Int)] 60)) [.int .u64 (v : Int), .int .i64 (l : Int), .int .i64 (n : Int)] 44
  simp only [World.size_alloc] at x13
  have hal : Below w2.heap.size w2 ((w2.alloc (.cells #[.slice A2 (pack cd).length c2, .int .i64 (M : Int)] 60)).alloc (.cells #[.int .u64 (v : Int), .int .i64 (l : Int), .int .i64 (n : Int)] 44)) := by repeat (first | with_reducible exact Below.refl _ _ | assumption | with_reducible refine Below.drew ?_ | with_reducible refine Below.alloc ?_ (by (first | assumption | omega | (simp; done) | (simp; omega))) _)
  replace x4 := x4.below hal
  replace x8 := x8.below hal
  replace hW := hW.below hal
  change BoxL ((w2.alloc (.cells #[.slice A2 (pack cd).length c2, .int .i64 (M : Int)] 60)).alloc (.cells #[.int .u64 (v : Int), .int .i64 (l : Int), .int .i64 (n : Int)] 44)) (w2.heap.size + 1) [.int .u64 (v : Int), .int .i64 (l : Int), .int .i64 (n : Int)] at x13
  change BoxL ((w2.alloc (.cells #[.slice A2 (pack cd).length c2, .int .i64 (M : Int)] 60)).alloc (.cells #[.int .u64 (v : Int), .int .i64 (l : Int), .int .i64 (n : Int)] 44)) w2.heap.size [.slice A2 (pack cd).length c2, .int .i64 (M : Int)] at x12
  generalize (w2.alloc (.cells #[.slice A2 (pack cd).length c2, .int .i64 (M : Int)] 60)).alloc (.cells #[.int .u64 (v : Int), .int .i64 (l : Int), .int .i64 (n : Int)] 44) = w1 at *
  generalize w2.heap.size = g12 at *
  clear hal
  clear w2
  have sg := state_guard
  obtain ⟨q0, q1, q2⟩ := x8.get3
  obtain ⟨q3, q4⟩ := x12.get2
  obtain ⟨q5, q6, q7⟩ := x13.get3
  have z4 := x4.all3 (.int .u64 0) (.int .i64 0) (.int .i64 0)
  have hZ := hW.put3 hg (Nat.le_succ _) (.int .u64 0) (.int .i64 0) (.int .i64 0)
  obtain ⟨f0, f1, f2⟩ := x4.free3
  obtain ⟨y0, y1, y2⟩ := x4.get3
  clear x4 hW x8 x12 x13 h38 h48'
  have hgz := h48
  clear h48
  by_cases hc : l = r.lead ∧ n = r.len
  · obtain ⟨rfl, rfl⟩ := hc
    have hqn := fun X => run_neq_state X (v : Int) (r.lead : Int) (r.len : Int)
    have hne0 : M ≠ r.head + r.len := fun e => HYN.out ⟨⟨rfl, rfl⟩, e⟩
    have hne : ((M : Int) != (r.head : Int) + (r.len : Int)) = true := by
      simp
      omega
    clear HYN hne0
    go_wp2_with fail
    clear f0 f1 f2 y0 y1 y2 q0 q1 q2 q3 q4 q5 q6 q7 hqn
    generalize (((w1.setCell ⟨w.heap.size + 1, 0, none⟩ (.int .u64 0)).setCell ⟨w.heap.size + 1, 1, none⟩ (.int .i64 0)).setCell ⟨w.heap.size + 1, 2, none⟩ (.int .i64 0)) = Z at *
    obtain ⟨u0, u1, u2⟩ := z4.get3
    refine bodyPost_ret (v := .tuple #[.agg #[.int .u64 0, .int .i64 0, .int .i64 0], .iface 42 (.int .i64 3)]) ?_ rfl (RetGX.bad (k := 3) HB.out (by omega) hZ)
    simp [results, Tryd.results57, go_sem, u0, u1, u2]
  · have hqn := fun X => run_neq_stateB X (v : Int) (l : Int) (n : Int) (v : Int) (r.lead : Int) (r.len : Int) (by omega)
    clear HYN hc
    go_wp2_with fail
    clear f0 f1 f2 y0 y1 y2 q0 q1 q2 q3 q4 q5 q6 q7 hqn
    generalize (((w1.setCell ⟨w.heap.size + 1, 0, none⟩ (.int .u64 0)).setCell ⟨w.heap.size + 1, 1, none⟩ (.int .i64 0)).setCell ⟨w.heap.size + 1, 2, none⟩ (.int .i64 0)) = Z at *
    obtain ⟨u0, u1, u2⟩ := z4.get3
    refine bodyPost_ret (v := .tuple #[.agg #[.int .u64 0, .int .i64 0, .int .i64 0], .iface 42 (.int .i64 3)]) ?_ rfl (RetGX.bad (k := 3) HB.out (by omega) hZ)
    simp [results, Tryd.results57, go_sem, u0, u1, u2]

set_option maxRecDepth 20000 in
set_option maxHeartbeats 1000000 in
theorem bxor_yes (g : Nat) (A : Option Addr) (m c : Nat) (bs : List Nat) (a : Nat) (s : XS) (w : World) (h : Rdr w g A m c bs a) (hs : s.May) (hT : TzW w) (hTg : 2 < g) (c1 : (restL bs a).length ≠ 0) (c2 : (restL bs a).getD 0 false = true) (c3 : (winX s (restL bs a)).e = 0)
    (c4 : (winX s (restL bs a)).head + (winX s (restL bs a)).len ≤ (restL bs a).length)
    (c5 : asksX s (winX s (restL bs a)).lead (winX s (restL bs a)).len (winX s (restL bs a)).head (wordX (restL bs a) (winX s (restL bs a)).head (winX s (restL bs a)).lead (winX s (restL bs a)).len)) :
    Calls Tryd.prog 57 #[.pointer (some ⟨g, 0, none⟩), (.agg #[.int .u64 (s.prev : Int), .int .i64 (s.lead : Int), .int .i64 (s.len : Int)])] w (RetGX w g A m c bs a s) := by
  have HYN := Lib.hid c5
  clear c5
  have hg := h.lt
  obtain ⟨hV, x3, x4⟩ := two_boxes w s
  have hb0 := (Wt.of h).below hV
  have HI := Lib.hid ((getX_win hs c1 c2).2 c3)
  obtain ⟨r1, r2, r3, _⟩ := winX_lead (p := restL bs a) hs
  have HC := Lib.hid c3
  clear c3
  have hR := rbit g A m c bs a 0 _ 1 hb0.1 (by omega) (by rw [c2]; rfl)
  have hR2 := fun X hX => bwin_any g A m c bs a s X hX c1
  unfold RetWin at hR2
  clear h c1 c2
  go_enter Tryd.func57, Tryd.ntmps57
  go_wp2_with fail
  refine hR.mono ?_
  rintro e w1 ⟨rfl, hW⟩
  replace x3 := hW.box x3 hg
  replace x4 := hW.box x4 (by omega)
  replace hW := hb0.went hW
  clear hR hV hb0
  obtain ⟨q0, q1, q2⟩ := x3.get3
  go_wp2_with fail
  refine (hR2 _ hW.1).mono ?_
  clear q0 q1 q2 hR2
  rintro e w2 (⟨h0, _⟩ | ⟨_, rfl, hW2⟩)
  case inl => exact absurd HC.out h0
  generalize winX s (restL bs a) = r at *
  replace x3 := hW2.box x3 hg
  replace x4 := hW2.box x4 (by omega)
  replace hW := hW.trans hW2
  clear hW2
  clear w1
  go_upto_region 9 with fail
  have hal : Below w2.heap.size w2 (w2.alloc (.cells #[.int .u64 (s.prev : Int), .int .i64 (r.lead : Int), .int .i64 (r.len : Int)] 44)) := by repeat (first | with_reducible exact Below.refl _ _ | assumption | with_reducible refine Below.drew ?_ | with_reducible refine Below.alloc ?_ (by (first | assumption | omega | (simp; done) | (simp; omega))) _)
  have x8 := BoxL.new w2 [.int .u64 (s.prev : Int), .int .i64 (r.lead : Int), .int .i64 (r.len : Int)] 44
  have h48 := x4.lt
  replace x3 := x3.below hal
  replace x4 := x4.below hal
  replace hW := hW.below hal
  change BoxL (w2.alloc (.cells #[.int .u64 (s.prev : Int), .int .i64 (r.lead : Int), .int .i64 (r.len : Int)] 44)) w2.heap.size [.int .u64 (s.prev : Int), .int .i64 (r.lead : Int), .int .i64 (r.len : Int)] at x8
  generalize w2.alloc (.cells #[.int .u64 (s.prev : Int), .int .i64 (r.lead : Int), .int .i64 (r.len : Int)] 44) = w1 at *
  generalize w2.heap.size = g8 at *
  clear hal
  clear w2
  obtain ⟨q0, q1, q2⟩ := x8.get3
  have HB := Lib.hid (HI.out.yes c4 HYN.out)
  have hR := rnum g A m c bs a r.head w1 r.len hW.1 r2 c4
  obtain ⟨x, HX⟩ : ∃ x, Hid (wordX (restL bs a) r.head r.lead r.len = x) := ⟨_, Lib.hid rfl⟩
  have hxl : x ≤ 18446744073709551615 := by rw [← HX.out]; exact wordX_le _ HI.out.in_
  have hin := HI.out.in_
  obtain ⟨k, hk⟩ : ∃ k, 64 - r.lead - r.len = k := ⟨_, rfl⟩
  have HY : Hid (num (cut (restL bs a) r.head r.len) * 2 ^ k = x) := Lib.hid (by rw [← HX.out, ← hk]; rfl)
  have HR := Lib.hid hR
  generalize num (cut (restL bs a) r.head r.len) = y at *
  have hsub : 64 - (r.lead : Int) - (r.len : Int) = (k : Int) := by omega
  have hshl := shl_word hxl HY.out
  have hxor := u64_xor_nat s.prev x (by have := hs.p; omega) (by omega)
  have hv := xor_lt hs.p hxl
  rw [HX.out] at HYN
  try rw [HX.out] at HB
  unfold asksX at HYN
  clear hR HY HX hk
  clear c4
  go_wp2_with fail
  refine HR.out.mono ?_
  rintro e w2 ⟨rfl, hW2⟩
  replace x3 := hW2.box x3 hg
  replace x4 := hW2.box x4 (by omega)
  replace x8 := hW2.box x8 (by omega)
  replace hW := hW.went hW2
  clear q0 q1 q2 HR hW2
  clear w1
  generalize s.prev ^^^ x = v at *
  go_upto_region 12 with fail
  obtain ⟨q0, q1, q2⟩ := x8.get3
  obtain ⟨d0, d1, d2⟩ := x8.free3
  obtain ⟨q3, q4, q5⟩ := x8.drew.get3
  obtain ⟨d3, d4, d5⟩ := x8.drew.free3
  have hC := fun X hX => xcode_any s.prev s.lead s.len v X hs hv hX
  unfold RetX at hC
  change ∀ X, TzW X → Calls Tryd.prog 50 #[(.agg #[.int .u64 (s.prev : Int), .int .i64 (s.lead : Int), .int .i64 (s.len : Int)]), .int .u64 (v : Int)] X (fun e w' => ∃ A c, e = .returned (.tuple #[.agg #[.slice A (pack (codeX s v)).length c, .int .i64 (((codeX s v).length : Nat) : Int)], .agg #[.int .u64 (v : Int), .int .i64 ((nextX s v).lead : Int), .int .i64 ((nextX s v).len : Int)]]) ∧ Own X w' (.slice A (pack (codeX s v)).length c) (pack (codeX s v))) at hC
  have hM := codeX_pos hs hv
  have hN := nextX_may hs hv
  have hna := hN.a
  have hnb := hN.b
  clear hN
  generalize codeX s v = cd at *
  generalize (nextX s v).lead = l at *
  generalize (nextX s v).len = n at *
  obtain ⟨M, HM⟩ : ∃ M, Hid (cd.length = M) := ⟨_, Lib.hid rfl⟩
  rw [HM.out] at HYN hM
  go_region
  have hsz : w2.heap.size ≤ (w2.setCell ⟨g8, 0, none⟩ (.int .u64 (v : Int))).drew.heap.size := by simp
  clear q0 q1 q2 q3 q4 q5 d0 d1 d2 d3 d4 d5 hsub hshl hxor
  have h38 : w.heap.size ≠ g8 := by omega
  have h48' : w.heap.size + 1 ≠ g8 := by omega
  replace x3 := (x3.oth h38 0 (.int .u64 (v : Int))).drew
  replace x4 := (x4.oth h48' 0 (.int .u64 (v : Int))).drew
  replace x8 : BoxL (w2.setCell ⟨g8, 0, none⟩ (.int .u64 (v : Int))).drew g8 [.int .u64 (v : Int), .int .i64 (r.lead : Int), .int .i64 (r.len : Int)] := (x8.put 0 (.int .u64 (v : Int))).drew
  replace hW := (hW.put hg (d := g8) (by omega) 0 (.int .u64 (v : Int))).below ((Below.refl _ _).drew)
  generalize (w2.setCell ⟨g8, 0, none⟩ (.int .u64 (v : Int))).drew = w1 at *
  clear hsz
  clear w2
  obtain ⟨q0, q1, q2⟩ := x8.get3
  obtain ⟨q3, q4, q5⟩ := x3.get3
  go_wp2_with fail
  refine (hC _ (hT.grown' hW.2 hTg)).mono ?_
  rintro e w2 ⟨A2, c2, rfl, hown⟩
  have hb2 := hown.bel
  rw [HM.out]
  clear hC hown q0 q1 q2 q3 q4 q5 x3
  replace x4 := x4.below hb2
  replace x8 := x8.below hb2
  replace hW := hW.below hb2
  clear hb2
  clear w1
  go_upto_region 14 with fail
  have x12 := (BoxL.new w2 [.slice A2 (pack cd).length c2, .int .i64 (M : Int)] 60).onA (.cells #[.int .u64 (v : Int), .int .i64 (l : Int), .int .i64 (n : Int)] 44)
  have x13 := BoxL.new (w2.alloc (.cells #[.slice A2 (pack cd).length c2, .int .i64 (M : Int)] 60)) [.int .u64 (v : Int), .int .i64 (l : Int), .int .i64 (n : Int)] 44
  simp only [World.size_alloc] at x13
  have hal : Below w2.heap.size w2 ((w2.alloc (.cells #[.slice A2 (pack cd).length c2, .int .i64 (M : Int)] 60)).alloc (.cells #[.int .u64 (v : Int), .int .i64 (l : Int), .int .i64 (n : Int)] 44)) := by repeat (first | with_reducible exact Below.refl _ _ | assumption | with_reducible refine Below.drew ?_ | with_reducible refine Below.alloc ?_ (by (first | assumption | omega | (simp; done) | (simp; omega))) _)
  replace x4 := x4.below hal
  replace x8 := x8.below hal
  replace hW := hW.below hal
  change BoxL ((w2.alloc (.cells #[.slice A2 (pack cd).length c2, .int .i64 (M : Int)] 60)).alloc (.cells #[.int .u64 (v : Int), .int .i64 (l : Int), .int .i64 (n : Int)] 44)) (w2.heap.size + 1) [.int .u64 (v : Int), .int .i64 (l : Int), .int .i64 (n : Int)] at x13
  change BoxL ((w2.alloc (.cells #[.slice A2 (pack cd).length c2, .int .i64 (M : Int)] 60)).alloc (.cells #[.int .u64 (v : Int), .int .i64 (l : Int), .int .i64 (n : Int)] 44)) w2.heap.size [.slice A2 (pack cd).length c2, .int .i64 (M : Int)] at x12
  generalize (w2.alloc (.cells #[.slice A2 (pack cd).length c2, .int .i64 (M : Int)] 60)).alloc (.cells #[.int .u64 (v : Int), .int .i64 (l : Int), .int .i64 (n : Int)] 44) = w1 at *
  generalize w2.heap.size = g12 at *
  clear hal
  clear w2
  have sg := state_guard
  obtain ⟨q0, q1, q2⟩ := x8.get3
  obtain ⟨q3, q4⟩ := x12.get2
  obtain ⟨q5, q6, q7⟩ := x13.get3
  obtain ⟨⟨rfl, rfl⟩, hMe⟩ := HYN.out
  have hqn := fun X => run_neq_state X (v : Int) (r.lead : Int) (r.len : Int)
  have hne : ((M : Int) != (r.head : Int) + (r.len : Int)) = false := by
    simp
    omega
  have z4 := x4.all3 (.int .u64 (v : Int)) (.int .i64 (r.lead : Int)) (.int .i64 (r.len : Int))
  have hZ := hW.put3 hg (Nat.le_succ _) (.int .u64 (v : Int)) (.int .i64 (r.lead : Int)) (.int .i64 (r.len : Int))
  obtain ⟨f0, f1, f2⟩ := x4.free3
  obtain ⟨y0, y1, y2⟩ := x4.get3
  clear x4 hW x8 x12 x13 h38 h48' HYN
  have hgz := h48
  clear h48 hMe
  go_wp2_with fail
  clear f0 f1 f2 y0 y1 y2 q0 q1 q2 q3 q4 q5 q6 q7 hqn
  generalize (((w1.setCell ⟨w.heap.size + 1, 0, none⟩ (.int .u64 (v : Int))).setCell ⟨w.heap.size + 1, 1, none⟩ (.int .i64 (r.lead : Int))).setCell ⟨w.heap.size + 1, 2, none⟩ (.int .i64 (r.len : Int))) = Z at *
  obtain ⟨u0, u1, u2⟩ := z4.get3
  refine bodyPost_ret (v := .tuple #[.agg #[.int .u64 (v : Int), .int .i64 (r.lead : Int), .int .i64 (r.len : Int)], .nilIface]) ?_ rfl ⟨_, by rw [HB.out]; rfl, fun _ => by rw [HB.out]; simp only; omega, hZ⟩
  simp [results, Tryd.results57, go_sem, u0, u1, u2]

theorem bxor_any (g : Nat) (A : Option Addr) (m c : Nat) (bs : List Nat) (a : Nat) (s : XS) (w : World) (h : Rdr w g A m c bs a) (hs : s.May) (hT : TzW w) (hTg : 2 < g) :
    Calls Tryd.prog 57 #[.pointer (some ⟨g, 0, none⟩), (.agg #[.int .u64 (s.prev : Int), .int .i64 (s.lead : Int), .int .i64 (s.len : Int)])] w (RetGX w g A m c bs a s) := by
  by_cases c1 : (restL bs a).length = 0
  · exact bxor_short g A m c bs a s w h c1
  by_cases c2 : (restL bs a).getD 0 false = false
  · exact bxor_same g A m c bs a s w h c1 c2
  have c2' : (restL bs a).getD 0 false = true := by simpa using c2
  by_cases c3 : (winX s (restL bs a)).e = 0
  · by_cases c4 : (winX s (restL bs a)).head + (winX s (restL bs a)).len ≤ (restL bs a).length
    · by_cases c5 : asksX s (winX s (restL bs a)).lead (winX s (restL bs a)).len (winX s (restL bs a)).head (wordX (restL bs a) (winX s (restL bs a)).head (winX s (restL bs a)).lead (winX s (restL bs a)).len)
      · exact bxor_yes g A m c bs a s w h hs hT hTg c1 c2' c3 c4 c5
      · exact bxor_form g A m c bs a s w h hs hT hTg c1 c2' c3 c4 c5
    · exact bxor_cut g A m c bs a s w h hs c1 c2' c3 (by omega)
  · exact bxor_nowin g A m c bs a s w h hs c1 c2' c3

end Go.Proofs.YtnjohmgacmcdnaaDoor
