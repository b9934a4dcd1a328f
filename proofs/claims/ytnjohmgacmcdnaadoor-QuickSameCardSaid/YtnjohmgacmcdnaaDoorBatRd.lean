/-
  Where a reader stands behind a call that goes on with it; its Read, as bits from a place on tell; the contracts of layer 11's getWord, getWindow.
-/
import Derived.Test.YtnjohmgacmcdnaaDoorAskX
import Derived.Test.YtnjohmgacmcdnaaDoorWords
import Derived.Test.YtnjohmgacmcdnaaDoorXorGets
import Derived.Test.YtnjohmgacmcdnaaDoorTabGet
namespace Go.Proofs.YtnjohmgacmcdnaaDoor
open Go.RowKit

section
variable {a b c : World} {row : Option Nat}
theorem gr_own {row' : Option Nat} (h : a.grownBy b row) (k : b.grownBy c row') (hr : ∀ j, row' = some j → a.heap.size ≤ j) : a.grownBy c row :=
  ⟨k.os.trans h.os, k.tape.trans h.tape, k.output.trans h.output, Nat.le_trans h.size k.size, fun i hi hne => (k.block i (Nat.lt_of_lt_of_le hi h.size) (fun e => by have := hr i e.symm; omega)).trans (h.block i hi hne)⟩
theorem gr_below (h : a.grownBy b row) (hb : Below b.heap.size b c) : a.grownBy c row := h.trans (grown_below hb row)
theorem gr_put (h : a.grownBy b row) {d : Nat} (hd : a.heap.size ≤ d) (k : Nat) (u : Value) : a.grownBy (b.setCell ⟨d, k, none⟩ u) row := gr_own h (only_set b d k u) (fun j e => by injection e with e; omega)
end
section
variable {w : World} {g m c a : Nat} {A : Option Addr} {bs : List Nat}
theorem Rdr.oth (h : Rdr w g A m c bs a) {d : Nat} (hd : g < d) (k : Nat) (u : Value) : Rdr (w.setCell ⟨d, k, none⟩ u) g A m c bs a := h.keep fun i hi => Below.heap_setCell _ _ _ _ (by dsimp only; omega)
end
/-- where the reader stands then; of what there was, it alone has turned -/
def Wt (w : World) (g : Nat) (A : Option Addr) (m c : Nat) (bs : List Nat) (a : Nat) (w' : World) : Prop := Rdr w' g A m c bs a ∧ w.grownBy w' (some g)
section
variable {w w1 w2 : World} {g m c a a2 : Nat} {A : Option Addr} {bs : List Nat}
theorem Wt.of (h : Rdr w g A m c bs a) : Wt w g A m c bs a w := ⟨h, World.grownBy.refl w _⟩
theorem Wt.went (h : Wt w g A m c bs a w1) (k : Went w1 g A m c bs a2 w2) : Wt w g A m c bs a2 w2 := ⟨k.rdr, h.2.trans k.only⟩
theorem Wt.trans (h : Wt w g A m c bs a w1) (k : Wt w1 g A m c bs a2 w2) : Wt w g A m c bs a2 w2 := ⟨k.1, h.2.trans k.2⟩
theorem Wt.below (h : Wt w g A m c bs a w1) (hb : Below w1.heap.size w1 w2) : Wt w g A m c bs a w2 := ⟨h.1.below hb, gr_below h.2 hb⟩
theorem Wt.drewN (h : Wt w g A m c bs a w1) (k : Nat) : Wt w g A m c bs a (w1.drewN k) := ⟨h.1.drewN k, only_drewN h.2 k⟩
theorem Wt.put (h : Wt w g A m c bs a w1) (hg : g < w.heap.size) {d : Nat} (hd : w.heap.size ≤ d) (k : Nat) (u : Value) : Wt w g A m c bs a (w1.setCell ⟨d, k, none⟩ u) := ⟨h.1.oth (by omega) k u, gr_put h.2 hd k u⟩
theorem Wt.put2 (h : Wt w g A m c bs a w1) (hg : g < w.heap.size) {d : Nat} (hd : w.heap.size ≤ d) (u0 u1 : Value) : Wt w g A m c bs a ((w1.setCell ⟨d, 0, none⟩ u0).setCell ⟨d, 1, none⟩ u1) := (h.put hg hd 0 u0).put hg hd 1 u1
theorem Wt.put3 (h : Wt w g A m c bs a w1) (hg : g < w.heap.size) {d : Nat} (hd : w.heap.size ≤ d) (u0 u1 u2 : Value) : Wt w g A m c bs a (((w1.setCell ⟨d, 0, none⟩ u0).setCell ⟨d, 1, none⟩ u1).setCell ⟨d, 2, none⟩ u2) := (h.put2 hg hd u0 u1).put hg hd 2 u2
theorem Wt.lt (h : Wt w g A m c bs a w1) {d : Nat} (hd : d < w.heap.size) : d < w1.heap.size := Nat.lt_of_lt_of_le hd h.2.size
/-- a box apart from the reader -/
theorem Wt.box (h : Wt w g A m c bs a w1) {d : Nat} {l : List Value} (x : BoxL w d l) (hd : g < d) : BoxL w1 d l := x.grown h.2 (by simp; omega)
end
theorem Went.wt {w w' : World} {g m c a : Nat} {A : Option Addr} {bs : List Nat} (h : Went w g A m c bs a w') : Wt w g A m c bs a w' := ⟨h.rdr, h.only⟩
theorem Went.box {w w' : World} {g m c a : Nat} {A : Option Addr} {bs : List Nat} (h : Went w g A m c bs a w') {d : Nat} {l : List Value} (x : BoxL w d l) (hd : g < d) : BoxL w' d l := h.wt.box x hd

theorem ext_rest {bs : List Nat} {a j n : Nat} (h : a + j + n ≤ 8 * bs.length) : num (ext (flat bs) (a + j) n) = num (cut (restL bs a) j n) := by
  rw [ext_cut _ _ _ (by rw [flat_length]; omega), restL_yes (by omega), cut_drop]
section
variable (g : Nat) (A : Option Addr) (m c : Nat) (bs : List Nat) (a j : Nat) (w : World)
/-- Read's answer by the bits from a place on -/
theorem rnum (n : Nat) (h : Rdr w g A m c bs (a + j)) (hn : n ≤ 64) (hj : j + n ≤ (restL bs a).length) :
    Calls Tryd.prog 69 #[.pointer (some ⟨g, 0, none⟩), .int .i64 (n : Int)] w fun e w' => e = .returned (.tuple #[.int .u64 ((num (cut (restL bs a) j n) : Nat) : Int), .bool true]) ∧ Went w g A m c bs (a + j + n) w' := by
  have h1 := h.len
  have h2 := h.at_
  have h3 := restL_length (bs := bs) (a := a) (by omega)
  have := read_yes g A m c bs (a + j) n w h hn (by omega)
  rwa [ext_rest (by omega)] at this
theorem rno (n : Nat) (h : Rdr w g A m c bs (a + j)) (hn : n ≤ 64) (hj : (restL bs a).length < j + n) :
    Calls Tryd.prog 69 #[.pointer (some ⟨g, 0, none⟩), .int .i64 (n : Int)] w fun e w' => e = .returned (.tuple #[.int .u64 0, .bool false]) ∧ Wt w g A m c bs (a + j) w' := by
  have h1 := h.len
  have h2 := h.at_
  have h3 := restL_length (bs := bs) (a := a) (by omega)
  exact (read_no g A m c bs (a + j) n w h (by omega)).mono fun e w' ⟨h4, k, h5⟩ => ⟨h4, by subst h5; exact (Wt.of h).drewN k⟩
/-- one bit -/
theorem rbit (z : Int) (h : Rdr w g A m c bs (a + j)) (hj : j < (restL bs a).length) (hz : (((restL bs a).getD j false).toNat : Int) = z) :
    Calls Tryd.prog 69 #[.pointer (some ⟨g, 0, none⟩), .int .i64 1] w fun e w' => e = .returned (.tuple #[.int .u64 z, .bool true]) ∧ Went w g A m c bs (a + j + 1) w' := by
  have := rnum g A m c bs a j w 1 h (by omega) (by omega)
  rw [num_cut_one _ _ hj, hz] at this
  exact this
end

set_option maxRecDepth 20000 in
set_option maxHeartbeats 400000 in
theorem bword_yes (g : Nat) (A : Option Addr) (m c : Nat) (bs : List Nat) (a : Nat) (w : World) (h : Rdr w g A m c bs a) (hy : 64 ≤ (restL bs a).length) :
    Calls Tryd.prog 55 #[.pointer (some ⟨g, 0, none⟩)] w fun e w' => e = .returned (.tuple #[.int .u64 ((num (cut (restL bs a) 0 64) : Nat) : Int), .nilIface]) ∧ Wt w g A m c bs (a + 64) w' := by
  have hR := rnum g A m c bs a 0 w 64 h (by omega) (by omega)
  generalize num (cut (restL bs a) 0 64) = x at *
  go_enter Tryd.func55, Tryd.ntmps55
  go_wp2_with fail
  refine hR.mono ?_
  rintro e w1 ⟨rfl, hW⟩
  go_wp2
  go_ret2
  exact ⟨rfl, hW.wt⟩
set_option maxRecDepth 20000 in
set_option maxHeartbeats 400000 in
theorem bword_no (g : Nat) (A : Option Addr) (m c : Nat) (bs : List Nat) (a : Nat) (w : World) (h : Rdr w g A m c bs a) (hy : (restL bs a).length < 64) :
    Calls Tryd.prog 55 #[.pointer (some ⟨g, 0, none⟩)] w fun e w' => e = .returned (.tuple #[.int .u64 0, .iface 42 (.int .i64 2)]) ∧ Wt w g A m c bs a w' := by
  have hR := rno g A m c bs a 0 w 64 h (by omega) (by omega)
  go_enter Tryd.func55, Tryd.ntmps55
  go_wp2_with fail
  refine hR.mono ?_
  rintro e w1 ⟨rfl, hW⟩
  go_wp2
  go_ret2
  exact ⟨rfl, hW⟩

/-- what getWindow comes to -/
def RetWin (w : World) (g : Nat) (A : Option Addr) (m c : Nat) (bs : List Nat) (a : Nat) (s : XS) (e : Ending) (w' : World) : Prop :=
  ((winX s (restL bs a)).e ≠ 0 ∧ e = .returned (.tuple #[.agg #[.int .u64 0, .int .i64 0, .int .i64 0], .int .i64 0, .iface 42 (.int .i64 ((winX s (restL bs a)).e : Int))]) ∧ ∃ a', Wt w g A m c bs a' w') ∨
  ((winX s (restL bs a)).e = 0 ∧ e = .returned (.tuple #[.agg #[.int .u64 (s.prev : Int), .int .i64 ((winX s (restL bs a)).lead : Int), .int .i64 ((winX s (restL bs a)).len : Int)], .int .i64 ((winX s (restL bs a)).head : Int), .nilIface]) ∧
    Wt w g A m c bs (a + (winX s (restL bs a)).head) w')

/-- two boxes of three cells, the second one of 0s -/
theorem two_boxes (w : World) (s : XS) : Below w.heap.size w ((w.alloc (.cells #[.int .u64 (s.prev : Int), .int .i64 (s.lead : Int), .int .i64 (s.len : Int)] 44)).alloc (.cells #[.int .u64 0, .int .i64 0, .int .i64 0] 44)) ∧
    BoxL ((w.alloc (.cells #[.int .u64 (s.prev : Int), .int .i64 (s.lead : Int), .int .i64 (s.len : Int)] 44)).alloc (.cells #[.int .u64 0, .int .i64 0, .int .i64 0] 44)) w.heap.size [.int .u64 (s.prev : Int), .int .i64 (s.lead : Int), .int .i64 (s.len : Int)] ∧
    BoxL ((w.alloc (.cells #[.int .u64 (s.prev : Int), .int .i64 (s.lead : Int), .int .i64 (s.len : Int)] 44)).alloc (.cells #[.int .u64 0, .int .i64 0, .int .i64 0] 44)) (w.heap.size + 1) [.int .u64 0, .int .i64 0, .int .i64 0] := by
  have h2 := BoxL.new (w.alloc (.cells #[.int .u64 (s.prev : Int), .int .i64 (s.lead : Int), .int .i64 (s.len : Int)] 44)) [.int .u64 0, .int .i64 0, .int .i64 0] 44
  simp only [World.size_alloc] at h2
  exact ⟨by repeat (first | with_reducible exact Below.refl _ _ | assumption | with_reducible refine Below.drew ?_ | with_reducible refine Below.alloc ?_ (by (first | assumption | omega | (simp; done) | (simp; omega))) _), (BoxL.new w [.int .u64 (s.prev : Int), .int .i64 (s.lead : Int), .int .i64 (s.len : Int)] 44).onA _, h2⟩

set_option maxRecDepth 20000 in
set_option maxHeartbeats 1000000 in
theorem bwin_short1 (g : Nat) (A : Option Addr) (m c : Nat) (bs : List Nat) (a : Nat) (s : XS) (w : World) (h : Rdr w g A m c bs (a + 1)) (c1 : (restL bs a).length = 1) :
    Calls Tryd.prog 73 #[.pointer (some ⟨g, 0, none⟩), (.agg #[.int .u64 (s.prev : Int), .int .i64 (s.lead : Int), .int .i64 (s.len : Int)])] w (RetWin w g A m c bs a s) := by
  have hg := h.lt
  obtain ⟨hV, x3, x4⟩ := two_boxes w s
  have hb0 := (Wt.of h).below hV
  unfold RetWin
  have e : winX s (restL bs a) = badW 2 := by unfold winX; rw [if_pos c1]
  rw [e]
  have hR := rno g A m c bs a 1 _ 1 hb0.1 (by omega) (by omega)
  clear h c1 e
  go_enter Tryd.func73, Tryd.ntmps73
  go_wp2_with fail
  refine hR.mono ?_
  rintro e w1 ⟨rfl, hW⟩
  replace x3 := hW.box x3 hg
  replace x4 := hW.box x4 (by omega)
  replace hW := hb0.trans hW
  clear hR hV hb0
  have z4 := x4.all3 (.int .u64 0) (.int .i64 0) (.int .i64 0)
  have hZ := hW.put3 hg (Nat.le_succ _) (.int .u64 0) (.int .i64 0) (.int .i64 0)
  obtain ⟨f0, f1, f2⟩ := x4.free3
  obtain ⟨y0, y1, y2⟩ := x4.get3
  clear x4 hW
  clear x3
  go_wp2
  clear f0 f1 f2 y0 y1 y2
  generalize (((w1.setCell ⟨w.heap.size + 1, 0, none⟩ (.int .u64 0)).setCell ⟨w.heap.size + 1, 1, none⟩ (.int .i64 0)).setCell ⟨w.heap.size + 1, 2, none⟩ (.int .i64 0)) = Z at *
  obtain ⟨u0, u1, u2⟩ := z4.get3
  refine bodyPost_ret (v := .tuple #[.agg #[.int .u64 0, .int .i64 0, .int .i64 0], .int .i64 0, .iface 42 (.int .i64 2)]) ?_ rfl (.inl ⟨by simp [badW], rfl, _, hZ⟩)
  simp [results, Tryd.results73, go_sem, u0, u1, u2]

set_option maxRecDepth 20000 in
set_option maxHeartbeats 1000000 in
theorem bwin_none (g : Nat) (A : Option Addr) (m c : Nat) (bs : List Nat) (a : Nat) (s : XS) (w : World) (h : Rdr w g A m c bs (a + 1)) (c1 : 2 ≤ (restL bs a).length) (c2 : (restL bs a).getD 1 false = false) (c3 : s.len = 0) :
    Calls Tryd.prog 73 #[.pointer (some ⟨g, 0, none⟩), (.agg #[.int .u64 (s.prev : Int), .int .i64 (s.lead : Int), .int .i64 (s.len : Int)])] w (RetWin w g A m c bs a s) := by
  have hg := h.lt
  obtain ⟨hV, x3, x4⟩ := two_boxes w s
  have hb0 := (Wt.of h).below hV
  unfold RetWin
  have e : winX s (restL bs a) = badW 3 := by unfold winX; rw [if_neg (by omega), if_pos c2, if_pos c3]
  rw [e]
  have hR := rbit g A m c bs a 1 _ 0 hb0.1 (by omega) (by rw [c2]; rfl)
  have h23 : ((s.len : Int) == 0) = true := by simp [c3]
  clear h c1 c2 c3 e
  go_enter Tryd.func73, Tryd.ntmps73
  go_wp2_with fail
  refine hR.mono ?_
  rintro e w1 ⟨rfl, hW⟩
  replace x3 := hW.box x3 hg
  replace x4 := hW.box x4 (by omega)
  replace hW := hb0.went hW
  clear hR hV hb0
  obtain ⟨q0, q1, q2⟩ := x3.get3
  have z4 := x4.all3 (.int .u64 0) (.int .i64 0) (.int .i64 0)
  have hZ := hW.put3 hg (Nat.le_succ _) (.int .u64 0) (.int .i64 0) (.int .i64 0)
  obtain ⟨f0, f1, f2⟩ := x4.free3
  obtain ⟨y0, y1, y2⟩ := x4.get3
  clear x4 hW
  clear x3
  go_wp2
  clear f0 f1 f2 y0 y1 y2
  generalize (((w1.setCell ⟨w.heap.size + 1, 0, none⟩ (.int .u64 0)).setCell ⟨w.heap.size + 1, 1, none⟩ (.int .i64 0)).setCell ⟨w.heap.size + 1, 2, none⟩ (.int .i64 0)) = Z at *
  obtain ⟨u0, u1, u2⟩ := z4.get3
  refine bodyPost_ret (v := .tuple #[.agg #[.int .u64 0, .int .i64 0, .int .i64 0], .int .i64 0, .iface 42 (.int .i64 3)]) ?_ rfl (.inl ⟨by simp [badW], rfl, _, hZ⟩)
  simp [results, Tryd.results73, go_sem, u0, u1, u2]

set_option maxRecDepth 20000 in
set_option maxHeartbeats 1000000 in
theorem bwin_old (g : Nat) (A : Option Addr) (m c : Nat) (bs : List Nat) (a : Nat) (s : XS) (w : World) (h : Rdr w g A m c bs (a + 1)) (c1 : 2 ≤ (restL bs a).length) (c2 : (restL bs a).getD 1 false = false) (c3 : s.len ≠ 0) :
    Calls Tryd.prog 73 #[.pointer (some ⟨g, 0, none⟩), (.agg #[.int .u64 (s.prev : Int), .int .i64 (s.lead : Int), .int .i64 (s.len : Int)])] w (RetWin w g A m c bs a s) := by
  have hg := h.lt
  obtain ⟨hV, x3, x4⟩ := two_boxes w s
  have hb0 := (Wt.of h).below hV
  unfold RetWin
  have e : winX s (restL bs a) = ⟨s.lead, s.len, 2, 0⟩ := by unfold winX; rw [if_neg (by omega), if_pos c2, if_neg c3]
  rw [e]
  have hR := rbit g A m c bs a 1 _ 0 hb0.1 (by omega) (by rw [c2]; rfl)
  have h23 : ((s.len : Int) == 0) = false := by simp [c3]
  clear h c1 c2 c3 e
  go_enter Tryd.func73, Tryd.ntmps73
  go_wp2_with fail
  refine hR.mono ?_
  rintro e w1 ⟨rfl, hW⟩
  replace x3 := hW.box x3 hg
  replace x4 := hW.box x4 (by omega)
  replace hW := hb0.went hW
  clear hR hV hb0
  obtain ⟨q0, q1, q2⟩ := x3.get3
  have z4 := x4.all3 (.int .u64 (s.prev : Int)) (.int .i64 (s.lead : Int)) (.int .i64 (s.len : Int))
  have hZ := hW.put3 hg (Nat.le_succ _) (.int .u64 (s.prev : Int)) (.int .i64 (s.lead : Int)) (.int .i64 (s.len : Int))
  obtain ⟨f0, f1, f2⟩ := x4.free3
  obtain ⟨y0, y1, y2⟩ := x4.get3
  clear x3 x4 hW
  go_wp2
  clear f0 f1 f2 y0 y1 y2 q0 q1 q2
  generalize (((w1.setCell ⟨w.heap.size + 1, 0, none⟩ (.int .u64 (s.prev : Int))).setCell ⟨w.heap.size + 1, 1, none⟩ (.int .i64 (s.lead : Int))).setCell ⟨w.heap.size + 1, 2, none⟩ (.int .i64 (s.len : Int))) = Z at *
  obtain ⟨u0, u1, u2⟩ := z4.get3
  refine bodyPost_ret (v := .tuple #[(.agg #[.int .u64 (s.prev : Int), .int .i64 (s.lead : Int), .int .i64 (s.len : Int)]), .int .i64 2, .nilIface]) ?_ rfl (.inr ⟨by first | rfl | trivial, rfl, hZ⟩)
  simp [results, Tryd.results73, go_sem, u0, u1, u2]

set_option maxRecDepth 20000 in
set_option maxHeartbeats 1000000 in
theorem bwin_short2 (g : Nat) (A : Option Addr) (m c : Nat) (bs : List Nat) (a : Nat) (s : XS) (w : World) (h : Rdr w g A m c bs (a + 1)) (c1 : 2 ≤ (restL bs a).length) (c2 : (restL bs a).getD 1 false = true) (c3 : (restL bs a).length < 14) :
    Calls Tryd.prog 73 #[.pointer (some ⟨g, 0, none⟩), (.agg #[.int .u64 (s.prev : Int), .int .i64 (s.lead : Int), .int .i64 (s.len : Int)])] w (RetWin w g A m c bs a s) := by
  have hg := h.lt
  obtain ⟨hV, x3, x4⟩ := two_boxes w s
  have hb0 := (Wt.of h).below hV
  unfold RetWin
  have e : winX s (restL bs a) = badW 2 := by unfold winX; rw [if_neg (by omega), c2, if_neg (by simp), if_pos c3]
  rw [e]
  have hR := rbit g A m c bs a 1 _ 1 hb0.1 (by omega) (by rw [c2]; rfl)
  have hR2 := fun X hX => rno g A m c bs a 2 X 12 hX (by omega) (by omega)
  clear h c1 c2 c3 e
  go_enter Tryd.func73, Tryd.ntmps73
  go_wp2_with fail
  refine hR.mono ?_
  rintro e w1 ⟨rfl, hW⟩
  replace x3 := hW.box x3 hg
  replace x4 := hW.box x4 (by omega)
  replace hW := hb0.went hW
  clear hR hV hb0
  go_wp2_with fail
  refine (hR2 _ hW.1).mono ?_
  rintro e w2 ⟨rfl, hW2⟩
  replace x3 := hW2.box x3 hg
  replace x4 := hW2.box x4 (by omega)
  replace hW := hW.trans hW2
  clear hR2 hW2
  clear w1
  obtain ⟨w1, rfl⟩ : ∃ X, X = w2 := ⟨_, rfl⟩
  have z4 := x4.all3 (.int .u64 0) (.int .i64 0) (.int .i64 0)
  have hZ := hW.put3 hg (Nat.le_succ _) (.int .u64 0) (.int .i64 0) (.int .i64 0)
  obtain ⟨f0, f1, f2⟩ := x4.free3
  obtain ⟨y0, y1, y2⟩ := x4.get3
  clear x4 hW
  clear x3
  go_wp2
  clear f0 f1 f2 y0 y1 y2
  generalize (((w1.setCell ⟨w.heap.size + 1, 0, none⟩ (.int .u64 0)).setCell ⟨w.heap.size + 1, 1, none⟩ (.int .i64 0)).setCell ⟨w.heap.size + 1, 2, none⟩ (.int .i64 0)) = Z at *
  obtain ⟨u0, u1, u2⟩ := z4.get3
  refine bodyPost_ret (v := .tuple #[.agg #[.int .u64 0, .int .i64 0, .int .i64 0], .int .i64 0, .iface 42 (.int .i64 2)]) ?_ rfl (.inl ⟨by simp [badW], rfl, _, hZ⟩)
  simp [results, Tryd.results73, go_sem, u0, u1, u2]

set_option maxRecDepth 20000 in
set_option maxHeartbeats 1000000 in
theorem bwin_wide (g : Nat) (A : Option Addr) (m c : Nat) (bs : List Nat) (a : Nat) (s : XS) (w : World) (h : Rdr w g A m c bs (a + 1)) (_c1 : 2 ≤ (restL bs a).length) (c2 : (restL bs a).getD 1 false = true) (c3 : 14 ≤ (restL bs a).length)
    (c4 : 64 < num (cut (restL bs a) 2 6) + (num (cut (restL bs a) 8 6) + 1)) :
    Calls Tryd.prog 73 #[.pointer (some ⟨g, 0, none⟩), (.agg #[.int .u64 (s.prev : Int), .int .i64 (s.lead : Int), .int .i64 (s.len : Int)])] w (RetWin w g A m c bs a s) := by
  have hg := h.lt
  obtain ⟨hV, x3, x4⟩ := two_boxes w s
  have hb0 := (Wt.of h).below hV
  unfold RetWin
  have e : winX s (restL bs a) = badW 3 := by unfold winX; rw [if_neg (by omega), c2, if_neg (by simp), if_neg (by omega), if_pos c4]
  rw [e]
  clear e
  have hR := rbit g A m c bs a 1 _ 1 hb0.1 (by omega) (by rw [c2]; rfl)
  have hR2 := fun X hX => rnum g A m c bs a 2 X 12 hX (by omega) (by omega)
  obtain ⟨g1, g2⟩ := two_six _ c3
  have hl64 := num_cut_lt (restL bs a) 2 6
  have hk64 := num_cut_lt (restL bs a) 8 6
  generalize num (cut (restL bs a) 2 12) = y at *
  generalize num (cut (restL bs a) 2 6) = l at *
  generalize num (cut (restL bs a) 8 6) = b at *
  have q1 : (y : Int) / 64 = (l : Int) := by omega
  have q2 : (y : Int) % 64 = (b : Int) := by omega
  obtain ⟨k, hk⟩ : ∃ k, b + 1 = k := ⟨_, rfl⟩
  have q3 : (b : Int) + 1 = (k : Int) := by omega
  rw [hk] at c4
  try rw [hk]
  have hl0 : l < 64 := by omega
  have hk0 : k ≤ 64 := by omega
  clear h c2 c3 g1 g2 hk64 hl64 hk
  go_enter Tryd.func73, Tryd.ntmps73
  go_wp2_with fail
  refine hR.mono ?_
  rintro e w1 ⟨rfl, hW⟩
  replace x3 := hW.box x3 hg
  replace x4 := hW.box x4 (by omega)
  replace hW := hb0.went hW
  clear hR hV hb0
  go_wp2_with fail
  refine (hR2 _ hW.1).mono ?_
  rintro e w2 ⟨rfl, hW2⟩
  replace x3 := hW2.box x3 hg
  replace x4 := hW2.box x4 (by omega)
  replace hW := hW.went hW2
  clear hR2 hW2
  clear w1
  obtain ⟨w1, rfl⟩ : ∃ X, X = w2 := ⟨_, rfl⟩
  obtain ⟨p0, p1, p2⟩ := x3.get3
  obtain ⟨e0, e1, e2⟩ := x3.free3
  go_upto_region 12 with fail
  clear p0 p1 p2 e0 e1 e2
  replace hW := (hW.put hg (Nat.le_refl _) 1 (.int .i64 (l : Int))).put hg (Nat.le_refl _) 2 (.int .i64 (k : Int))
  replace x4 := (x4.oth (d := w.heap.size) (by omega) 1 (.int .i64 (l : Int))).oth (d := w.heap.size) (by omega) 2 (.int .i64 (k : Int))
  replace x3 : BoxL ((w1.setCell ⟨w.heap.size, 1, none⟩ (.int .i64 (l : Int))).setCell ⟨w.heap.size, 2, none⟩ (.int .i64 (k : Int))) w.heap.size [.int .u64 (s.prev : Int), .int .i64 (l : Int), .int .i64 (k : Int)] := (x3.put 1 _).put 2 _
  generalize (w1.setCell ⟨w.heap.size, 1, none⟩ (.int .i64 (l : Int))).setCell ⟨w.heap.size, 2, none⟩ (.int .i64 (k : Int)) = w2 at *
  clear q1 q2 q3
  clear w1
  obtain ⟨w1, rfl⟩ : ∃ X, X = w2 := ⟨_, rfl⟩
  obtain ⟨p0, p1, p2⟩ := x3.get3
  have z4 := x4.all3 (.int .u64 0) (.int .i64 0) (.int .i64 0)
  have hZ := hW.put3 hg (Nat.le_succ _) (.int .u64 0) (.int .i64 0) (.int .i64 0)
  obtain ⟨f0, f1, f2⟩ := x4.free3
  obtain ⟨y0, y1, y2⟩ := x4.get3
  clear x4 hW
  clear x3
  go_wp2
  clear f0 f1 f2 y0 y1 y2
  generalize (((w1.setCell ⟨w.heap.size + 1, 0, none⟩ (.int .u64 0)).setCell ⟨w.heap.size + 1, 1, none⟩ (.int .i64 0)).setCell ⟨w.heap.size + 1, 2, none⟩ (.int .i64 0)) = Z at *
  obtain ⟨u0, u1, u2⟩ := z4.get3
  refine bodyPost_ret (v := .tuple #[.agg #[.int .u64 0, .int .i64 0, .int .i64 0], .int .i64 0, .iface 42 (.int .i64 3)]) ?_ rfl (.inl ⟨by simp [badW], rfl, _, hZ⟩)
  simp [results, Tryd.results73, go_sem, u0, u1, u2]

set_option maxRecDepth 20000 in
set_option maxHeartbeats 1000000 in
theorem bwin_new (g : Nat) (A : Option Addr) (m c : Nat) (bs : List Nat) (a : Nat) (s : XS) (w : World) (h : Rdr w g A m c bs (a + 1)) (_c1 : 2 ≤ (restL bs a).length) (c2 : (restL bs a).getD 1 false = true) (c3 : 14 ≤ (restL bs a).length)
    (c4 : num (cut (restL bs a) 2 6) + (num (cut (restL bs a) 8 6) + 1) ≤ 64) :
    Calls Tryd.prog 73 #[.pointer (some ⟨g, 0, none⟩), (.agg #[.int .u64 (s.prev : Int), .int .i64 (s.lead : Int), .int .i64 (s.len : Int)])] w (RetWin w g A m c bs a s) := by
  have hg := h.lt
  obtain ⟨hV, x3, x4⟩ := two_boxes w s
  have hb0 := (Wt.of h).below hV
  unfold RetWin
  have e : winX s (restL bs a) = ⟨num (cut (restL bs a) 2 6), num (cut (restL bs a) 8 6) + 1, 14, 0⟩ := by unfold winX; rw [if_neg (by omega), c2, if_neg (by simp), if_neg (by omega), if_neg (by omega)]
  rw [e]
  clear e
  have hR := rbit g A m c bs a 1 _ 1 hb0.1 (by omega) (by rw [c2]; rfl)
  have hR2 := fun X hX => rnum g A m c bs a 2 X 12 hX (by omega) (by omega)
  obtain ⟨g1, g2⟩ := two_six _ c3
  have hl64 := num_cut_lt (restL bs a) 2 6
  have hk64 := num_cut_lt (restL bs a) 8 6
  generalize num (cut (restL bs a) 2 12) = y at *
  generalize num (cut (restL bs a) 2 6) = l at *
  generalize num (cut (restL bs a) 8 6) = b at *
  have q1 : (y : Int) / 64 = (l : Int) := by omega
  have q2 : (y : Int) % 64 = (b : Int) := by omega
  obtain ⟨k, hk⟩ : ∃ k, b + 1 = k := ⟨_, rfl⟩
  have q3 : (b : Int) + 1 = (k : Int) := by omega
  rw [hk] at c4
  try rw [hk]
  have hl0 : l < 64 := by omega
  have hk0 : k ≤ 64 := by omega
  clear h c2 c3 g1 g2 hk64 hl64 hk
  go_enter Tryd.func73, Tryd.ntmps73
  go_wp2_with fail
  refine hR.mono ?_
  rintro e w1 ⟨rfl, hW⟩
  replace x3 := hW.box x3 hg
  replace x4 := hW.box x4 (by omega)
  replace hW := hb0.went hW
  clear hR hV hb0
  go_wp2_with fail
  refine (hR2 _ hW.1).mono ?_
  rintro e w2 ⟨rfl, hW2⟩
  replace x3 := hW2.box x3 hg
  replace x4 := hW2.box x4 (by omega)
  replace hW := hW.went hW2
  clear hR2 hW2
  clear w1
  obtain ⟨w1, rfl⟩ : ∃ X, X = w2 := ⟨_, rfl⟩
  obtain ⟨p0, p1, p2⟩ := x3.get3
  obtain ⟨e0, e1, e2⟩ := x3.free3
  go_upto_region 12 with fail
  clear p0 p1 p2 e0 e1 e2
  replace hW := (hW.put hg (Nat.le_refl _) 1 (.int .i64 (l : Int))).put hg (Nat.le_refl _) 2 (.int .i64 (k : Int))
  replace x4 := (x4.oth (d := w.heap.size) (by omega) 1 (.int .i64 (l : Int))).oth (d := w.heap.size) (by omega) 2 (.int .i64 (k : Int))
  replace x3 : BoxL ((w1.setCell ⟨w.heap.size, 1, none⟩ (.int .i64 (l : Int))).setCell ⟨w.heap.size, 2, none⟩ (.int .i64 (k : Int))) w.heap.size [.int .u64 (s.prev : Int), .int .i64 (l : Int), .int .i64 (k : Int)] := (x3.put 1 _).put 2 _
  generalize (w1.setCell ⟨w.heap.size, 1, none⟩ (.int .i64 (l : Int))).setCell ⟨w.heap.size, 2, none⟩ (.int .i64 (k : Int)) = w2 at *
  clear q1 q2 q3
  clear w1
  obtain ⟨w1, rfl⟩ : ∃ X, X = w2 := ⟨_, rfl⟩
  obtain ⟨p0, p1, p2⟩ := x3.get3
  have z4 := x4.all3 (.int .u64 (s.prev : Int)) (.int .i64 (l : Int)) (.int .i64 (k : Int))
  have hZ := hW.put3 hg (Nat.le_succ _) (.int .u64 (s.prev : Int)) (.int .i64 (l : Int)) (.int .i64 (k : Int))
  obtain ⟨f0, f1, f2⟩ := x4.free3
  obtain ⟨y0, y1, y2⟩ := x4.get3
  clear x3 x4 hW
  go_wp2
  clear f0 f1 f2 y0 y1 y2 p0 p1 p2
  generalize (((w1.setCell ⟨w.heap.size + 1, 0, none⟩ (.int .u64 (s.prev : Int))).setCell ⟨w.heap.size + 1, 1, none⟩ (.int .i64 (l : Int))).setCell ⟨w.heap.size + 1, 2, none⟩ (.int .i64 (k : Int))) = Z at *
  obtain ⟨u0, u1, u2⟩ := z4.get3
  refine bodyPost_ret (v := .tuple #[.agg #[.int .u64 (s.prev : Int), .int .i64 (l : Int), .int .i64 (k : Int)], .int .i64 14, .nilIface]) ?_ rfl (.inr ⟨by first | rfl | trivial, rfl, hZ⟩)
  simp [results, Tryd.results73, go_sem, u0, u1, u2]

theorem bwin_any (g : Nat) (A : Option Addr) (m c : Nat) (bs : List Nat) (a : Nat) (s : XS) (w : World) (h : Rdr w g A m c bs (a + 1)) (c1 : (restL bs a).length ≠ 0) :
    Calls Tryd.prog 73 #[.pointer (some ⟨g, 0, none⟩), (.agg #[.int .u64 (s.prev : Int), .int .i64 (s.lead : Int), .int .i64 (s.len : Int)])] w (RetWin w g A m c bs a s) := by
  by_cases h1 : (restL bs a).length = 1
  · exact bwin_short1 g A m c bs a s w h h1
  by_cases h2 : (restL bs a).getD 1 false = false
  · by_cases h3 : s.len = 0
    · exact bwin_none g A m c bs a s w h (by omega) h2 h3
    · exact bwin_old g A m c bs a s w h (by omega) h2 h3
  have h2' : (restL bs a).getD 1 false = true := by simpa using h2
  by_cases h3 : (restL bs a).length < 14
  · exact bwin_short2 g A m c bs a s w h (by omega) h2' h3
  by_cases h4 : 64 < num (cut (restL bs a) 2 6) + (num (cut (restL bs a) 8 6) + 1)
  · exact bwin_wide g A m c bs a s w h (by omega) h2' (by omega) h4
  · exact bwin_new g A m c bs a s w h (by omega) h2' (by omega) (by omega)

end Go.Proofs.YtnjohmgacmcdnaaDoor
