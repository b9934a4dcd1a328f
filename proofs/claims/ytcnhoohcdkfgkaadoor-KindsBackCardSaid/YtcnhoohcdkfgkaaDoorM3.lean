/-
  Texts of this proof, one behind the other: Put, Box, Box3, BoxL, Ways, MidApp, Solve, Is.
-/
import Derived.Test.YtcnhoohcdkfgkaaDoorM2
import Derived.Deep.RegionWith

/-
  The contract of the program's Put: bits, and the n lowest bits of a number behind them, in new memory.
-/
namespace Go.Proofs.YtcnhoohcdkfgkaaDoor
open Go.RowKit

/-- the world behind a box and the result's place -/
def boxed1 (w : World) (a b : Value) : World := (w.alloc (.cells #[a, b] 34)).alloc (.cells #[.slice none 0 0, .int .i64 0] 34)
theorem boxed1_size (w : World) (a b : Value) : (boxed1 w a b).heap.size = w.heap.size + 2 := by simp [boxed1]
theorem boxed1_below (w : World) (a b : Value) : Below w.heap.size w (boxed1 w a b) := ((Below.refl _ _).alloc (Nat.le_refl _) _).alloc (by simp) _
theorem boxed1_heap (w : World) (a b : Value) : (boxed1 w a b).heap[w.heap.size]? = some (.cells #[a, b] 34 (0, 0)) ∧
    (boxed1 w a b).heap[w.heap.size + 1]? = some (.cells #[.slice none 0 0, .int .i64 0] 34 (0, 0)) := by
  unfold boxed1
  refine ⟨?_, ?_⟩
  · rw [Below.heap_alloc _ _ _ (by simp)]
    exact heap_alloc_new w _
  · have := heap_alloc_new (w.alloc (.cells #[a, b] 34)) (.cells #[.slice none 0 0, .int .i64 0] 34)
    simpa using this
theorem boxed1_cells {w wx : World} {a b : Value} (h : Below (boxed1 w a b).heap.size (boxed1 w a b) wx) :
    (wx.cell? ⟨w.heap.size, 0, none⟩ = some a ∧ wx.cell? ⟨w.heap.size, 1, none⟩ = some b) ∧
    (wx.cell? ⟨w.heap.size + 1, 0, none⟩ = some (.slice none 0 0) ∧ wx.cell? ⟨w.heap.size + 1, 1, none⟩ = some (.int .i64 0)) ∧ wx.frozen? ⟨w.heap.size + 1, 0, none⟩ = false ∧ wx.frozen? ⟨w.heap.size + 1, 1, none⟩ = false := by
  have hs := boxed1_size w a b
  obtain ⟨e0, e1⟩ := boxed1_heap w a b
  rw [← h.block _ (by rw [hs]; omega)] at e0 e1
  exact ⟨⟨cell_of_row _ _ _ _ _ _ e0, cell_of_row _ _ _ _ _ _ e0⟩, ⟨cell_of_row _ _ _ _ _ _ e1, cell_of_row _ _ _ _ _ _ e1⟩, frozen_of_row _ _ _ _ _ e1, frozen_of_row _ _ _ _ _ e1⟩
set_option maxRecDepth 20000 in
set_option maxHeartbeats 400000 in
theorem put_yes (A : Option Addr) (m c : Nat) (p : List Bool) (v n : Nat) (w : World) (h1 : Rd w w.heap.size A m c (pack p)) (hp : p.length ≤ 1000000) (hn : n ≤ 64) :
    Calls Tryd.prog 46 #[.agg #[.slice A m c, .int .i64 ((p.length : Nat) : Int)], .int .u64 (v : Int), .int .i64 (n : Int)] w (RetBits w (p ++ low v n)) := by
  go_enter Tryd.func46, Tryd.ntmps46
  go_wp2
  go_region_with (first
    | (go_at_call 57; refine (lowest_any v n _ hn).mono ?_; rintro e w1 ⟨A2, c2, rfl, hown⟩; have hb1 : Below (boxed1 w (.slice A m c) (.int .i64 ((p.length : Nat) : Int))).heap.size (boxed1 w (.slice A m c) (.int .i64 ((p.length : Nat) : Int))) w1 := below_like hown.bel rfl rfl rfl rfl; have hw1 : Below w.heap.size w w1 := (boxed1_below w _ _).trans (hb1.mono (by rw [boxed1_size]; omega)); obtain ⟨⟨cx0, cx1⟩, _⟩ := boxed1_cells hb1)
    | (go_at_call 17; refine (join_any _ _ _ _ _ _ p (low v n) _ ((h1.below hw1).more hw1.size) hown.rd (by omega) (by rw [low_length]; omega)).mono ?_; rintro e w3 ⟨A3, c3, rfl, hown3⟩; obtain ⟨_, ⟨cr0, cr1⟩, fr0, fr1⟩ := boxed1_cells (hb1.trans (hown3.bel.mono hb1.size))))
  all_goals go_wp2
  all_goals
    have e : ((p.length : Nat) : Int) + (((low v n).length : Nat) : Int) = (((p ++ low v n).length : Nat) : Int) := by simp
    rw [e]
    refine bodyPost_ret (v := .agg #[.slice A3 (pack (p ++ low v n)).length c3, .int .i64 (((p ++ low v n).length : Nat) : Int)]) ?_ rfl ?_
    · simp [results, Tryd.results46, go_sem, cr0, cr1]
    · exact RetBits.mk (hown3.past2 hw1 (by simp) (by have := hb1.size; rw [boxed1_size] at this; exact this) (by simp) (by have := hb1.size; rw [boxed1_size] at this; exact this) _ _) rfl

set_option maxRecDepth 20000 in
set_option maxHeartbeats 400000 in
theorem put_no (A : Option Addr) (m c : Nat) (p : List Bool) (v : Nat) (n : Int) (w : World) (h1 : Rd w w.heap.size A m c (pack p)) (hp : p.length ≤ 1000000) (hn : n < 0 ∨ (0 ≤ n ∧ 64 < n)) :
    Calls Tryd.prog 46 #[.agg #[.slice A m c, .int .i64 ((p.length : Nat) : Int)], .int .u64 (v : Int), .int .i64 n] w (RetBits w p) := by
  have HE : Hid (p ++ low v 0 = p) := Lib.hid (by simp [low])
  rcases hn with hn | hn
  all_goals
    go_enter Tryd.func46, Tryd.ntmps46
    go_wp2
    go_region_with (first
      | (go_at_call 57; refine (lowest_any v 0 _ (by omega)).mono ?_; rintro e w1 ⟨A2, c2, rfl, hown⟩; have hb1 : Below (boxed1 w (.slice A m c) (.int .i64 ((p.length : Nat) : Int))).heap.size (boxed1 w (.slice A m c) (.int .i64 ((p.length : Nat) : Int))) w1 := below_like hown.bel rfl rfl rfl rfl; have hw1 : Below w.heap.size w w1 := (boxed1_below w _ _).trans (hb1.mono (by rw [boxed1_size]; omega)); obtain ⟨⟨cx0, cx1⟩, _⟩ := boxed1_cells hb1)
      | (go_at_call 17; refine (join_any _ _ _ _ _ _ p (low v 0) _ ((h1.below hw1).more hw1.size) hown.rd (by omega) (by rw [low_length]; omega)).mono ?_; rintro e w3 ⟨A3, c3, rfl, hown3⟩; obtain ⟨_, ⟨cr0, cr1⟩, fr0, fr1⟩ := boxed1_cells (hb1.trans (hown3.bel.mono hb1.size))))
    all_goals go_wp2
    all_goals
      have e : ((p.length : Nat) : Int) + (((low v 0).length : Nat) : Int) = (((p ++ low v 0).length : Nat) : Int) := by simp
      rw [e]
      rw [HE.out] at hown3 ⊢
      refine bodyPost_ret (v := .agg #[.slice A3 (pack p).length c3, .int .i64 ((p.length : Nat) : Int)]) ?_ rfl ?_
      · simp [results, Tryd.results46, go_sem, cr0, cr1]
      · exact RetBits.mk (hown3.past2 hw1 (by simp) (by have := hb1.size; rw [boxed1_size] at this; exact this) (by simp) (by have := hb1.size; rw [boxed1_size] at this; exact this) _ _) rfl

end Go.Proofs.YtcnhoohcdkfgkaaDoor

/-
  A box of two cells in memory; the contract of bits.Put, its lists and numbers under names.
-/
namespace Go.Proofs.YtcnhoohcdkfgkaaDoor
open Go.RowKit

/-- a box of two cells -/
structure BoxAt (w : World) (b : Nat) (s n : Value) : Prop where
  lt : b < w.heap.size
  c0 : w.cell? ⟨b, 0, none⟩ = some s
  c1 : w.cell? ⟨b, 1, none⟩ = some n
  f0 : w.frozen? ⟨b, 0, none⟩ = false
  f1 : w.frozen? ⟨b, 1, none⟩ = false
theorem BoxAt.new (w : World) (s n : Value) (t : TypeId) : BoxAt (w.alloc (.cells #[s, n] t)) w.heap.size s n := by
  obtain ⟨h0, h1, g0, g1⟩ := two_new (w := w) (a := s) (b := n) (t := t) (Below.refl _ _)
  exact ⟨by simp, h0, h1, g0, g1⟩
theorem BoxAt.below {w w' : World} {b : Nat} {s n : Value} (h : BoxAt w b s n) (hb : Below w.heap.size w w') : BoxAt w' b s n :=
  ⟨Nat.lt_of_lt_of_le h.lt hb.size, (hb.cell (p := ⟨b, 0, none⟩) h.lt).trans h.c0, (hb.cell (p := ⟨b, 1, none⟩) h.lt).trans h.c1, (hb.frozen (p := ⟨b, 0, none⟩) h.lt).trans h.f0, (hb.frozen (p := ⟨b, 1, none⟩) h.lt).trans h.f1⟩
theorem BoxAt.drew {w : World} {b : Nat} {s n : Value} (h : BoxAt w b s n) : BoxAt w.drew b s n := ⟨h.lt, h.c0, h.c1, h.f0, h.f1⟩
theorem BoxAt.set {w : World} {b : Nat} {s n : Value} (h : BoxAt w b s n) (s' n' : Value) : BoxAt ((w.setCell ⟨b, 0, none⟩ s').setCell ⟨b, 1, none⟩ n') b s' n' := by
  have c0 := h.c0
  have c1 := h.c1
  have f0 := h.f0
  have f1 := h.f1
  refine ⟨by simpa using h.lt, ?_, ?_, ?_, ?_⟩ <;> go_simp
theorem BoxAt.other {w : World} {b d : Nat} {s n : Value} (h : BoxAt w b s n) (hd : b ≠ d) (u u' : Value) : BoxAt ((w.setCell ⟨d, 0, none⟩ u).setCell ⟨d, 1, none⟩ u') b s n := by
  have c0 := h.c0
  have c1 := h.c1
  have f0 := h.f0
  have f1 := h.f1
  refine ⟨by simpa using h.lt, ?_, ?_, ?_, ?_⟩ <;> go_simp

/-- Put, its lists and numbers under names -/
theorem put_as (A : Option Addr) (m c : Nat) (p q : List Bool) (v n : Nat) (vz nz Lz : Int) (M : Nat) (w : World) (h1 : Rd w w.heap.size A m c (pack p)) (hL : Lz = ((p.length : Nat) : Int)) (hv : vz = (v : Int)) (hnz : nz = (n : Int)) (hq : q = p ++ low v n) (hM : q.length = M) (hp : p.length ≤ 1000000) (hn : n ≤ 64) :
    Calls Tryd.prog 46 #[.agg #[.slice A m c, .int .i64 Lz], .int .u64 vz, .int .i64 nz] w
      fun e w' => ∃ A c, e = .returned (.agg #[.slice A (pack q).length c, .int .i64 (M : Int)]) ∧ Own w w' (.slice A (pack q).length c) (pack q) := by
  subst hL hv hnz hM hq
  exact put_yes A m c p v n w h1 hp hn

theorem Rd.onA {w : World} {A : Option Addr} {n c : Nat} {bs : List Nat} (h : Rd w w.heap.size A n c bs) (o : Obj) : Rd (w.alloc o) (w.alloc o).heap.size A n c bs :=
  (h.below ((Below.refl _ _).alloc (Nat.le_refl _) o)).more (by simp)
theorem BoxAt.onA {w : World} {b : Nat} {s n : Value} (h : BoxAt w b s n) (o : Obj) : BoxAt (w.alloc o) b s n := h.below ((Below.refl _ _).alloc (Nat.le_refl _) o)
theorem BoxAt.then_ {w : World} {b : Nat} {s n : Value} (_ : BoxAt w b s n) (s' n' : Value) (t : TypeId) : BoxAt (w.alloc (.cells #[s', n'] t)) w.heap.size s' n' := BoxAt.new w s' n' t

end Go.Proofs.YtcnhoohcdkfgkaaDoor

/-
  A box of three cells in memory.
-/
namespace Go.Proofs.YtcnhoohcdkfgkaaDoor
open Go.RowKit

theorem below_drewN {B : Nat} {a w : World} (h : Below B a w) (n : Nat) : Below B a (w.drewN n) := ⟨h.os, h.tape, h.output, h.size, h.block⟩

/-- a box of three cells -/
structure Box3 (w : World) (b : Nat) (s n t : Value) : Prop where
  lt : b < w.heap.size
  c0 : w.cell? ⟨b, 0, none⟩ = some s
  c1 : w.cell? ⟨b, 1, none⟩ = some n
  c2 : w.cell? ⟨b, 2, none⟩ = some t
  f0 : w.frozen? ⟨b, 0, none⟩ = false
  f1 : w.frozen? ⟨b, 1, none⟩ = false
  f2 : w.frozen? ⟨b, 2, none⟩ = false
theorem Box3.new (w : World) (s n t : Value) (ty : TypeId) : Box3 (w.alloc (.cells #[s, n, t] ty)) w.heap.size s n t := by
  refine ⟨by simp, ?_, ?_, ?_, ?_, ?_, ?_⟩ <;> go_simp
theorem Box3.below {w w' : World} {b : Nat} {s n t : Value} (h : Box3 w b s n t) (hb : Below w.heap.size w w') : Box3 w' b s n t :=
  ⟨Nat.lt_of_lt_of_le h.lt hb.size, (hb.cell (p := ⟨b, 0, none⟩) h.lt).trans h.c0, (hb.cell (p := ⟨b, 1, none⟩) h.lt).trans h.c1, (hb.cell (p := ⟨b, 2, none⟩) h.lt).trans h.c2,
    (hb.frozen (p := ⟨b, 0, none⟩) h.lt).trans h.f0, (hb.frozen (p := ⟨b, 1, none⟩) h.lt).trans h.f1, (hb.frozen (p := ⟨b, 2, none⟩) h.lt).trans h.f2⟩
theorem Box3.drew {w : World} {b : Nat} {s n t : Value} (h : Box3 w b s n t) : Box3 w.drew b s n t := ⟨h.lt, h.c0, h.c1, h.c2, h.f0, h.f1, h.f2⟩
theorem Box3.drewN {w : World} {b : Nat} {s n t : Value} (h : Box3 w b s n t) (k : Nat) : Box3 (w.drewN k) b s n t := ⟨h.lt, h.c0, h.c1, h.c2, h.f0, h.f1, h.f2⟩
theorem Box3.set {w : World} {b : Nat} {s n t : Value} (h : Box3 w b s n t) (s' n' t' : Value) : Box3 (((w.setCell ⟨b, 0, none⟩ s').setCell ⟨b, 1, none⟩ n').setCell ⟨b, 2, none⟩ t') b s' n' t' := by
  have c0 := h.c0
  have c1 := h.c1
  have c2 := h.c2
  have f0 := h.f0
  have f1 := h.f1
  have f2 := h.f2
  refine ⟨by simpa using h.lt, ?_, ?_, ?_, ?_, ?_, ?_⟩ <;> go_simp
theorem Box3.other {w : World} {b d : Nat} {s n t : Value} (h : Box3 w b s n t) (hd : b ≠ d) (k : Nat) (u : Value) : Box3 (w.setCell ⟨d, k, none⟩ u) b s n t := by
  have c0 := h.c0
  have c1 := h.c1
  have c2 := h.c2
  have f0 := h.f0
  have f1 := h.f1
  have f2 := h.f2
  refine ⟨by simpa using h.lt, ?_, ?_, ?_, ?_, ?_, ?_⟩ <;> go_simp
theorem Box3.onA {w : World} {b : Nat} {s n t : Value} (h : Box3 w b s n t) (o : Obj) : Box3 (w.alloc o) b s n t := h.below ((Below.refl _ _).alloc (Nat.le_refl _) o)

theorem BoxAt.oth {w : World} {b d : Nat} {s n : Value} (h : BoxAt w b s n) (hd : b ≠ d) (k : Nat) (u : Value) : BoxAt (w.setCell ⟨d, k, none⟩ u) b s n := by
  have c0 := h.c0
  have c1 := h.c1
  have f0 := h.f0
  have f1 := h.f1
  refine ⟨by simpa using h.lt, ?_, ?_, ?_, ?_⟩ <;> go_simp
/-- a box of two and one of three cells -/
structure Two23 (w : World) (b d : Nat) (s n x y z : Value) : Prop where
  e0 : w.cell? ⟨b, 0, none⟩ = some s
  e1 : w.cell? ⟨b, 1, none⟩ = some n
  g0 : w.cell? ⟨d, 0, none⟩ = some x
  g1 : w.cell? ⟨d, 1, none⟩ = some y
  g2 : w.cell? ⟨d, 2, none⟩ = some z
theorem Two23.of {w : World} {b d : Nat} {s n x y z : Value} (h : BoxAt w b s n) (h' : Box3 w d x y z) : Two23 w b d s n x y z := ⟨h.c0, h.c1, h'.c0, h'.c1, h'.c2⟩
/-- both written, the one of two ahead -/
theorem Two23.one {w : World} {b d : Nat} {s n x y z : Value} (h : BoxAt w b s n) (h' : Box3 w d x y z) (hd : b ≠ d) (s' n' x' y' z' : Value) :
    Two23 (((((w.setCell ⟨b, 0, none⟩ s').setCell ⟨b, 1, none⟩ n').setCell ⟨d, 0, none⟩ x').setCell ⟨d, 1, none⟩ y').setCell ⟨d, 2, none⟩ z') b d s' n' x' y' z' :=
  Two23.of ((((h.set s' n').oth hd 0 x').oth hd 1 y').oth hd 2 z') (((h'.other (Ne.symm hd) 0 s').other (Ne.symm hd) 1 n').set x' y' z')
/-- both written, the one of three ahead -/
theorem Two23.two {w : World} {b d : Nat} {s n x y z : Value} (h : BoxAt w b s n) (h' : Box3 w d x y z) (hd : b ≠ d) (s' n' x' y' z' : Value) :
    Two23 (((((w.setCell ⟨d, 0, none⟩ x').setCell ⟨d, 1, none⟩ y').setCell ⟨d, 2, none⟩ z').setCell ⟨b, 0, none⟩ s').setCell ⟨b, 1, none⟩ n') b d s' n' x' y' z' :=
  Two23.of ((((h.oth hd 0 x').oth hd 1 y').oth hd 2 z').set s' n') (((h'.set x' y' z').other (Ne.symm hd) 0 s').other (Ne.symm hd) 1 n')

/-- bytes of the call's own, made behind block B; of what lay in w0 nothing has turned -/
structure Mid (w0 : World) (B : Nat) (w : World) (v : Value) (bs : List Nat) : Prop where
  row : w.ownsRow B 5 1 v bs.length (bvals bs)
  bel : Below w0.heap.size w0 w
  le : w0.heap.size ≤ B
theorem Mid.of {w0 w1 w : World} {v : Value} {bs : List Nat} (h : Own w1 w v bs) (hb : Below w0.heap.size w0 w1) : Mid w0 w1.heap.size w v bs := ⟨h.row, hb.trans (h.bel.mono hb.size), hb.size⟩
theorem Mid.set {w0 w : World} {B : Nat} {v : Value} {bs : List Nat} (h : Mid w0 B w v bs) (p : Addr) (u : Value) (h0 : w0.heap.size ≤ p.block) (h1 : p.block < B) : Mid w0 B (w.setCell p u) v bs :=
  ⟨ownsRow_setCell_below h.row h1 u, h.bel.setCell h0 u, h.le⟩
theorem Mid.own {w0 w : World} {B : Nat} {v : Value} {bs : List Nat} (h : Mid w0 B w v bs) : Own w0 w v bs := by
  refine ⟨⟨h.row.1, ?_⟩, h.bel⟩
  rcases h.row.2 with h1 | ⟨g, cap, cur, hv, hg, r⟩
  · exact .inl h1
  · exact .inr ⟨g, cap, cur, hv, Nat.le_trans h.le hg, r⟩

end Go.Proofs.YtcnhoohcdkfgkaaDoor

/-
  A box of any number of cells in memory, told by the list of what they hold.
-/
namespace Go.Proofs.YtcnhoohcdkfgkaaDoor
open Go.RowKit

/-- a box of cells in memory, none of them shut -/
structure BoxL (w : World) (g : Nat) (l : List Value) : Prop where
  lt : g < w.heap.size
  cell : ∀ i v, l[i]? = some v → w.cell? ⟨g, i, none⟩ = some v
  free : ∀ i v, l[i]? = some v → w.frozen? ⟨g, i, none⟩ = false

section
variable {w w' : World} {g : Nat} {l : List Value}
theorem BoxL.new (w : World) (l : List Value) (t : TypeId) : BoxL (w.alloc (.cells l.toArray t)) w.heap.size l :=
  ⟨by simp, fun i v h => by rw [World.cell?_alloc_at _ _ _ _ rfl]; simpa using h, fun i v h => World.frozen?_alloc_at _ _ _ _ rfl⟩
theorem BoxL.below (h : BoxL w g l) (hb : Below w.heap.size w w') : BoxL w' g l :=
  ⟨Nat.lt_of_lt_of_le h.lt hb.size, fun i v hi => (hb.cell (p := ⟨g, i, none⟩) h.lt).trans (h.cell i v hi), fun i v hi => (hb.frozen (p := ⟨g, i, none⟩) h.lt).trans (h.free i v hi)⟩
theorem BoxL.drew (h : BoxL w g l) : BoxL w.drew g l := ⟨h.lt, h.cell, h.free⟩
theorem BoxL.drewN (h : BoxL w g l) (k : Nat) : BoxL (w.drewN k) g l := ⟨h.lt, h.cell, h.free⟩
theorem BoxL.onA (h : BoxL w g l) (o : Obj) : BoxL (w.alloc o) g l := h.below ((Below.refl _ _).alloc (Nat.le_refl _) o)
theorem BoxL.oth (h : BoxL w g l) {d : Nat} (hd : g ≠ d) (k : Nat) (u : Value) : BoxL (w.setCell ⟨d, k, none⟩ u) g l :=
  ⟨by simpa using h.lt, fun i v hi => (World.cell?_setCell_other w ⟨d, k, none⟩ ⟨g, i, none⟩ u (fun e => hd (by injection e with e; exact e.symm))).trans (h.cell i v hi), fun i v hi => (World.frozen?_setCell ..).trans (h.free i v hi)⟩
theorem BoxL.put (h : BoxL w g l) (k : Nat) (u : Value) : BoxL (w.setCell ⟨g, k, none⟩ u) g (l.set k u) := by
  refine ⟨by simpa using h.lt, fun i v hi => ?_, fun i v hi => ?_⟩
  · rw [List.getElem?_set] at hi
    split at hi
    · rename_i e
      subst e
      split at hi
      · rename_i hk
        injection hi with hi
        subst hi
        exact World.cell?_setCell_same w ⟨g, k, none⟩ u (h.cell k l[k] (List.getElem?_eq_getElem hk))
      · cases hi
    · rename_i e
      exact (World.cell?_setCell_other w ⟨g, k, none⟩ ⟨g, i, none⟩ u (fun e' => e (by injection e'))).trans (h.cell i v hi)
  · rw [World.frozen?_setCell]
    rw [List.getElem?_set] at hi
    split at hi
    · rename_i e
      subst e
      split at hi
      · rename_i hk
        exact h.free k l[k] (List.getElem?_eq_getElem hk)
      · cases hi
    · exact h.free i v hi
theorem BoxL.grown (h : BoxL w g l) {row : Option Nat} (hg : w.grownBy w' row) (hne : row ≠ some g) : BoxL w' g l :=
  ⟨Nat.lt_of_lt_of_le h.lt hg.size, fun i v hi => (World.cell?_of_block (a := ⟨g, i, none⟩) (hg.block g h.lt (fun e => hne e.symm))).trans (h.cell i v hi),
    fun i v hi => (World.frozen?_of_block (a := ⟨g, i, none⟩) (hg.block g h.lt (fun e => hne e.symm))).trans (h.free i v hi)⟩
end

section
variable {w : World} {g : Nat}
theorem BoxL.two {a b : Value} (h : BoxL w g [a, b]) : BoxAt w g a b := ⟨h.lt, h.cell 0 _ rfl, h.cell 1 _ rfl, h.free 0 _ rfl, h.free 1 _ rfl⟩
theorem BoxAt.list {a b : Value} (h : BoxAt w g a b) : BoxL w g [a, b] :=
  ⟨h.lt, fun i v hi => by
    match i, hi with
    | 0, hi => injection hi with hi; subst hi; exact h.c0
    | 1, hi => injection hi with hi; subst hi; exact h.c1, fun i v hi => by
    match i, hi with
    | 0, hi => exact h.f0
    | 1, hi => exact h.f1⟩
theorem BoxL.three {a b c : Value} (h : BoxL w g [a, b, c]) : Box3 w g a b c := ⟨h.lt, h.cell 0 _ rfl, h.cell 1 _ rfl, h.cell 2 _ rfl, h.free 0 _ rfl, h.free 1 _ rfl, h.free 2 _ rfl⟩
/-- eight cells, and that none is shut -/
theorem BoxL.get8 {a0 a1 a2 a3 a4 a5 a6 a7 : Value} (h : BoxL w g [a0, a1, a2, a3, a4, a5, a6, a7]) :
    w.cell? ⟨g, 0, none⟩ = some a0 ∧ w.cell? ⟨g, 1, none⟩ = some a1 ∧ w.cell? ⟨g, 2, none⟩ = some a2 ∧ w.cell? ⟨g, 3, none⟩ = some a3 ∧ w.cell? ⟨g, 4, none⟩ = some a4 ∧ w.cell? ⟨g, 5, none⟩ = some a5 ∧ w.cell? ⟨g, 6, none⟩ = some a6 ∧ w.cell? ⟨g, 7, none⟩ = some a7 :=
  ⟨h.cell 0 _ rfl, h.cell 1 _ rfl, h.cell 2 _ rfl, h.cell 3 _ rfl, h.cell 4 _ rfl, h.cell 5 _ rfl, h.cell 6 _ rfl, h.cell 7 _ rfl⟩
theorem BoxL.free8 {a0 a1 a2 a3 a4 a5 a6 a7 : Value} (h : BoxL w g [a0, a1, a2, a3, a4, a5, a6, a7]) :
    w.frozen? ⟨g, 0, none⟩ = false ∧ w.frozen? ⟨g, 1, none⟩ = false ∧ w.frozen? ⟨g, 2, none⟩ = false ∧ w.frozen? ⟨g, 3, none⟩ = false ∧ w.frozen? ⟨g, 4, none⟩ = false ∧ w.frozen? ⟨g, 5, none⟩ = false ∧ w.frozen? ⟨g, 6, none⟩ = false ∧ w.frozen? ⟨g, 7, none⟩ = false :=
  ⟨h.free 0 _ rfl, h.free 1 _ rfl, h.free 2 _ rfl, h.free 3 _ rfl, h.free 4 _ rfl, h.free 5 _ rfl, h.free 6 _ rfl, h.free 7 _ rfl⟩
/-- all cells written, one behind the other -/
theorem BoxL.all2 {a0 a1 : Value} (h : BoxL w g [a0, a1]) (u0 u1 : Value) : BoxL ((w.setCell ⟨g, 0, none⟩ u0).setCell ⟨g, 1, none⟩ u1) g [u0, u1] := (h.put 0 u0).put 1 u1
theorem BoxL.all3 {a0 a1 a2 : Value} (h : BoxL w g [a0, a1, a2]) (u0 u1 u2 : Value) : BoxL (((w.setCell ⟨g, 0, none⟩ u0).setCell ⟨g, 1, none⟩ u1).setCell ⟨g, 2, none⟩ u2) g [u0, u1, u2] := ((h.put 0 u0).put 1 u1).put 2 u2
theorem BoxL.all8 {a0 a1 a2 a3 a4 a5 a6 a7 : Value} (h : BoxL w g [a0, a1, a2, a3, a4, a5, a6, a7]) (u0 u1 u2 u3 u4 u5 u6 u7 : Value) :
    BoxL ((((((((w.setCell ⟨g, 0, none⟩ u0).setCell ⟨g, 1, none⟩ u1).setCell ⟨g, 2, none⟩ u2).setCell ⟨g, 3, none⟩ u3).setCell ⟨g, 4, none⟩ u4).setCell ⟨g, 5, none⟩ u5).setCell ⟨g, 6, none⟩ u6).setCell ⟨g, 7, none⟩ u7) g [u0, u1, u2, u3, u4, u5, u6, u7] :=
  (((((((h.put 0 u0).put 1 u1).put 2 u2).put 3 u3).put 4 u4).put 5 u5).put 6 u6).put 7 u7
theorem BoxL.oth2 {l : List Value} (h : BoxL w g l) {d : Nat} (hd : g ≠ d) (u0 u1 : Value) : BoxL ((w.setCell ⟨d, 0, none⟩ u0).setCell ⟨d, 1, none⟩ u1) g l := (h.oth hd 0 u0).oth hd 1 u1
theorem BoxL.oth8 {l : List Value} (h : BoxL w g l) {d : Nat} (hd : g ≠ d) (u0 u1 u2 u3 u4 u5 u6 u7 : Value) :
    BoxL ((((((((w.setCell ⟨d, 0, none⟩ u0).setCell ⟨d, 1, none⟩ u1).setCell ⟨d, 2, none⟩ u2).setCell ⟨d, 3, none⟩ u3).setCell ⟨d, 4, none⟩ u4).setCell ⟨d, 5, none⟩ u5).setCell ⟨d, 6, none⟩ u6).setCell ⟨d, 7, none⟩ u7) g l :=
  (((((((h.oth hd 0 u0).oth hd 1 u1).oth hd 2 u2).oth hd 3 u3).oth hd 4 u4).oth hd 5 u5).oth hd 6 u6).oth hd 7 u7
end
theorem below_set {B : Nat} {a w : World} (h : Below B a w) {d : Nat} (hd : B ≤ d) (k : Nat) (u : Value) : Below B a (w.setCell ⟨d, k, none⟩ u) := h.setCell (p := ⟨d, k, none⟩) hd u
theorem below_set2 {B : Nat} {a w : World} (h : Below B a w) {d : Nat} (hd : B ≤ d) (u0 u1 : Value) : Below B a ((w.setCell ⟨d, 0, none⟩ u0).setCell ⟨d, 1, none⟩ u1) := below_set (below_set h hd 0 u0) hd 1 u1
theorem below_set8 {B : Nat} {a w : World} (h : Below B a w) {d : Nat} (hd : B ≤ d) (u0 u1 u2 u3 u4 u5 u6 u7 : Value) :
    Below B a ((((((((w.setCell ⟨d, 0, none⟩ u0).setCell ⟨d, 1, none⟩ u1).setCell ⟨d, 2, none⟩ u2).setCell ⟨d, 3, none⟩ u3).setCell ⟨d, 4, none⟩ u4).setCell ⟨d, 5, none⟩ u5).setCell ⟨d, 6, none⟩ u6).setCell ⟨d, 7, none⟩ u7) :=
  below_set (below_set (below_set (below_set (below_set (below_set (below_set (below_set h hd 0 u0) hd 1 u1) hd 2 u2) hd 3 u3) hd 4 u4) hd 5 u5) hd 6 u6) hd 7 u7

theorem BoxAt.get2 {w : World} {g : Nat} {a b : Value} (h : BoxAt w g a b) : w.cell? ⟨g, 0, none⟩ = some a ∧ w.cell? ⟨g, 1, none⟩ = some b := ⟨h.c0, h.c1⟩
theorem BoxL.get2 {w : World} {g : Nat} {a b : Value} (h : BoxL w g [a, b]) : w.cell? ⟨g, 0, none⟩ = some a ∧ w.cell? ⟨g, 1, none⟩ = some b := ⟨h.cell 0 _ rfl, h.cell 1 _ rfl⟩
theorem BoxL.get3 {w : World} {g : Nat} {a b c : Value} (h : BoxL w g [a, b, c]) : w.cell? ⟨g, 0, none⟩ = some a ∧ w.cell? ⟨g, 1, none⟩ = some b ∧ w.cell? ⟨g, 2, none⟩ = some c := ⟨h.cell 0 _ rfl, h.cell 1 _ rfl, h.cell 2 _ rfl⟩
theorem BoxL.free2 {w : World} {g : Nat} {a b : Value} (h : BoxL w g [a, b]) : w.frozen? ⟨g, 0, none⟩ = false ∧ w.frozen? ⟨g, 1, none⟩ = false := ⟨h.free 0 _ rfl, h.free 1 _ rfl⟩
theorem BoxL.free3 {w : World} {g : Nat} {a b c : Value} (h : BoxL w g [a, b, c]) : w.frozen? ⟨g, 0, none⟩ = false ∧ w.frozen? ⟨g, 1, none⟩ = false ∧ w.frozen? ⟨g, 2, none⟩ = false := ⟨h.free 0 _ rfl, h.free 1 _ rfl, h.free 2 _ rfl⟩

theorem Mid.set2 {w0 w : World} {B : Nat} {v : Value} {bs : List Nat} (h : Mid w0 B w v bs) {g : Nat} (h0 : w0.heap.size ≤ g) (h1 : g < B) (u0 u1 : Value) : Mid w0 B ((w.setCell ⟨g, 0, none⟩ (u0)).setCell ⟨g, 1, none⟩ (u1)) v bs :=
  (h.set ⟨g, 0, none⟩ u0 h0 h1).set ⟨g, 1, none⟩ u1 h0 h1
theorem Mid.set8 {w0 w : World} {B : Nat} {v : Value} {bs : List Nat} (h : Mid w0 B w v bs) {g : Nat} (h0 : w0.heap.size ≤ g) (h1 : g < B) (u0 u1 u2 u3 u4 u5 u6 u7 : Value) : Mid w0 B ((((((((w.setCell ⟨g, 0, none⟩ (u0)).setCell ⟨g, 1, none⟩ (u1)).setCell ⟨g, 2, none⟩ (u2)).setCell ⟨g, 3, none⟩ (u3)).setCell ⟨g, 4, none⟩ (u4)).setCell ⟨g, 5, none⟩ (u5)).setCell ⟨g, 6, none⟩ (u6)).setCell ⟨g, 7, none⟩ (u7)) v bs :=
  (((((((h.set ⟨g, 0, none⟩ u0 h0 h1).set ⟨g, 1, none⟩ u1 h0 h1).set ⟨g, 2, none⟩ u2 h0 h1).set ⟨g, 3, none⟩ u3 h0 h1).set ⟨g, 4, none⟩ u4 h0 h1).set ⟨g, 5, none⟩ u5 h0 h1).set ⟨g, 6, none⟩ u6 h0 h1).set ⟨g, 7, none⟩ u7 h0 h1
theorem Mid.on {w0 w w2 : World} {B : Nat} {v : Value} {bs : List Nat} (h : Mid w0 B w v bs) (hb : Below w.heap.size w w2) : Mid w0 B w2 v bs := by
  refine ⟨⟨h.row.1, ?_⟩, h.bel.trans (hb.mono h.bel.size), h.le⟩
  rcases h.row.2 with h1 | ⟨g, cap, cur, hv, hg, hh, r⟩
  · exact .inl h1
  · refine .inr ⟨g, cap, cur, hv, hg, ?_, r⟩
    rw [hb.block g (by
      rcases Nat.lt_or_ge g w.heap.size with hlt | hge
      · exact hlt
      · rw [Array.getElem?_eq_none hge] at hh; cases hh)]
    exact hh

end Go.Proofs.YtcnhoohcdkfgkaaDoor

/-
  The contracts of bits.Join and of the laws' own Bits, their lists and numbers under names.
-/
namespace Go.Proofs.YtcnhoohcdkfgkaaDoor
open Go.RowKit

/-- Join, its lists and numbers under names -/
theorem join_as (A1 A2 : Option Addr) (m1 c1 m2 c2 : Nat) (p q r : List Bool) (L1 L2 : Int) (M : Nat) (w : World) (h1 : Rd w w.heap.size A1 m1 c1 (pack p)) (h2 : Rd w w.heap.size A2 m2 c2 (pack q)) (hL1 : L1 = ((p.length : Nat) : Int)) (hL2 : L2 = ((q.length : Nat) : Int)) (hr : r = p ++ q) (hM : r.length = M) (hp : p.length ≤ 100000) (hq : q.length ≤ 100000) :
    Calls Tryd.prog 17 #[.agg #[.slice A1 m1 c1, .int .i64 L1], .agg #[.slice A2 m2 c2, .int .i64 L2]] w
      fun e w' => ∃ A c, e = .returned (.agg #[.slice A (pack r).length c, .int .i64 (M : Int)]) ∧ Own w w' (.slice A (pack r).length c) (pack r) := by
  subst hL1 hL2 hM hr
  exact join_any A1 A2 m1 c1 m2 c2 p q w h1 h2 (by omega) (by omega)
/-- Bits, its list and number under names -/
theorem bits_as (A : Option Addr) (n c : Nat) (l : List Nat) (p : List Bool) (w : World) (h : Rd w w.heap.size A n c l) (hb : ∀ x ∈ l, x < 256) (hn : n ≤ 1000) (hp : p = odd l) :
    Calls Tryd.prog 16 #[.slice A n c] w fun e w' => ∃ A' c', e = .returned (.agg #[.slice A' (pack p).length c', .int .i64 (n : Int)]) ∧ Own w w' (.slice A' (pack p).length c') (pack p) := by
  subst hp
  refine (lawbits_any A n c l w h hb (by omega)).mono ?_
  rintro e w' ⟨A', c', he, ho⟩
  rw [odd_length, h.len] at he
  exact ⟨A', c', he, ho⟩

end Go.Proofs.YtcnhoohcdkfgkaaDoor

/-
  append onto bytes of the call's own that lie behind block B, whatever was written ahead of B.
-/
namespace Go.Proofs.YtcnhoohcdkfgkaaDoor
open Go.RowKit

theorem BoxL.belowB {w w' : World} {g B : Nat} {l : List Value} (h : BoxL w g l) (hb : Below B w w') (hg : g < B) : BoxL w' g l :=
  ⟨Nat.lt_of_lt_of_le h.lt hb.size, fun i v hi => (hb.cell (p := ⟨g, i, none⟩) hg).trans (h.cell i v hi), fun i v hi => (hb.frozen (p := ⟨g, i, none⟩) hg).trans (h.free i v hi)⟩
set_option maxRecDepth 20000 in
theorem run_appM (ty : TypeId) {w0 w : World} {B B2 : Nat} {v : Value} {bs cs : List Nat} {A : Option Addr} {m c : Nat} (hown : Mid w0 B w v bs) (hB : B ≤ w.heap.size) (hr : Rd w B2 A m c cs) (hm : bs.length + m ≤ 1073741824) :
    ∃ v' w', (Builtin.append_ #[23, 23] ty #[v, .slice A m c]).run Tryd.prog w = .ok v' w' ∧ Mid w0 B w' v' (bs ++ cs) ∧ Below B w w' ∧ w.grownBy w' v.ownBlock := by
  obtain ⟨i0, hi, hz0, hz1, hz2⟩ := info_parts Tryd.infoB
  have hg : ∀ k, v.ownBlock = some k → B ≤ k := fun k hk => (hown.row.lt k hk).1
  cases A with
  | none =>
    have hm0 : m = 0 := by
      rcases Nat.eq_zero_or_pos m with h0 | h0
      · exact h0
      · obtain ⟨ad, e, _⟩ := hr.cell h0
        cases e
    subst hm0
    have hcs : cs = [] := List.eq_nil_of_length_eq_zero hr.len
    subst hcs
    have hc0 : c = 0 := hr.no rfl
    subst hc0
    exact ⟨v, w, run_append_owned_none w B _ ty 5 i0 1 Tryd.underlying23 hi v bs.length (bvals bs) hown.row, by simpa using hown, Below.refl _ _, World.grownBy.refl w _⟩
  | some ad =>
    obtain ⟨v', w', hrun, hown', hgrow, _⟩ := run_append_own (P := Tryd.prog) w B 23 ty 5 i0 (.int .u8 0) 1 1 Tryd.underlying23 hi hz0 hz1 hz2 rfl (by decide) v bs.length (bvals bs) hown.row ad m c (bvals cs)
      (by rw [bvals_length, hr.len]; omega) (by
        intro j u hu
        have hj : j < m := by
          have := List.getElem?_eq_some_iff.1 hu
          obtain ⟨h1, _⟩ := this
          rw [bvals_length, hr.len] at h1
          exact h1
        obtain ⟨ad', e, _, hc⟩ := hr.cell (by omega)
        injection e with e
        subst e
        rw [hc j hj, ← hu]
        have : j < cs.length := by rw [hr.len]; exact hj
        simp [bvals, bval, List.getD_eq_getElem?_getD, this]) (bvals_one cs) (by unfold maxLen; omega) (by omega) hB
    have hbB : Below B w w' := (Below.refl B w).grown hgrow hB hg
    refine ⟨v', w', hrun, ⟨?_, hown.bel.trans (hbB.mono hown.le), hown.le⟩, hbB, hgrow⟩
    rw [bvals_app, List.length_append, hr.len]
    exact hown'
theorem wp_appM {o : Oper} {a : Act} {K : Act → World → Prop} {Q : Exit → Act → World → Prop} (s x : Operand)
    (ho : o.op = .call { callee := .builtin .append, args := #[s, x], argTypes := #[23, 23] })
    {w0 w : World} {B B2 : Nat} {v : Value} {bs cs : List Nat} {A : Option Addr} {m c : Nat} (hs : a.eval s = v) (hx : a.eval x = .slice A m c) (hown : Mid w0 B w v bs) (hB : B ≤ w.heap.size) (hr : Rd w B2 A m c cs)
    (hm : bs.length + m ≤ 1073741824) (h : ∀ v' w', Mid w0 B w' v' (bs ++ cs) → Below B w w' → w.grownBy w' v.ownBlock → K (a.put o.dst v') w') : o.wp Tryd.prog a w K Q := by
  obtain ⟨v', w', hrun, h1, h2, h3⟩ := run_appM o.type hown hB hr hm
  unfold Oper.wp execOp
  simp only [ho, resolve, invoke, builtin, Sem.run_bind, Sem.run_pure, Result.andThen_ok, List.map_toArray, List.map_cons, List.map_nil, hs, hx, hrun]
  exact h v' w' h1 h2 h3
/-- at a step of a region that draws its order -/
theorem step_appM {ops : Array Oper} {o : Oper} {a : Act} {K : Act → World → Prop} {Q : Exit → Act → World → Prop} {E : Prop} (hgd : o.guard = none) (s x : Operand)
    (ho : o.op = .call { callee := .builtin .append, args := #[s, x], argTypes := #[23, 23] })
    {w0 w : World} {B B2 : Nat} {v : Value} {bs cs : List Nat} {A : Option Addr} {m c : Nat} (hs : a.eval s = v) (hx : a.eval x = .slice A m c) (hown : Mid w0 B w v bs) (hB : B ≤ w.heap.size) (hr : Rd w B2 A m c cs)
    (hm : bs.length + m ≤ 1073741824) (h : ∀ v' w', Mid w0 B w' v' (bs ++ cs) → Below B w w' → w.grownBy w' v.ownBlock → K (a.put o.dst v') w') :
    if Region.wanted o (yielded ops a.tmps) = true then Oper.wp Tryd.prog o a w K Q else E := by
  have hw : Region.wanted o (yielded ops a.tmps) = true := by simp [Region.wanted, hgd]
  rw [if_pos hw]
  exact wp_appM s x ho hs hx hown hB hr hm h

end Go.Proofs.YtcnhoohcdkfgkaaDoor

/-
  Words with which the end of a region that draws its order is shown, step by step from its world.
-/
namespace Go.Proofs.YtcnhoohcdkfgkaaDoor
open Go.RowKit

section
variable {w : World} {g : Nat} {l : List Value}
theorem BoxL.new_at (l : List Value) (t : TypeId) (hg : g = w.heap.size) : BoxL (w.alloc (.cells l.toArray t)) g l := by
  subst hg
  exact BoxL.new w l t
theorem BoxL.all2_ (h : BoxL w g l) (hl : l.length = 2) (u0 u1 : Value) : BoxL ((w.setCell ⟨g, 0, none⟩ (u0)).setCell ⟨g, 1, none⟩ (u1)) g [u0, u1] := by
  match l, hl with
  | [a, b], _ => exact h.all2 u0 u1
theorem BoxL.all3_ (h : BoxL w g l) (hl : l.length = 3) (u0 u1 u2 : Value) : BoxL (((w.setCell ⟨g, 0, none⟩ (u0)).setCell ⟨g, 1, none⟩ (u1)).setCell ⟨g, 2, none⟩ (u2)) g [u0, u1, u2] := by
  match l, hl with
  | [a, b, c], _ => exact h.all3 u0 u1 u2
theorem BoxL.all8_ (h : BoxL w g l) (hl : l.length = 8) (u0 u1 u2 u3 u4 u5 u6 u7 : Value) : BoxL ((((((((w.setCell ⟨g, 0, none⟩ (u0)).setCell ⟨g, 1, none⟩ (u1)).setCell ⟨g, 2, none⟩ (u2)).setCell ⟨g, 3, none⟩ (u3)).setCell ⟨g, 4, none⟩ (u4)).setCell ⟨g, 5, none⟩ (u5)).setCell ⟨g, 6, none⟩ (u6)).setCell ⟨g, 7, none⟩ (u7)) g [u0, u1, u2, u3, u4, u5, u6, u7] := by
  match l, hl with
  | [a0, a1, a2, a3, a4, a5, a6, a7], _ => exact h.all8 u0 u1 u2 u3 u4 u5 u6 u7
end
section
variable {w0 w : World} {B : Nat} {v : Value} {bs : List Nat}
theorem Mid.onA (h : Mid w0 B w v bs) (o : Obj) : Mid w0 B (w.alloc o) v bs := h.on ((Below.refl _ _).alloc (Nat.le_refl _) o)
theorem Mid.drew (h : Mid w0 B w v bs) : Mid w0 B w.drew v bs := ⟨h.row, h.bel.drew, h.le⟩
theorem Mid.setAt (h : Mid w0 B w v bs) {g : Nat} (h0 : w0.heap.size ≤ g) (h1 : g < B) (k : Nat) (u : Value) : Mid w0 B (w.setCell ⟨g, k, none⟩ u) v bs := h.set ⟨g, k, none⟩ u h0 h1
end
theorem Mid.some {w0 w1 w : World} {v : Value} {bs : List Nat} (h : Own w1 w v bs) (hb : Below w0.heap.size w0 w1) : ∃ B, Hid (B = w1.heap.size) ∧ Mid w0 B w v bs := ⟨_, Lib.hid rfl, Mid.of h hb⟩
theorem Mid.rd {w0 w : World} {B n c : Nat} {A : Option Addr} {bs : List Nat} (h : Mid w0 B w (.slice A n c) bs) : Rd w w.heap.size A n c bs := h.own.rd

end Go.Proofs.YtcnhoohcdkfgkaaDoor

/-
  The contract of the laws' own Is, where the bits are these: 1.
-/
namespace Go.Proofs.YtcnhoohcdkfgkaaDoor
open Go.RowKit

set_option maxRecDepth 20000 in
set_option maxHeartbeats 400000 in
theorem is_yes (A A2 : Option Addr) (m c n c2 : Nat) (p : List Bool) (w : World) (h1 : Rd w w.heap.size A m c (pack p)) (h2 : Rd w w.heap.size A2 n c2 (enc p)) (hn : n ≤ 1000000) :
    Calls Tryd.prog 9 #[.agg #[.slice A m c, .int .i64 ((p.length : Nat) : Int)], .slice A2 n c2] w fun e w' => e = .returned (.int .i64 1) ∧ Below w.heap.size w w' := by
  have hl : p.length = n := by have := h2.len; rwa [enc_length] at this
  rw [hl]
  have hb0 : Below w.heap.size w (w.alloc (.cells #[.slice A m c, .int .i64 (n : Int)] 34)).drew := ((Below.refl _ _).alloc (Nat.le_refl _) _).drew
  have hq1 := run_str (h1.below hb0)
  have h2' := h2.below hb0
  have hd : ((n : Int) != (n : Int)) = false := by simp
  go_enter Tryd.func9, Tryd.ntmps9
  go_wp2
  go_region_with (first
    | (go_at_call 26; refine (bytes_any _ _ _ p _ (h2'.more (by simp)) hn).mono ?_; rintro e w1 ⟨A3, c3, rfl, hown⟩; have hb1 : Below w.heap.size w w1 := hb0.trans (hown.bel.mono hb0.size); have hq2 := run_str (h1.below hb1); have hq3 := run_str hown.rd; obtain ⟨cb0, cb1, _, _⟩ := two_new (w := w) (wr := w1) (below_like hown.bel rfl rfl rfl rfl)))
  all_goals
    clear hq1 hq2 hq3 cb0 cb1 hb0
    go_wp2
    go_ret
    exact ⟨rfl, hb1⟩

end Go.Proofs.YtcnhoohcdkfgkaaDoor
