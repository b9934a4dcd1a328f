/-
  The contracts of layer 7's behindOld, behindNew: the state behind a code that begins with 10, with 11.
-/
import Derived.Test.YtfehlkilnghhiaaDoorXorWin
import Derived.Test.YtfehlkilnghhiaaDoorCode
import Derived.BigRegion
import Derived.Deep.DeepCutAuto
namespace Go.Proofs.YtfehlkilnghhiaaDoor
open Go.RowKit

/-- what behind comes to -/
def RetXB (w : World) (r : XA) (e : Ending) (w' : World) : Prop :=
  e = .returned (.tuple #[.agg #[.int .u64 (r.s.prev : Int), .int .i64 (r.s.lead : Int), .int .i64 (r.s.len : Int)], .int .i64 (r.n : Int), errV r.e]) ∧ Below w.heap.size w w'

theorem below_set3 {w0 w : World} (h : Below w0.heap.size w0 w) {g : Nat} (hg : w0.heap.size ≤ g) (x y z : Value) : Below w0.heap.size w0 (((w.setCell ⟨g, 0, none⟩ x).setCell ⟨g, 1, none⟩ y).setCell ⟨g, 2, none⟩ z) :=
  ((h.setCell hg x).setCell hg y).setCell hg z

theorem Box3.set0 {w : World} {b : Nat} {s n t : Value} (h : Box3 w b s n t) (s' : Value) : Box3 (w.setCell ⟨b, 0, none⟩ s') b s' n t := by
  have c0 := h.c0
  have c1 := h.c1
  have c2 := h.c2
  have f0 := h.f0
  have f1 := h.f1
  have f2 := h.f2
  refine ⟨by simpa using h.lt, ?_, ?_, ?_, ?_, ?_, ?_⟩ <;> go_simp

/-- what bits that begin with 10 begin with -/
theorem old_is {p a n : Nat} {q : List Bool} (hs : XS.May ⟨p, a, n⟩) (h0 : q.getD 0 false = true) (h1 : q.getD 1 false = false) :
    tailX ⟨p, a, n⟩ q 2 a n = if n = 0 then badX 3 else if q.length < 2 + n then badX 2 else if wordX q 2 a n = 0 then badX 3 else ⟨p ^^^ wordX q 2 a n, ⟨p ^^^ wordX q 2 a n, a, n⟩, 2 + n, 0⟩ := by
  have hb := hs.b
  simp only at hb
  unfold tailX
  by_cases hn : n = 0
  · rw [if_pos (.inl hn), if_pos hn]
  · rw [if_neg (by omega), if_neg hn]
    by_cases hl : q.length < 2 + n
    · rw [if_pos hl, if_pos hl]
    · rw [if_neg hl, if_neg hl]
      exact old_test hs h0 h1 hn (by simp only; omega)
/-- a window's bits from a place on are there, or not -/
theorem win_rest {bs : List Nat} {t j a n : Nat} (h : t ≤ 8 * bs.length) (han : a + n ≤ 64) :
    takeB bs (t + j : Nat) n = decide (j + n ≤ (restL bs t).length) ∧ (j + n ≤ (restL bs t).length → takeN bs (t + j : Nat) n * 2 ^ (64 - a - n) = wordX (restL bs t) j a n) := by
  obtain ⟨h1, h2⟩ := take_rest (bs := bs) (a := t) (j := j) (n := n) h (by omega)
  exact ⟨h1, fun hl => by rw [h2 hl]; rfl⟩

set_option maxHeartbeats 1000000 in
theorem bold_any (A : Option Addr) (m c B : Nat) (bs : List Nat) (t p a n : Nat) (w : World) (h : Rd w B A m c bs) (hB : B ≤ w.heap.size) (hb : ∀ x ∈ bs, x < 256) (hm : m ≤ 100000) (ht : t ≤ 8 * m)
    (hs : XS.May ⟨p, a, n⟩) (h0 : (restL bs t).getD 0 false = true) (h1 : (restL bs t).getD 1 false = false) :
    Calls Tryd.prog 32 #[.agg #[.int .u64 (p : Int), .int .i64 (a : Int), .int .i64 (n : Int)], .slice A m c, .int .i64 (t : Int)] w (RetXB w (tailX ⟨p, a, n⟩ (restL bs t) 2 a n)) := by
  have han : a + n ≤ 64 := hs.b
  have hp : p ≤ 18446744073709551615 := hs.p
  rw [old_is hs h0 h1]
  obtain ⟨hw1, hw2⟩ := win_rest (bs := bs) (t := t) (j := 2) (a := a) (n := n) (by have := h.len; omega) han
  have hwl := wordX_le (restL bs t) (h := 2) han
  have HW1 := Lib.hid hw1
  have HW2 := Lib.hid hw2
  clear hw1 hw2 h0 h1 hs
  have hT := fun (w : World) (h : Rd w B A m c bs) (hB : B ≤ w.heap.size) => takewin_any A m c B bs (t + 2) p a n w h hB hb hm (by omega) han
  generalize restL bs t = q at *
  generalize wordX q 2 a n = x at *
  by_cases hn : n = 0
  · have HR : Hid ((if n = 0 then badX 3 else if q.length < 2 + n then badX 2 else if x = 0 then badX 3 else ⟨p ^^^ x, ⟨p ^^^ x, a, n⟩, 2 + n, 0⟩ : XA) = badX 3) := Lib.hid (if_pos hn)
    rw [HR.out]
    subst hn
    go_enter Tryd.func32, Tryd.ntmps32
    go_wp2
    go_returns
    exact ⟨rfl, two_below _ _ _⟩
  · have hd : ((n : Int) == 0) = false := by simp; omega
    by_cases hl : q.length < 2 + n
    · have HR : Hid ((if n = 0 then badX 3 else if q.length < 2 + n then badX 2 else if x = 0 then badX 3 else ⟨p ^^^ x, ⟨p ^^^ x, a, n⟩, 2 + n, 0⟩ : XA) = badX 2) := Lib.hid (by rw [if_neg hn, if_pos hl])
      rw [HR.out]
      have H1 : Hid (takeB bs (t + 2 : Nat) n = false) := Lib.hid (HW1.out.trans (decide_eq_false (by omega)))
      rw [H1.out] at hT
      generalize takeN bs (t + 2 : Nat) n * 2 ^ (64 - a - n) = y at *
      have hb0 := two_below w (.cells #[.int .u64 (p : Int), .int .i64 (a : Int), .int .i64 (n : Int)] 24) (.cells #[.int .u64 0, .int .i64 0, .int .i64 0] 24)
      have b6 := Box3.new (w.alloc (.cells #[.int .u64 (p : Int), .int .i64 (a : Int), .int .i64 (n : Int)] 24)) (.int .u64 0) (.int .i64 0) (.int .i64 0) 24
      simp only [World.size_alloc] at b6
      go_enter Tryd.func32, Tryd.ntmps32
      go_wp2_with fail
      refine (hT _ (h.below (hb0.mono hB)) (Nat.le_trans hB hb0.size)).mono ?_
      rintro e w1 ⟨rfl, hb1⟩
      obtain ⟨_, z0, z1, z2, zf0, zf1, zf2⟩ := b6.below hb1
      have bz := (b6.below hb1).set (.int .u64 0) (.int .i64 0) (.int .i64 0)
      have hz := below_set3 (hb0.trans (hb1.mono hb0.size)) (g := w.heap.size + 1) (by omega) (.int .u64 0) (.int .i64 0) (.int .i64 0)
      go_wp2
      refine bodyPost_ret (v := .tuple #[.agg #[.int .u64 0, .int .i64 0, .int .i64 0], .int .i64 0, .iface 59 (.int .i64 2)]) ?_ rfl ⟨rfl, hz⟩
      simp [results, Tryd.results32, go_sem, bz.c0, bz.c1, bz.c2]
    · obtain ⟨hl', hw2⟩ : 2 + n ≤ q.length ∧ takeN bs (t + 2 : Nat) n * 2 ^ (64 - a - n) = x := ⟨by omega, HW2.out (by omega)⟩
      have H1 : Hid (takeB bs (t + 2 : Nat) n = true) := Lib.hid (HW1.out.trans (decide_eq_true (by omega)))
      rw [H1.out, hw2] at hT
      clear hw2 HW1 HW2 H1
      have hb0 := two_below w (.cells #[.int .u64 (p : Int), .int .i64 (a : Int), .int .i64 (n : Int)] 24) (.cells #[.int .u64 0, .int .i64 0, .int .i64 0] 24)
      have b3 := (Box3.new w (.int .u64 (p : Int)) (.int .i64 (a : Int)) (.int .i64 (n : Int)) 24).onA (.cells #[.int .u64 0, .int .i64 0, .int .i64 0] 24)
      have b6 := Box3.new (w.alloc (.cells #[.int .u64 (p : Int), .int .i64 (a : Int), .int .i64 (n : Int)] 24)) (.int .u64 0) (.int .i64 0) (.int .i64 0) 24
      simp only [World.size_alloc] at b6
      by_cases hx : x = 0
      · have HR : Hid ((if n = 0 then badX 3 else if q.length < 2 + n then badX 2 else if x = 0 then badX 3 else ⟨p ^^^ x, ⟨p ^^^ x, a, n⟩, 2 + n, 0⟩ : XA) = badX 3) := Lib.hid (by rw [if_neg hn, if_neg hl, if_pos hx])
        rw [HR.out]
        subst hx
        go_enter Tryd.func32, Tryd.ntmps32
        go_wp2_with fail
        refine (hT _ (h.below (hb0.mono hB)) (Nat.le_trans hB hb0.size)).mono ?_
        rintro e w1 ⟨rfl, hb1⟩
        obtain ⟨_, z0, z1, z2, zf0, zf1, zf2⟩ := b6.below hb1
        have bz := (b6.below hb1).set (.int .u64 0) (.int .i64 0) (.int .i64 0)
        have hz := below_set3 (hb0.trans (hb1.mono hb0.size)) (g := w.heap.size + 1) (by omega) (.int .u64 0) (.int .i64 0) (.int .i64 0)
        go_wp2
        refine bodyPost_ret (v := .tuple #[.agg #[.int .u64 0, .int .i64 0, .int .i64 0], .int .i64 0, .iface 59 (.int .i64 3)]) ?_ rfl ⟨rfl, hz⟩
        simp [results, Tryd.results32, go_sem, bz.c0, bz.c1, bz.c2]
      · have HR : Hid ((if n = 0 then badX 3 else if q.length < 2 + n then badX 2 else if x = 0 then badX 3 else ⟨p ^^^ x, ⟨p ^^^ x, a, n⟩, 2 + n, 0⟩ : XA) = ⟨p ^^^ x, ⟨p ^^^ x, a, n⟩, 2 + n, 0⟩) := Lib.hid (by rw [if_neg hn, if_neg hl, if_neg hx])
        rw [HR.out]
        clear HR
        have hxor := u64_xor_nat p x (by omega) (by omega)
        generalize p ^^^ x = v at *
        have hdx : ((x : Int) == 0) = false := by simp; omega
        go_enter Tryd.func32, Tryd.ntmps32
        go_wp2_with fail
        refine (hT _ (h.below (hb0.mono hB)) (Nat.le_trans hB hb0.size)).mono ?_
        rintro e w1 ⟨rfl, hb1⟩
        have c3 := b3.below hb1
        have c6 := b6.below hb1
        have c6t := c6
        obtain ⟨_, z0, z1, z2, zf0, zf1, zf2⟩ := c6t
        have c3t := c3
        obtain ⟨_, q0, q1, q2, f0, f1, f2⟩ := c3t
        go_upto_region 9 with fail
        replace c3 := c3.set0 (.int .u64 (v : Int))
        replace c6 := c6.other (d := w.heap.size) (by omega) 0 (.int .u64 (v : Int))
        have hz := (hb0.trans (hb1.mono hb0.size)).setCell (p := ⟨w.heap.size, 0, none⟩) (Nat.le_refl _) (.int .u64 (v : Int))
        clear q0 q1 q2 f0 f1 f2 z0 z1 z2 zf0 zf1 zf2
        generalize w1.setCell ⟨w.heap.size, 0, none⟩ (.int .u64 (v : Int)) = W2 at *
        have hzz := below_set3 hz (g := w.heap.size + 1) (by omega) (.int .u64 (v : Int)) (.int .i64 (a : Int)) (.int .i64 (n : Int))
        have bz := (c6.set (.int .u64 (v : Int)) (.int .i64 (a : Int)) (.int .i64 (n : Int))).drew
        obtain ⟨_, y0, y1, y2, yf0, yf1, yf2⟩ := c6.drew
        obtain ⟨_, z0, z1, z2, zf0, zf1, zf2⟩ := c6
        obtain ⟨_, r0, r1, r2, _, _, _⟩ := c3.drew
        obtain ⟨_, q0, q1, q2, f0, f1, f2⟩ := c3
        go_region
        all_goals
          go_wp2
          refine bodyPost_ret (v := .tuple #[.agg #[.int .u64 (v : Int), .int .i64 (a : Int), .int .i64 (n : Int)], .int .i64 ((2 + n : Nat) : Int), .nilIface]) ?_ rfl ⟨rfl, hzz.drew⟩
          simp [results, Tryd.results32, go_sem, bz.c0, bz.c1, bz.c2]

end Go.Proofs.YtfehlkilnghhiaaDoor
