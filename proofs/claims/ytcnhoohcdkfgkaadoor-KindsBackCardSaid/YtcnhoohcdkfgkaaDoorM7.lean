/-
  Texts of this proof, one behind the other: XorGet1, XorGet2, XorGet, Kin2, Kin3, Kin4, KinPut, Kin5, KinGet.
-/
import Derived.Test.YtcnhoohcdkfgkaaDoorM5
import Derived.Test.YtcnhoohcdkfgkaaDoorYCode
import Derived.Test.YtcnhoohcdkfgkaaDoorM1
import Derived.Test.YtcnhoohcdkfgkaaDoorM3
import Derived.Test.YtcnhoohcdkfgkaaDoorYDodCode
import Derived.Test.YtcnhoohcdkfgkaaDoorYDodGet
import Derived.Test.YtcnhoohcdkfgkaaDoorM6
import Derived.BigRegion
import Derived.Deep.DeepCutAuto
import Derived.Handy
import Derived.Deep.RegionHeld3

/-
  The contracts of layer 7's behindOld, behindNew: the state behind a code that begins with 10, with 11.
-/
namespace Go.Proofs.YtcnhoohcdkfgkaaDoor
open Go.RowKit

/-- what behind comes to -/
def RetXB (w : World) (r : XA) (e : Ending) (w' : World) : Prop :=
  e = .returned (.tuple #[.agg #[.int .u64 (r.s.prev : Int), .int .i64 (r.s.lead : Int), .int .i64 (r.s.len : Int)], .int .i64 (r.n : Int), errV r.e]) ∧ Below w.heap.size w w'

theorem below_set3 {w0 w : World} (h : Below w0.heap.size w0 w) {g : Nat} (hg : w0.heap.size ≤ g) (x y z : Value) : Below w0.heap.size w0 (((w.setCell ⟨g, 0, none⟩ x).setCell ⟨g, 1, none⟩ y).setCell ⟨g, 2, none⟩ z) :=
  ((h.setCell hg x).setCell hg y).setCell hg z

theorem Box3.set0 {w : World} {b : Nat} {s n t : Value} (h : Box3 w b s n t) (s' : Value) : Box3 (w.setCell ⟨b, 0, none⟩ s') b s' n t := by
  have c0 := h.c0
  have c1 := h.c1
  have c2 := h.c2
  have f0 := h.f0
  have f1 := h.f1
  have f2 := h.f2
  refine ⟨by simpa using h.lt, ?_, ?_, ?_, ?_, ?_, ?_⟩ <;> go_simp

/-- what bits that begin with 10 begin with -/
theorem old_is {p a n : Nat} {q : List Bool} (hs : XS.May ⟨p, a, n⟩) (h0 : q.getD 0 false = true) (h1 : q.getD 1 false = false) :
    tailX ⟨p, a, n⟩ q 2 a n = if n = 0 then badX 3 else if q.length < 2 + n then badX 2 else if wordX q 2 a n = 0 then badX 3 else ⟨p ^^^ wordX q 2 a n, ⟨p ^^^ wordX q 2 a n, a, n⟩, 2 + n, 0⟩ := by
  have hb := hs.b
  simp only at hb
  unfold tailX
  by_cases hn : n = 0
  · rw [if_pos (.inl hn), if_pos hn]
  · rw [if_neg (by omega), if_neg hn]
    by_cases hl : q.length < 2 + n
    · rw [if_pos hl, if_pos hl]
    · rw [if_neg hl, if_neg hl]
      exact old_test hs h0 h1 hn (by simp only; omega)
/-- a window's bits from a place on are there, or not -/
theorem win_rest {bs : List Nat} {t j a n : Nat} (h : t ≤ 8 * bs.length) (han : a + n ≤ 64) :
    takeB bs (t + j : Nat) n = decide (j + n ≤ (restL bs t).length) ∧ (j + n ≤ (restL bs t).length → takeN bs (t + j : Nat) n * 2 ^ (64 - a - n) = wordX (restL bs t) j a n) := by
  obtain ⟨h1, h2⟩ := take_rest (bs := bs) (a := t) (j := j) (n := n) h (by omega)
  exact ⟨h1, fun hl => by rw [h2 hl]; rfl⟩

set_option maxRecDepth 20000 in
set_option maxHeartbeats 1000000 in
theorem bold_any (A : Option Addr) (m c B : Nat) (bs : List Nat) (t p a n : Nat) (w : World) (h : Rd w B A m c bs) (hB : B ≤ w.heap.size) (hb : ∀ x ∈ bs, x < 256) (hm : m ≤ 100000) (ht : t ≤ 8 * m)
    (hs : XS.May ⟨p, a, n⟩) (h0 : (restL bs t).getD 0 false = true) (h1 : (restL bs t).getD 1 false = false) :
    Calls Tryd.prog 61 #[.agg #[.int .u64 (p : Int), .int .i64 (a : Int), .int .i64 (n : Int)], .slice A m c, .int .i64 (t : Int)] w (RetXB w (tailX ⟨p, a, n⟩ (restL bs t) 2 a n)) := by
  have han : a + n ≤ 64 := hs.b
  have hp : p ≤ 18446744073709551615 := hs.p
  rw [old_is hs h0 h1]
  obtain ⟨hw1, hw2⟩ := win_rest (bs := bs) (t := t) (j := 2) (a := a) (n := n) (by have := h.len; omega) han
  have hwl := wordX_le (restL bs t) (h := 2) han
  have HW1 := Lib.hid hw1
  have HW2 := Lib.hid hw2
  clear hw1 hw2 h0 h1 hs
  have hT := fun (w : World) (h : Rd w B A m c bs) (hB : B ≤ w.heap.size) => takewin_any A m c B bs (t + 2) p a n w h hB hb hm (by omega) han
  generalize restL bs t = q at *
  generalize wordX q 2 a n = x at *
  by_cases hn : n = 0
  · have HR : Hid ((if n = 0 then badX 3 else if q.length < 2 + n then badX 2 else if x = 0 then badX 3 else ⟨p ^^^ x, ⟨p ^^^ x, a, n⟩, 2 + n, 0⟩ : XA) = badX 3) := Lib.hid (if_pos hn)
    rw [HR.out]
    subst hn
    go_enter Tryd.func61, Tryd.ntmps61
    go_wp2
    go_returns
    exact ⟨rfl, two_below _ _ _⟩
  · have hd : ((n : Int) == 0) = false := by simp; omega
    by_cases hl : q.length < 2 + n
    · have HR : Hid ((if n = 0 then badX 3 else if q.length < 2 + n then badX 2 else if x = 0 then badX 3 else ⟨p ^^^ x, ⟨p ^^^ x, a, n⟩, 2 + n, 0⟩ : XA) = badX 2) := Lib.hid (by rw [if_neg hn, if_pos hl])
      rw [HR.out]
      have H1 : Hid (takeB bs (t + 2 : Nat) n = false) := Lib.hid (HW1.out.trans (decide_eq_false (by omega)))
      rw [H1.out] at hT
      generalize takeN bs (t + 2 : Nat) n * 2 ^ (64 - a - n) = y at *
      have hb0 := two_below w (.cells #[.int .u64 (p : Int), .int .i64 (a : Int), .int .i64 (n : Int)] 27) (.cells #[.int .u64 0, .int .i64 0, .int .i64 0] 27)
      have b6 := Box3.new (w.alloc (.cells #[.int .u64 (p : Int), .int .i64 (a : Int), .int .i64 (n : Int)] 27)) (.int .u64 0) (.int .i64 0) (.int .i64 0) 27
      simp only [World.size_alloc] at b6
      go_enter Tryd.func61, Tryd.ntmps61
      go_wp2_with fail
      refine (hT _ (h.below (hb0.mono hB)) (Nat.le_trans hB hb0.size)).mono ?_
      rintro e w1 ⟨rfl, hb1⟩
      obtain ⟨_, z0, z1, z2, zf0, zf1, zf2⟩ := b6.below hb1
      have bz := (b6.below hb1).set (.int .u64 0) (.int .i64 0) (.int .i64 0)
      have hz := below_set3 (hb0.trans (hb1.mono hb0.size)) (g := w.heap.size + 1) (by omega) (.int .u64 0) (.int .i64 0) (.int .i64 0)
      go_wp2
      refine bodyPost_ret (v := .tuple #[.agg #[.int .u64 0, .int .i64 0, .int .i64 0], .int .i64 0, .iface 58 (.int .i64 2)]) ?_ rfl ⟨rfl, hz⟩
      simp [results, Tryd.results61, go_sem, bz.c0, bz.c1, bz.c2]
    · obtain ⟨hl', hw2⟩ : 2 + n ≤ q.length ∧ takeN bs (t + 2 : Nat) n * 2 ^ (64 - a - n) = x := ⟨by omega, HW2.out (by omega)⟩
      have H1 : Hid (takeB bs (t + 2 : Nat) n = true) := Lib.hid (HW1.out.trans (decide_eq_true (by omega)))
      rw [H1.out, hw2] at hT
      clear hw2 HW1 HW2 H1
      have hb0 := two_below w (.cells #[.int .u64 (p : Int), .int .i64 (a : Int), .int .i64 (n : Int)] 27) (.cells #[.int .u64 0, .int .i64 0, .int .i64 0] 27)
      have b3 := (Box3.new w (.int .u64 (p : Int)) (.int .i64 (a : Int)) (.int .i64 (n : Int)) 27).onA (.cells #[.int .u64 0, .int .i64 0, .int .i64 0] 27)
      have b6 := Box3.new (w.alloc (.cells #[.int .u64 (p : Int), .int .i64 (a : Int), .int .i64 (n : Int)] 27)) (.int .u64 0) (.int .i64 0) (.int .i64 0) 27
      simp only [World.size_alloc] at b6
      by_cases hx : x = 0
      · have HR : Hid ((if n = 0 then badX 3 else if q.length < 2 + n then badX 2 else if x = 0 then badX 3 else ⟨p ^^^ x, ⟨p ^^^ x, a, n⟩, 2 + n, 0⟩ : XA) = badX 3) := Lib.hid (by rw [if_neg hn, if_neg hl, if_pos hx])
        rw [HR.out]
        subst hx
        go_enter Tryd.func61, Tryd.ntmps61
        go_wp2_with fail
        refine (hT _ (h.below (hb0.mono hB)) (Nat.le_trans hB hb0.size)).mono ?_
        rintro e w1 ⟨rfl, hb1⟩
        obtain ⟨_, z0, z1, z2, zf0, zf1, zf2⟩ := b6.below hb1
        have bz := (b6.below hb1).set (.int .u64 0) (.int .i64 0) (.int .i64 0)
        have hz := below_set3 (hb0.trans (hb1.mono hb0.size)) (g := w.heap.size + 1) (by omega) (.int .u64 0) (.int .i64 0) (.int .i64 0)
        go_wp2
        refine bodyPost_ret (v := .tuple #[.agg #[.int .u64 0, .int .i64 0, .int .i64 0], .int .i64 0, .iface 58 (.int .i64 3)]) ?_ rfl ⟨rfl, hz⟩
        simp [results, Tryd.results61, go_sem, bz.c0, bz.c1, bz.c2]
      · have HR : Hid ((if n = 0 then badX 3 else if q.length < 2 + n then badX 2 else if x = 0 then badX 3 else ⟨p ^^^ x, ⟨p ^^^ x, a, n⟩, 2 + n, 0⟩ : XA) = ⟨p ^^^ x, ⟨p ^^^ x, a, n⟩, 2 + n, 0⟩) := Lib.hid (by rw [if_neg hn, if_neg hl, if_neg hx])
        rw [HR.out]
        clear HR
        have hxor := u64_xor_nat p x (by omega) (by omega)
        generalize p ^^^ x = v at *
        have hdx : ((x : Int) == 0) = false := by simp; omega
        go_enter Tryd.func61, Tryd.ntmps61
        go_wp2_with fail
        refine (hT _ (h.below (hb0.mono hB)) (Nat.le_trans hB hb0.size)).mono ?_
        rintro e w1 ⟨rfl, hb1⟩
        have c3 := b3.below hb1
        have c6 := b6.below hb1
        have c6t := c6
        obtain ⟨_, z0, z1, z2, zf0, zf1, zf2⟩ := c6t
        have c3t := c3
        obtain ⟨_, q0, q1, q2, f0, f1, f2⟩ := c3t
        go_upto_region 9 with fail
        replace c3 := c3.set0 (.int .u64 (v : Int))
        replace c6 := c6.other (d := w.heap.size) (by omega) 0 (.int .u64 (v : Int))
        have hz := (hb0.trans (hb1.mono hb0.size)).setCell (p := ⟨w.heap.size, 0, none⟩) (Nat.le_refl _) (.int .u64 (v : Int))
        clear q0 q1 q2 f0 f1 f2 z0 z1 z2 zf0 zf1 zf2
        generalize w1.setCell ⟨w.heap.size, 0, none⟩ (.int .u64 (v : Int)) = W2 at *
        have hzz := below_set3 hz (g := w.heap.size + 1) (by omega) (.int .u64 (v : Int)) (.int .i64 (a : Int)) (.int .i64 (n : Int))
        have bz := (c6.set (.int .u64 (v : Int)) (.int .i64 (a : Int)) (.int .i64 (n : Int))).drew
        obtain ⟨_, y0, y1, y2, yf0, yf1, yf2⟩ := c6.drew
        obtain ⟨_, z0, z1, z2, zf0, zf1, zf2⟩ := c6
        obtain ⟨_, r0, r1, r2, _, _, _⟩ := c3.drew
        obtain ⟨_, q0, q1, q2, f0, f1, f2⟩ := c3
        go_region
        all_goals
          go_wp2
          refine bodyPost_ret (v := .tuple #[.agg #[.int .u64 (v : Int), .int .i64 (a : Int), .int .i64 (n : Int)], .int .i64 ((2 + n : Nat) : Int), .nilIface]) ?_ rfl ⟨rfl, hzz.drew⟩
          simp [results, Tryd.results61, go_sem, bz.c0, bz.c1, bz.c2]

end Go.Proofs.YtcnhoohcdkfgkaaDoor

/-
  The contract of layer 7's behindNew: the state behind a code that begins with 11.
-/
namespace Go.Proofs.YtcnhoohcdkfgkaaDoor
open Go.RowKit

/-- what bits that begin with 11 begin with -/
def newA (s : XS) (q : List Bool) : XA := if q.length < 14 then badX 2 else tailX s q 14 (num (cut q 2 6)) (num (cut q 8 6) + 1)
theorem newA_is {s : XS} {q : List Bool} (h0 : q.getD 0 false = true) (h1 : q.getD 1 false = true) (hl : 14 ≤ q.length) {l b n : Nat} (ha : num (cut q 2 6) = l) (hb : num (cut q 8 6) = b) (hn : b + 1 = n) :
    newA s q = if 64 < l + n then badX 3 else if q.length < 14 + n then badX 2 else if lzN (wordX q 14 l n) = l ∧ szN (wordX q 14 l n) = n ∧ ¬ fitsX s (wordX q 14 l n) then ⟨s.prev ^^^ wordX q 14 l n, ⟨s.prev ^^^ wordX q 14 l n, l, n⟩, 14 + n, 0⟩ else badX 3 := by
  unfold newA tailX
  rw [if_neg (by omega), ha, hb, hn]
  by_cases h2 : 64 < l + n
  · rw [if_pos (.inr h2), if_pos h2]
  · rw [if_neg (by omega), if_neg h2]
    by_cases h3 : q.length < 14 + n
    · rw [if_pos h3, if_pos h3]
    · rw [if_neg h3, if_neg h3]
      exact new_test h0 h1 ha.symm (by rw [hb, hn]) (by omega) (by omega)
theorem two_six (q : List Bool) (hl : 14 ≤ q.length) : num (cut q 2 12) / 64 = num (cut q 2 6) ∧ num (cut q 2 12) % 64 = num (cut q 8 6) := by
  have h1 : cut q 2 12 = cut q 2 6 ++ cut q 8 6 := cut_more q 2 6 6
  have h2 := num_app (cut q 2 6) (cut q 8 6)
  have h3 := num_cut_lt q 8 6
  rw [cut_length _ _ _ (by omega)] at h2
  rw [h1, h2]
  omega

set_option maxRecDepth 20000 in
set_option maxHeartbeats 1000000 in
theorem bnew_short (A : Option Addr) (m c B : Nat) (bs : List Nat) (t p a n : Nat) (w : World) (h : Rd w B A m c bs) (hB : B ≤ w.heap.size) (hb : ∀ x ∈ bs, x < 256) (hm : m ≤ 100000) (ht : t ≤ 8 * m) (hl : (restL bs t).length < 14) :
    Calls Tryd.prog 62 #[.agg #[.int .u64 (p : Int), .int .i64 (a : Int), .int .i64 (n : Int)], .slice A m c, .int .i64 (t : Int)] w (RetXB w (newA ⟨p, a, n⟩ (restL bs t))) := by
  have e : newA ⟨p, a, n⟩ (restL bs t) = badX 2 := by unfold newA; rw [if_pos hl]
  rw [e]
  obtain ⟨hw1, _⟩ := take_rest (bs := bs) (a := t) (j := 2) (n := 12) (by have := h.len; omega) (by omega)
  rw [decide_eq_false (by omega)] at hw1
  have hT : ∀ w : World, Rd w B A m c bs → Calls Tryd.prog 53 #[.slice A m c, .int .i64 ((t + 2 : Nat) : Int), .int .i64 ((12 : Nat) : Int)] w fun e w' => e = .returned (.tuple #[.int .u64 ((takeN bs ((t + 2 : Nat) : Int) ((12 : Nat) : Int) : Nat) : Int), .bool (takeB bs ((t + 2 : Nat) : Int) ((12 : Nat) : Int))]) ∧ w = w' :=
    fun w h => take_all A m c B bs ((t + 2 : Nat) : Int) ((12 : Nat) : Int) w h hb hm (by omega) (by omega)
  rw [hw1] at hT
  generalize takeN bs ((t + 2 : Nat) : Int) ((12 : Nat) : Int) = y at *
  clear hw1 e
  have hb0 := two_below w (.cells #[.int .u64 (p : Int), .int .i64 (a : Int), .int .i64 (n : Int)] 27) (.cells #[.int .u64 0, .int .i64 0, .int .i64 0] 27)
  go_enter Tryd.func62, Tryd.ntmps62
  go_wp2_with fail
  refine (hT _ (h.below (hb0.mono hB))).mono ?_
  rintro e w1 ⟨rfl, rfl⟩
  go_wp2
  go_returns
  exact ⟨rfl, hb0⟩

set_option maxRecDepth 20000 in
set_option maxHeartbeats 1000000 in
theorem bnew_wide (A : Option Addr) (m c B : Nat) (bs : List Nat) (t p a n l b k : Nat) (w : World) (h : Rd w B A m c bs) (hB : B ≤ w.heap.size) (hb : ∀ x ∈ bs, x < 256) (hm : m ≤ 100000) (ht : t ≤ 8 * m) (hl : 14 ≤ (restL bs t).length)
    (h0 : (restL bs t).getD 0 false = true) (h1 : (restL bs t).getD 1 false = true) (ha : num (cut (restL bs t) 2 6) = l) (hbb : num (cut (restL bs t) 8 6) = b) (hk : b + 1 = k) (hlk : 64 < l + k) :
    Calls Tryd.prog 62 #[.agg #[.int .u64 (p : Int), .int .i64 (a : Int), .int .i64 (n : Int)], .slice A m c, .int .i64 (t : Int)] w (RetXB w (newA ⟨p, a, n⟩ (restL bs t))) := by
  have e : newA ⟨p, a, n⟩ (restL bs t) = badX 3 := by rw [newA_is h0 h1 hl ha hbb hk, if_pos hlk]
  rw [e]
  obtain ⟨hw1, hw2⟩ := take_rest (bs := bs) (a := t) (j := 2) (n := 12) (by have := h.len; omega) (by omega)
  rw [decide_eq_true (by omega)] at hw1
  replace hw2 := hw2 (by omega)
  have hT : ∀ w : World, Rd w B A m c bs → Calls Tryd.prog 53 #[.slice A m c, .int .i64 ((t + 2 : Nat) : Int), .int .i64 ((12 : Nat) : Int)] w fun e w' => e = .returned (.tuple #[.int .u64 ((takeN bs ((t + 2 : Nat) : Int) ((12 : Nat) : Int) : Nat) : Int), .bool (takeB bs ((t + 2 : Nat) : Int) ((12 : Nat) : Int))]) ∧ w = w' :=
    fun w h => take_all A m c B bs ((t + 2 : Nat) : Int) ((12 : Nat) : Int) w h hb hm (by omega) (by omega)
  rw [hw1, hw2] at hT
  obtain ⟨g1, g2⟩ := two_six _ hl
  rw [ha] at g1
  rw [hbb] at g2
  generalize num (cut (restL bs t) 2 12) = y at *
  have q1 : (y : Int) / 64 = (l : Int) := by omega
  have q2 : (y : Int) % 64 = (b : Int) := by omega
  have q3 : (b : Int) + 1 = (k : Int) := by omega
  have hl64 : l < 64 := by have := num_cut_lt (restL bs t) 2 6; omega
  have hk64 : k ≤ 64 := by have := num_cut_lt (restL bs t) 8 6; omega
  clear hw1 hw2 e g1 g2 h0 h1 ha hbb hk
  have hb0 := two_below w (.cells #[.int .u64 (p : Int), .int .i64 (a : Int), .int .i64 (n : Int)] 27) (.cells #[.int .u64 0, .int .i64 0, .int .i64 0] 27)
  go_enter Tryd.func62, Tryd.ntmps62
  go_wp2_with fail
  refine (hT _ (h.below (hb0.mono hB))).mono ?_
  rintro e w1 ⟨rfl, rfl⟩
  go_wp2
  go_returns
  exact ⟨rfl, hb0.alloc (by simp; omega) _⟩

/-- four boxes of a state, the last two by number -/
structure NewB (w W : World) (p a n l k g : Nat) : Prop where
  b3 : Box3 W w.heap.size (.int .u64 (p : Int)) (.int .i64 (a : Int)) (.int .i64 (n : Int))
  b6 : Box3 W (w.heap.size + 1) (.int .u64 0) (.int .i64 0) (.int .i64 0)
  b11 : Box3 W g (.int .u64 0) (.int .i64 (l : Int)) (.int .i64 (k : Int))
  bel : Below w.heap.size w W
theorem NewB.below {w W W' : World} {p a n l k g : Nat} (h : NewB w W p a n l k g) (hb : Below W.heap.size W W') : NewB w W' p a n l k g :=
  ⟨h.b3.below hb, h.b6.below hb, h.b11.below hb, h.bel.trans (hb.mono h.bel.size)⟩
theorem NewB.new (w : World) (p a n l k : Nat) : NewB w (((w.alloc (.cells #[.int .u64 (p : Int), .int .i64 (a : Int), .int .i64 (n : Int)] 27)).alloc (.cells #[.int .u64 0, .int .i64 0, .int .i64 0] 27)).alloc (.cells #[.int .u64 0, .int .i64 (l : Int), .int .i64 (k : Int)] 27)) p a n l k (w.heap.size + 1 + 1) := by
  have b6 := (Box3.new (w.alloc (.cells #[.int .u64 (p : Int), .int .i64 (a : Int), .int .i64 (n : Int)] 27)) (.int .u64 0) (.int .i64 0) (.int .i64 0) 27).onA (.cells #[.int .u64 0, .int .i64 (l : Int), .int .i64 (k : Int)] 27)
  have b11 := Box3.new ((w.alloc (.cells #[.int .u64 (p : Int), .int .i64 (a : Int), .int .i64 (n : Int)] 27)).alloc (.cells #[.int .u64 0, .int .i64 0, .int .i64 0] 27)) (.int .u64 0) (.int .i64 (l : Int)) (.int .i64 (k : Int)) 27
  simp only [World.size_alloc] at b6 b11
  exact ⟨((Box3.new w _ _ _ _).onA _).onA _, b6, b11, (two_below w _ _).alloc (by simp; omega) _⟩

set_option maxRecDepth 20000 in
set_option maxHeartbeats 2000000 in
theorem bnew_in (A : Option Addr) (m c B : Nat) (bs : List Nat) (t p a n l b k : Nat) (w : World) (h : Rd w B A m c bs) (hB : B ≤ w.heap.size) (hb : ∀ x ∈ bs, x < 256) (hm : m ≤ 100000) (ht : t ≤ 8 * m) (hl : 14 ≤ (restL bs t).length)
    (hs : XS.May ⟨p, a, n⟩) (h0 : (restL bs t).getD 0 false = true) (h1 : (restL bs t).getD 1 false = true) (ha : num (cut (restL bs t) 2 6) = l) (hbb : num (cut (restL bs t) 8 6) = b) (hk : b + 1 = k) (hlk : l + k ≤ 64) (hR : TzW w) :
    Calls Tryd.prog 62 #[.agg #[.int .u64 (p : Int), .int .i64 (a : Int), .int .i64 (n : Int)], .slice A m c, .int .i64 (t : Int)] w (RetXB w (newA ⟨p, a, n⟩ (restL bs t))) := by
  have HE := Lib.hid (newA_is (s := ⟨p, a, n⟩) h0 h1 hl ha hbb hk)
  obtain ⟨hw1, hw2⟩ := take_rest (bs := bs) (a := t) (j := 2) (n := 12) (by have := h.len; omega) (by omega)
  rw [decide_eq_true (by omega)] at hw1
  replace hw2 := hw2 (by omega)
  have hT : ∀ w : World, Rd w B A m c bs → Calls Tryd.prog 53 #[.slice A m c, .int .i64 ((t + 2 : Nat) : Int), .int .i64 ((12 : Nat) : Int)] w fun e w' => e = .returned (.tuple #[.int .u64 ((takeN bs ((t + 2 : Nat) : Int) ((12 : Nat) : Int) : Nat) : Int), .bool (takeB bs ((t + 2 : Nat) : Int) ((12 : Nat) : Int))]) ∧ w = w' :=
    fun w h => take_all A m c B bs ((t + 2 : Nat) : Int) ((12 : Nat) : Int) w h hb hm (by omega) (by omega)
  rw [hw1, hw2] at hT
  obtain ⟨g1, g2⟩ := two_six _ hl
  rw [ha] at g1
  rw [hbb] at g2
  have hl64 : l < 64 := by have := num_cut_lt (restL bs t) 2 6; omega
  have hk64 : k ≤ 64 := by have := num_cut_lt (restL bs t) 8 6; omega
  generalize num (cut (restL bs t) 2 12) = y at *
  have q1 : (y : Int) / 64 = (l : Int) := by omega
  have q2 : (y : Int) % 64 = (b : Int) := by omega
  have q3 : (b : Int) + 1 = (k : Int) := by omega
  obtain ⟨v1, v2⟩ := win_rest (bs := bs) (t := t) (j := 14) (a := l) (n := k) (by have := h.len; omega) hlk
  have hwl := wordX_le (restL bs t) (h := 14) hlk
  have HV1 := Lib.hid v1
  have HV2 := Lib.hid v2
  have hW := fun (w : World) (h : Rd w B A m c bs) (hB : B ≤ w.heap.size) => takewin_any A m c B bs (t + 14) 0 l k w h hB hb hm (by omega) hlk
  clear hw1 hw2 g1 g2 h0 h1 ha hbb hk v1 v2
  generalize restL bs t = q at *
  generalize wordX q 14 l k = x at *
  have hb0 := two_below w (.cells #[.int .u64 (p : Int), .int .i64 (a : Int), .int .i64 (n : Int)] 27) (.cells #[.int .u64 0, .int .i64 0, .int .i64 0] 27)
  have hN := NewB.new w p a n l k
  by_cases hq : q.length < 14 + k
  · have e : newA ⟨p, a, n⟩ q = badX 2 := by rw [HE.out, if_neg (by omega), if_pos hq]
    rw [e]
    have H1 : Hid (takeB bs (t + 14 : Nat) k = false) := Lib.hid (HV1.out.trans (decide_eq_false (by omega)))
    rw [H1.out] at hW
    generalize takeN bs (t + 14 : Nat) k * 2 ^ (64 - l - k) = z at *
    clear HV1 HV2 H1 HE e
    go_enter Tryd.func62, Tryd.ntmps62
    go_wp2_with fail
    refine (hT _ (h.below (hb0.mono hB))).mono ?_
    rintro e w1 ⟨rfl, rfl⟩
    clear hT
    go_upto_region 7 with fail
    generalize ((w.alloc (.cells #[.int .u64 (p : Int), .int .i64 (a : Int), .int .i64 (n : Int)] 27)).alloc (.cells #[.int .u64 0, .int .i64 0, .int .i64 0] 27)).alloc (.cells #[.int .u64 0, .int .i64 (l : Int), .int .i64 (k : Int)] 27) = W at *
    obtain ⟨_, r0, r1, r2, _, _, _⟩ := hN.b11
    go_wp2_with fail
    refine (hW _ (h.below (hN.bel.mono hB)) (Nat.le_trans hB hN.bel.size)).mono ?_
    rintro e w2 ⟨rfl, hb2⟩
    replace hN := hN.below hb2
    clear r0 r1 r2
    obtain ⟨_, z0, z1, z2, zf0, zf1, zf2⟩ := hN.b6
    have bz := hN.b6.set (.int .u64 0) (.int .i64 0) (.int .i64 0)
    have hz := below_set3 hN.bel (g := w.heap.size + 1) (by omega) (.int .u64 0) (.int .i64 0) (.int .i64 0)
    go_wp2
    refine bodyPost_ret (v := .tuple #[.agg #[.int .u64 0, .int .i64 0, .int .i64 0], .int .i64 0, .iface 58 (.int .i64 2)]) ?_ rfl ⟨rfl, hz⟩
    simp [results, Tryd.results62, go_sem, bz.c0, bz.c1, bz.c2]
  · have H1 : Hid (takeB bs (t + 14 : Nat) k = true) := Lib.hid (HV1.out.trans (decide_eq_true (by omega)))
    rw [H1.out, HV2.out (by omega)] at hW
    clear HV1 HV2 H1
    have hp := hs.p
    have han : a + n ≤ 64 := hs.b
    have hnc := fun X h => anew_any p a n x X hp hwl h
    have hfc := fun X h => fits_any p a n x X han hwl h
    have hlx := lz_le x
    have HSZ : Hid (lzN x = l → 64 - ((lzN x : Nat) : Int) - ((tzN x : Nat) : Int) = ((szN x : Nat) : Int)) := Lib.hid (fun e => by
      have h0 : x ≠ 0 := by rintro rfl; rw [lz_zero] at e; omega
      have := sz_pos hwl h0
      omega)
    have HE2 : Hid (newA ⟨p, a, n⟩ q = if lzN x = l ∧ szN x = k ∧ ¬ fitsX ⟨p, a, n⟩ x then ⟨p ^^^ x, ⟨p ^^^ x, l, k⟩, 14 + k, 0⟩ else badX 3) := Lib.hid (by rw [HE.out, if_neg (by omega), if_neg hq])
    clear HE
    generalize p ^^^ x = v at *
    generalize 64 - ((lzN x : Nat) : Int) - ((tzN x : Nat) : Int) = zz at *
    generalize lzN x = lx at *
    generalize szN x = kx at *
    generalize newA ⟨p, a, n⟩ q = R at *
    go_enter Tryd.func62, Tryd.ntmps62
    go_wp2_with fail
    refine (hT _ (h.below (hb0.mono hB))).mono ?_
    rintro e w1 ⟨rfl, rfl⟩
    clear hT
    go_upto_region 7 with fail
    generalize ((w.alloc (.cells #[.int .u64 (p : Int), .int .i64 (a : Int), .int .i64 (n : Int)] 27)).alloc (.cells #[.int .u64 0, .int .i64 0, .int .i64 0] 27)).alloc (.cells #[.int .u64 0, .int .i64 (l : Int), .int .i64 (k : Int)] 27) = W at *
    obtain ⟨_, r0, r1, r2, _, _, _⟩ := hN.b11
    go_wp2_with fail
    refine (hW _ (h.below (hN.bel.mono hB)) (Nat.le_trans hB hN.bel.size)).mono ?_
    rintro e w2 ⟨rfl, hb2⟩
    replace hN := hN.below hb2
    clear r0 r1 r2 hb2 hW
    obtain ⟨_, r0, r1, r2, _, _, _⟩ := hN.b3
    go_wp2_with fail
    refine (hnc _ (hR.bel hN.bel)).mono ?_
    rintro e w3 ⟨rfl, hb3⟩
    replace hN := hN.below hb3
    clear r0 r1 r2 hb3 hnc
    go_upto_region 11 with fail
    have b13 := Box3.new w3 (.int .u64 (v : Int)) (.int .i64 (lx : Int)) (.int .i64 zz) 27
    have hg13 := hN.b11.lt
    replace hN := hN.below ((Below.refl _ _).alloc (Nat.le_refl _) (.cells #[.int .u64 (v : Int), .int .i64 (lx : Int), .int .i64 zz] 27))
    generalize w3.alloc (.cells #[.int .u64 (v : Int), .int .i64 (lx : Int), .int .i64 zz] 27) = W4 at *
    generalize w3.heap.size = g at *
    have b13t := b13
    obtain ⟨_, s0, s1, s2, _, _, _⟩ := b13t
    obtain ⟨_, q0', q1', q2', _, _, _⟩ := hN.b3
    obtain ⟨_, r0, r1, r2, _, _, _⟩ := hN.b11
    obtain ⟨_, z0, z1, z2, zf0, zf1, zf2⟩ := hN.b6
    have bz := hN.b6.set (.int .u64 0) (.int .i64 0) (.int .i64 0)
    have hz := below_set3 hN.bel (g := w.heap.size + 1) (by omega) (.int .u64 0) (.int .i64 0) (.int .i64 0)
    by_cases c1 : lx = l
    · have hzz := HSZ.out c1
      subst hzz
      clear HSZ
      have d1 : ((lx : Int) != (l : Int)) = false := by simp [c1]
      by_cases c2 : kx = k
      · have d2 : ((kx : Int) != (k : Int)) = false := by simp [c2]
        by_cases c3 : fitsX ⟨p, a, n⟩ x
        · have e : R = badX 3 := by rw [HE2.out, if_neg (fun h => h.2.2 c3)]
          rw [decide_eq_true c3] at hfc
          clear HE2 c1 c2 c3
          subst e
          go_wp2_with fail
          refine (hfc _ (hR.bel hN.bel)).mono ?_
          rintro e w5 ⟨rfl, hb5⟩
          replace hN := hN.below hb5
          clear z0 z1 z2 zf0 zf1 zf2 bz hz hfc s0 s1 s2 r0 r1 r2 q0' q1' q2'
          obtain ⟨_, z0, z1, z2, zf0, zf1, zf2⟩ := hN.b6
          have bz := hN.b6.set (.int .u64 0) (.int .i64 0) (.int .i64 0)
          have hz := below_set3 hN.bel (g := w.heap.size + 1) (by omega) (.int .u64 0) (.int .i64 0) (.int .i64 0)
          go_wp2
          refine bodyPost_ret (v := .tuple #[.agg #[.int .u64 0, .int .i64 0, .int .i64 0], .int .i64 0, .iface 58 (.int .i64 3)]) ?_ rfl ⟨rfl, hz⟩
          simp [results, Tryd.results62, go_sem, bz.c0, bz.c1, bz.c2]
        · have e : R = ⟨v, ⟨v, l, k⟩, 14 + k, 0⟩ := by rw [HE2.out, if_pos ⟨c1, c2, c3⟩]
          rw [decide_eq_false c3] at hfc
          clear HE2 c3
          subst e c1 c2
          go_wp2_with fail
          refine (hfc _ (hR.bel hN.bel)).mono ?_
          rintro e w5 ⟨rfl, hb5⟩
          replace hN := hN.below hb5
          replace b13 := b13.below hb5
          clear z0 z1 z2 zf0 zf1 zf2 bz hz hfc s0 s1 s2 r0 r1 r2 q0' q1' q2'
          go_upto_region 13 with fail
          obtain ⟨_, y0, y1, y2, yf0, yf1, yf2⟩ := hN.b6.drew
          obtain ⟨_, z0, z1, z2, zf0, zf1, zf2⟩ := hN.b6
          obtain ⟨_, r0, r1, r2, _, _, _⟩ := b13.drew
          obtain ⟨_, s0, s1, s2, _, _, _⟩ := b13
          have bz := (hN.b6.set (.int .u64 (v : Int)) (.int .i64 (lx : Int)) (.int .i64 (kx : Int))).drew
          have hz := (below_set3 hN.bel (g := w.heap.size + 1) (by omega) (.int .u64 (v : Int)) (.int .i64 (lx : Int)) (.int .i64 (kx : Int))).drew
          go_region
          all_goals
            go_wp2
            refine bodyPost_ret (v := .tuple #[.agg #[.int .u64 (v : Int), .int .i64 (lx : Int), .int .i64 (kx : Int)], .int .i64 ((14 + kx : Nat) : Int), .nilIface]) ?_ rfl ⟨rfl, hz⟩
            simp [results, Tryd.results62, go_sem, bz.c0, bz.c1, bz.c2]
      · have d2 : ((kx : Int) != (k : Int)) = true := by simp; omega
        have e : R = badX 3 := by rw [HE2.out, if_neg (fun h => c2 h.2.1)]
        clear HE2 c1 c2
        subst e
        go_wp2
        refine bodyPost_ret (v := .tuple #[.agg #[.int .u64 0, .int .i64 0, .int .i64 0], .int .i64 0, .iface 58 (.int .i64 3)]) ?_ rfl ⟨rfl, hz⟩
        simp [results, Tryd.results62, go_sem, bz.c0, bz.c1, bz.c2]
    · have d1 : ((lx : Int) != (l : Int)) = true := by simp; omega
      have e : R = badX 3 := by rw [HE2.out, if_neg (fun h => c1 h.1)]
      clear HE2 HSZ c1
      subst e
      go_wp2
      refine bodyPost_ret (v := .tuple #[.agg #[.int .u64 0, .int .i64 0, .int .i64 0], .int .i64 0, .iface 58 (.int .i64 3)]) ?_ rfl ⟨rfl, hz⟩
      simp [results, Tryd.results62, go_sem, bz.c0, bz.c1, bz.c2]

end Go.Proofs.YtcnhoohcdkfgkaaDoor

/-
  The contracts of layer 7's behind, Get: what bits begin with in a state, from a place on.
-/
namespace Go.Proofs.YtcnhoohcdkfgkaaDoor
open Go.RowKit

theorem bnew_any (A : Option Addr) (m c B : Nat) (bs : List Nat) (t p a n : Nat) (w : World) (h : Rd w B A m c bs) (hB : B ≤ w.heap.size) (hb : ∀ x ∈ bs, x < 256) (hm : m ≤ 100000) (ht : t ≤ 8 * m)
    (hs : XS.May ⟨p, a, n⟩) (h0 : (restL bs t).getD 0 false = true) (h1 : (restL bs t).getD 1 false = true) (hR : TzW w) :
    Calls Tryd.prog 62 #[.agg #[.int .u64 (p : Int), .int .i64 (a : Int), .int .i64 (n : Int)], .slice A m c, .int .i64 (t : Int)] w (RetXB w (newA ⟨p, a, n⟩ (restL bs t))) := by
  by_cases hl : (restL bs t).length < 14
  · exact bnew_short A m c B bs t p a n w h hB hb hm ht hl
  · by_cases hw : 64 < num (cut (restL bs t) 2 6) + (num (cut (restL bs t) 8 6) + 1)
    · exact bnew_wide A m c B bs t p a n _ _ _ w h hB hb hm ht (by omega) h0 h1 rfl rfl rfl hw
    · exact bnew_in A m c B bs t p a n _ _ _ w h hB hb hm ht (by omega) hs h0 h1 rfl rfl rfl (by omega) hR

/-- one bit of bytes, told by Take -/
theorem take_bit {bs : List Nat} {t j : Nat} (h : t ≤ 8 * bs.length) (hj : j < (restL bs t).length) : takeB bs ((t + j : Nat) : Int) ((1 : Nat) : Int) = true ∧ takeN bs ((t + j : Nat) : Int) ((1 : Nat) : Int) = ((restL bs t).getD j false).toNat := by
  obtain ⟨h1, h2⟩ := take_rest (bs := bs) (a := t) (j := j) (n := 1) h (by omega)
  exact ⟨h1.trans (decide_eq_true (by omega)), (h2 (by omega)).trans (num_cut_one _ _ hj)⟩
theorem take_nobit {bs : List Nat} {t j : Nat} (h : t ≤ 8 * bs.length) (hj : (restL bs t).length ≤ j) : takeB bs ((t + j : Nat) : Int) ((1 : Nat) : Int) = false :=
  (take_rest (bs := bs) (a := t) (j := j) (n := 1) h (by omega)).1.trans (decide_eq_false (by omega))

set_option maxRecDepth 20000 in
set_option maxHeartbeats 1000000 in
theorem behind_none (A : Option Addr) (m c B : Nat) (bs : List Nat) (t : Int) (p a n : Nat) (w : World) (h : Rd w B A m c bs) (hB : B ≤ w.heap.size) (hb : ∀ x ∈ bs, x < 256) (hm : m ≤ 100000) (ht : -9223372036854775808 ≤ t ∧ t ≤ 9223372036854775807)
    (hno : takeB bs t 1 = false) (q : List Bool) (hq : q.length = 0) :
    Calls Tryd.prog 56 #[.agg #[.int .u64 (p : Int), .int .i64 (a : Int), .int .i64 (n : Int)], .slice A m c, .int .i64 t] w (RetXB w (getX ⟨p, a, n⟩ q)) := by
  have e : getX ⟨p, a, n⟩ q = badX 2 := by unfold getX; rw [if_pos hq]
  rw [e]
  have hT : ∀ w : World, Rd w B A m c bs → Calls Tryd.prog 53 #[.slice A m c, .int .i64 t, .int .i64 1] w fun e w' => e = .returned (.tuple #[.int .u64 ((takeN bs t 1 : Nat) : Int), .bool (takeB bs t 1)]) ∧ w = w' :=
    fun w h => take_all A m c B bs t 1 w h hb hm ht (by omega)
  rw [hno] at hT
  generalize takeN bs t 1 = y at *
  clear e
  have hb0 := two_below w (.cells #[.int .u64 (p : Int), .int .i64 (a : Int), .int .i64 (n : Int)] 27) (.cells #[.int .u64 0, .int .i64 0, .int .i64 0] 27)
  go_enter Tryd.func56, Tryd.ntmps56
  go_wp2_with fail
  refine (hT _ (h.below (hb0.mono hB))).mono ?_
  rintro e w1 ⟨rfl, rfl⟩
  go_wp2
  go_returns
  exact ⟨rfl, hb0⟩

set_option maxRecDepth 20000 in
set_option maxHeartbeats 2000000 in
theorem behind_some (A : Option Addr) (m c B : Nat) (bs : List Nat) (t p a n : Nat) (w : World) (h : Rd w B A m c bs) (hB : B ≤ w.heap.size) (hb : ∀ x ∈ bs, x < 256) (hm : m ≤ 100000) (ht : t ≤ 8 * m)
    (hs : XS.May ⟨p, a, n⟩) (hR : TzW w) (hq : 0 < (restL bs t).length) :
    Calls Tryd.prog 56 #[.agg #[.int .u64 (p : Int), .int .i64 (a : Int), .int .i64 (n : Int)], .slice A m c, .int .i64 (t : Int)] w (RetXB w (getX ⟨p, a, n⟩ (restL bs t))) := by
  have hl := h.len
  have hb0 := two_below w (.cells #[.int .u64 (p : Int), .int .i64 (a : Int), .int .i64 (n : Int)] 27) (.cells #[.int .u64 0, .int .i64 0, .int .i64 0] 27)
  have b3 := (Box3.new w (.int .u64 (p : Int)) (.int .i64 (a : Int)) (.int .i64 (n : Int)) 27).onA (.cells #[.int .u64 0, .int .i64 0, .int .i64 0] 27)
  have b6 := Box3.new (w.alloc (.cells #[.int .u64 (p : Int), .int .i64 (a : Int), .int .i64 (n : Int)] 27)) (.int .u64 0) (.int .i64 0) (.int .i64 0) 27
  simp only [World.size_alloc] at b6
  obtain ⟨i1, i2⟩ := take_bit (bs := bs) (t := t) (j := 0) (by omega) hq
  rw [Nat.add_zero] at i1 i2
  have hT1 : ∀ w : World, Rd w B A m c bs → Calls Tryd.prog 53 #[.slice A m c, .int .i64 (t : Int), .int .i64 ((1 : Nat) : Int)] w fun e w' => e = .returned (.tuple #[.int .u64 ((takeN bs (t : Int) ((1 : Nat) : Int) : Nat) : Int), .bool (takeB bs (t : Int) ((1 : Nat) : Int))]) ∧ w = w' :=
    fun w h => take_all A m c B bs (t : Int) ((1 : Nat) : Int) w h hb hm (by omega) (by omega)
  rw [i1, i2] at hT1
  have hT2 : ∀ w : World, Rd w B A m c bs → Calls Tryd.prog 53 #[.slice A m c, .int .i64 ((t + 1 : Nat) : Int), .int .i64 ((1 : Nat) : Int)] w fun e w' => e = .returned (.tuple #[.int .u64 ((takeN bs ((t + 1 : Nat) : Int) ((1 : Nat) : Int) : Nat) : Int), .bool (takeB bs ((t + 1 : Nat) : Int) ((1 : Nat) : Int))]) ∧ w = w' :=
    fun w h => take_all A m c B bs ((t + 1 : Nat) : Int) ((1 : Nat) : Int) w h hb hm (by omega) (by omega)
  clear i1 i2
  by_cases h0 : (restL bs t).getD 0 false = false
  · have e : getX ⟨p, a, n⟩ (restL bs t) = ⟨p, ⟨p, a, n⟩, 1, 0⟩ := by unfold getX; rw [if_neg (by omega), if_pos h0]
    rw [e]
    rw [h0] at hT1
    clear e hT2 hq h0
    go_enter Tryd.func56, Tryd.ntmps56
    go_wp2_with fail
    refine (hT1 _ (h.below (hb0.mono hB))).mono ?_
    rintro e w1 ⟨rfl, rfl⟩
    go_wp2
    go_returns
    exact ⟨rfl, two_below _ _ _⟩
  · have h0' : (restL bs t).getD 0 false = true := by simpa using h0
    rw [h0'] at hT1
    by_cases hq1 : (restL bs t).length = 1
    · have e : getX ⟨p, a, n⟩ (restL bs t) = badX 2 := by unfold getX; rw [if_neg (by omega), if_neg h0, if_pos hq1]
      rw [e]
      rw [take_nobit (by omega) (by omega)] at hT2
      generalize takeN bs ((t + 1 : Nat) : Int) ((1 : Nat) : Int) = y at *
      clear e hq h0 h0' hq1
      go_enter Tryd.func56, Tryd.ntmps56
      go_wp2_with fail
      refine (hT1 _ (h.below (hb0.mono hB))).mono ?_
      rintro e w1 ⟨rfl, rfl⟩
      go_wp2_with fail
      refine (hT2 _ (h.below (hb0.mono hB))).mono ?_
      rintro e w1 ⟨rfl, rfl⟩
      go_wp2
      go_returns
      exact ⟨rfl, two_below _ _ _⟩
    · obtain ⟨i1, i2⟩ := take_bit (bs := bs) (t := t) (j := 1) (by omega) (by omega)
      rw [i1, i2] at hT2
      clear i1 i2
      by_cases h1 : (restL bs t).getD 1 false = false
      · have e : getX ⟨p, a, n⟩ (restL bs t) = tailX ⟨p, a, n⟩ (restL bs t) 2 a n := by unfold getX; rw [if_neg (by omega), if_neg h0, if_neg hq1, if_pos h1]
        rw [e]
        have hO := fun X (h : Rd X B A m c bs) (hB : B ≤ X.heap.size) => bold_any A m c B bs t p a n X h hB hb hm ht hs h0' h1
        generalize tailX ⟨p, a, n⟩ (restL bs t) 2 a n = R at *
        rw [h1] at hT2
        clear e hq h0 h0' hq1 h1
        go_enter Tryd.func56, Tryd.ntmps56
        go_wp2_with fail
        refine (hT1 _ (h.below (hb0.mono hB))).mono ?_
        rintro e w1 ⟨rfl, rfl⟩
        go_wp2_with fail
        refine (hT2 _ (h.below (hb0.mono hB))).mono ?_
        rintro e w1 ⟨rfl, rfl⟩
        go_wp2_with fail
        refine (hO _ (h.below (hb0.mono hB)) (Nat.le_trans hB hb0.size)).mono ?_
        rintro e w2 ⟨rfl, hb2⟩
        obtain ⟨_, z0, z1, z2, zf0, zf1, zf2⟩ := b6.below hb2
        have bz := (b6.below hb2).set (.int .u64 (R.s.prev : Int)) (.int .i64 (R.s.lead : Int)) (.int .i64 (R.s.len : Int))
        have hz := below_set3 (hb0.trans (hb2.mono hb0.size)) (g := w.heap.size + 1) (by omega) (.int .u64 (R.s.prev : Int)) (.int .i64 (R.s.lead : Int)) (.int .i64 (R.s.len : Int))
        clear hT1 hT2 hO
        go_wp2
        refine bodyPost_ret (v := .tuple #[.agg #[.int .u64 (R.s.prev : Int), .int .i64 (R.s.lead : Int), .int .i64 (R.s.len : Int)], .int .i64 (R.n : Int), errV R.e]) ?_ rfl ⟨rfl, hz⟩
        simp [results, Tryd.results56, go_sem, bz.c0, bz.c1, bz.c2]
      · have h1' : (restL bs t).getD 1 false = true := by simpa using h1
        have e : getX ⟨p, a, n⟩ (restL bs t) = newA ⟨p, a, n⟩ (restL bs t) := by unfold getX newA; rw [if_neg (by omega), if_neg h0, if_neg hq1, if_neg h1]
        rw [e]
        have hO := fun X (h : Rd X B A m c bs) (hB : B ≤ X.heap.size) hR => bnew_any A m c B bs t p a n X h hB hb hm ht hs h0' h1' hR
        generalize newA ⟨p, a, n⟩ (restL bs t) = R at *
        rw [h1'] at hT2
        clear e hq h0 h0' hq1 h1 h1'
        go_enter Tryd.func56, Tryd.ntmps56
        go_wp2_with fail
        refine (hT1 _ (h.below (hb0.mono hB))).mono ?_
        rintro e w1 ⟨rfl, rfl⟩
        go_wp2_with fail
        refine (hT2 _ (h.below (hb0.mono hB))).mono ?_
        rintro e w1 ⟨rfl, rfl⟩
        go_wp2_with fail
        refine (hO _ (h.below (hb0.mono hB)) (Nat.le_trans hB hb0.size) (hR.bel hb0)).mono ?_
        rintro e w2 ⟨rfl, hb2⟩
        obtain ⟨_, z0, z1, z2, zf0, zf1, zf2⟩ := b6.below hb2
        have bz := (b6.below hb2).set (.int .u64 (R.s.prev : Int)) (.int .i64 (R.s.lead : Int)) (.int .i64 (R.s.len : Int))
        have hz := below_set3 (hb0.trans (hb2.mono hb0.size)) (g := w.heap.size + 1) (by omega) (.int .u64 (R.s.prev : Int)) (.int .i64 (R.s.lead : Int)) (.int .i64 (R.s.len : Int))
        clear hT1 hT2 hO
        go_wp2
        refine bodyPost_ret (v := .tuple #[.agg #[.int .u64 (R.s.prev : Int), .int .i64 (R.s.lead : Int), .int .i64 (R.s.len : Int)], .int .i64 (R.n : Int), errV R.e]) ?_ rfl ⟨rfl, hz⟩
        simp [results, Tryd.results56, go_sem, bz.c0, bz.c1, bz.c2]

theorem behind_any (A : Option Addr) (m c B : Nat) (bs : List Nat) (t : Int) (p a n : Nat) (w : World) (h : Rd w B A m c bs) (hB : B ≤ w.heap.size) (hb : ∀ x ∈ bs, x < 256) (hm : m ≤ 100000) (ht : -9223372036854775808 ≤ t ∧ t ≤ 9223372036854775807)
    (hs : XS.May ⟨p, a, n⟩) (hR : TzW w) :
    Calls Tryd.prog 56 #[.agg #[.int .u64 (p : Int), .int .i64 (a : Int), .int .i64 (n : Int)], .slice A m c, .int .i64 t] w (RetXB w (getX ⟨p, a, n⟩ (restL bs t))) := by
  have hl := h.len
  by_cases hy : 0 ≤ t ∧ t ≤ 8 * (m : Int)
  · obtain ⟨t', rfl⟩ := Int.eq_ofNat_of_zero_le hy.1
    by_cases hq : (restL bs t').length = 0
    · have := take_nobit (bs := bs) (t := t') (j := 0) (by omega) (by omega)
      rw [Nat.add_zero] at this
      exact behind_none A m c B bs t' p a n w h hB hb hm ht this _ hq
    · exact behind_some A m c B bs t' p a n w h hB hb hm (by omega) hs hR (by omega)
  · have := (takeB_no (bs := bs) (a := t) (n := 1) (by omega)).1
    exact behind_none A m c B bs t p a n w h hB hb hm ht this _ (by rw [restL_no (by omega)]; rfl)

theorem testX_v (s : XS) (p : List Bool) (h n x : Nat) : (testX s p h n x).v = (testX s p h n x).s.prev := by
  unfold testX
  split
  · unfold nextOf
    split <;> rfl
  · rfl
theorem tailX_v (s : XS) (p : List Bool) (h a n : Nat) : (tailX s p h a n).v = (tailX s p h a n).s.prev := by
  unfold tailX
  split
  · rfl
  · split
    · rfl
    · exact testX_v _ _ _ _ _
theorem getX_v (s : XS) (p : List Bool) : (getX s p).v = (getX s p).s.prev := by
  unfold getX
  split
  · rfl
  · split
    · rfl
    · split
      · rfl
      · split
        · exact tailX_v _ _ _ _ _
        · split
          · rfl
          · exact tailX_v _ _ _ _ _

/-- what Get comes to -/
def RetXG (w : World) (r : XA) (e : Ending) (w' : World) : Prop :=
  e = .returned (.tuple #[.int .u64 (r.v : Int), .agg #[.int .u64 (r.s.prev : Int), .int .i64 (r.s.lead : Int), .int .i64 (r.s.len : Int)], .int .i64 (r.n : Int), errV r.e]) ∧ Below w.heap.size w w'

set_option maxRecDepth 20000 in
set_option maxHeartbeats 1000000 in
theorem xget_any (A : Option Addr) (m c B : Nat) (bs : List Nat) (t : Int) (p a n : Nat) (w : World) (h : Rd w B A m c bs) (hB : B ≤ w.heap.size) (hb : ∀ x ∈ bs, x < 256) (hm : m ≤ 100000) (ht : -9223372036854775808 ≤ t ∧ t ≤ 9223372036854775807)
    (hs : XS.May ⟨p, a, n⟩) (hR : TzW w) :
    Calls Tryd.prog 43 #[.agg #[.int .u64 (p : Int), .int .i64 (a : Int), .int .i64 (n : Int)], .slice A m c, .int .i64 t] w (RetXG w (getX ⟨p, a, n⟩ (restL bs t))) := by
  have hb0 := two_below w (.cells #[.int .u64 (p : Int), .int .i64 (a : Int), .int .i64 (n : Int)] 27) (.cells #[.int .u64 0, .int .i64 0, .int .i64 0] 27)
  have b7 := Box3.new (w.alloc (.cells #[.int .u64 (p : Int), .int .i64 (a : Int), .int .i64 (n : Int)] 27)) (.int .u64 0) (.int .i64 0) (.int .i64 0) 27
  simp only [World.size_alloc] at b7
  have hO := fun X (h : Rd X B A m c bs) (hB : B ≤ X.heap.size) hR => behind_any A m c B bs t p a n X h hB hb hm ht hs hR
  have hv := getX_v ⟨p, a, n⟩ (restL bs t)
  unfold RetXG
  rw [hv]
  clear hv
  generalize getX ⟨p, a, n⟩ (restL bs t) = R at *
  go_enter Tryd.func43, Tryd.ntmps43
  go_wp2_with fail
  refine (hO _ (h.below (hb0.mono hB)) (Nat.le_trans hB hb0.size) (hR.bel hb0)).mono ?_
  rintro e w2 ⟨rfl, hb2⟩
  replace b7 := b7.below hb2
  have hz := hb0.trans (hb2.mono hb0.size)
  clear hO
  go_upto_region 2 with fail
  have b10 := Box3.new w2 (.int .u64 (R.s.prev : Int)) (.int .i64 (R.s.lead : Int)) (.int .i64 (R.s.len : Int)) 27
  have hlt := b7.lt
  replace b7 := b7.onA (.cells #[.int .u64 (R.s.prev : Int), .int .i64 (R.s.lead : Int), .int .i64 (R.s.len : Int)] 27)
  replace hz := hz.alloc hz.size (.cells #[.int .u64 (R.s.prev : Int), .int .i64 (R.s.lead : Int), .int .i64 (R.s.len : Int)] 27)
  generalize w2.alloc (.cells #[.int .u64 (R.s.prev : Int), .int .i64 (R.s.lead : Int), .int .i64 (R.s.len : Int)] 27) = W at *
  generalize w2.heap.size = g at *
  have bz := (b7.set (.int .u64 (R.s.prev : Int)) (.int .i64 (R.s.lead : Int)) (.int .i64 (R.s.len : Int))).drew
  have hzz := (below_set3 hz (g := w.heap.size + 1) (by omega) (.int .u64 (R.s.prev : Int)) (.int .i64 (R.s.lead : Int)) (.int .i64 (R.s.len : Int))).drew
  obtain ⟨_, y0, y1, y2, yf0, yf1, yf2⟩ := b7.drew
  obtain ⟨_, z0, z1, z2, zf0, zf1, zf2⟩ := b7
  obtain ⟨_, r0, r1, r2, _, _, _⟩ := b10.drew
  obtain ⟨_, s0, s1, s2, _, _, _⟩ := b10
  go_region
  all_goals
    go_wp2
    refine bodyPost_ret (v := .tuple #[.int .u64 (R.s.prev : Int), .agg #[.int .u64 (R.s.prev : Int), .int .i64 (R.s.lead : Int), .int .i64 (R.s.len : Int)], .int .i64 (R.n : Int), errV R.e]) ?_ rfl ⟨rfl, hzz⟩
    simp [results, Tryd.results43, go_sem, bz.c0, bz.c1, bz.c2]

end Go.Proofs.YtcnhoohcdkfgkaaDoor

/-
  The contracts of layer 8's small functions: known, rises, word, getWord; sums and differences as the walk spells them.
-/
namespace Go.Proofs.YtcnhoohcdkfgkaaDoor
open Go.RowKit

theorem known_yes (k : Nat) (w : World) (hk : k = 1 ∨ k = 2) :
    Calls Tryd.prog 18 #[.int .i64 (k : Int)] w fun e w' => e = .returned (.bool true) ∧ w = w' := by
  rcases hk with rfl | rfl
  all_goals
    go_enter Tryd.func18, Tryd.ntmps18
    go_wp2
    go_ret
    exact ⟨rfl, rfl⟩
theorem known_no (z : Int) (w : World) (h1 : (z == 1) = false) (h2 : (z == 2) = false) :
    Calls Tryd.prog 18 #[.int .i64 z] w fun e w' => e = .returned (.bool false) ∧ w = w' := by
  go_enter Tryd.func18, Tryd.ntmps18
  go_wp2
  go_ret
  exact ⟨rfl, rfl⟩

set_option maxRecDepth 20000 in
theorem rises_any (s : KS) (t : Int) (v : Nat) (w : World) :
    Calls Tryd.prog 19 #[(.agg #[.int .i64 (s.n : Int), .int .i64 s.t, .int .i64 s.d, .int .u64 (s.v : Int), .int .u64 (s.e : Int), .int .u64 (s.x.prev : Int), .int .i64 (s.x.lead : Int), .int .i64 (s.x.len : Int)]), (.agg #[.int .i64 t, .int .u64 (v : Int)])] w fun e w' => e = .returned (.bool (risesK s t)) ∧ Below w.heap.size w w' := by
  have hb := ((Below.refl w.heap.size w).alloc (Nat.le_refl _) (.cells #[.int .i64 (s.n : Int), .int .i64 s.t, .int .i64 s.d, .int .u64 (s.v : Int), .int .u64 (s.e : Int), .int .u64 (s.x.prev : Int), .int .i64 (s.x.lead : Int), .int .i64 (s.x.len : Int)] 29)).alloc (by simp) (.cells #[.int .i64 t, .int .u64 (v : Int)] 40)
  by_cases h0 : s.n = 0
  · have e : risesK s t = true := by unfold risesK; simp [h0]
    have h1 : ((s.n : Int) == 0) = true := by simp [h0]
    rw [e]
    clear h0
    go_enter Tryd.func19, Tryd.ntmps19
    go_wp2
    go_ret
    exact ⟨rfl, hb⟩
  · have h1 : ((s.n : Int) == 0) = false := by simp [h0]
    have e : risesK s t = decide (s.t < t) := by unfold risesK; simp [h0]
    rw [e]
    clear h0
    by_cases h2 : s.t < t
    all_goals
      go_enter Tryd.func19, Tryd.ntmps19
      go_wp2
      go_ret
      exact ⟨by simp [h2], hb⟩

theorem word_any (v : Nat) (w : World) :
    Calls Tryd.prog 36 #[.int .u64 (v : Int)] w (RetBits w (low v 64)) := by
  have hb0 : Below w.heap.size w (w.alloc (.cells #[.slice none 0 0, .int .i64 0] 34)) := (Below.refl _ _).alloc (Nat.le_refl _) _
  go_enter Tryd.func36, Tryd.ntmps36
  go_wp2_with fail
  refine (put_yes none 0 0 [] v 64 _ Rd.nil_ (by simp) (by omega)).mono ?_
  rw [List.nil_append]
  rintro e w1 ⟨A1, c1, rfl, hown⟩
  have HL : Hid ((low v 64).length = 64) := Lib.hid (low_length _ _)
  generalize low v 64 = p at *
  rw [HL.out]
  have hx := (BoxAt.new w (.slice none 0 0) (.int .i64 0) 34).below hown.bel
  have hl : w.heap.size < (w.alloc (.cells #[.slice none 0 0, .int .i64 0] 34)).heap.size := by simp
  obtain ⟨xlt, xc0, xc1, xf0, xf1⟩ := hx
  go_wp2
  have hy := (BoxAt.mk xlt xc0 xc1 xf0 xf1).set (.slice A1 (pack p).length c1) (.int .i64 64)
  have h4 := hown.past2 hb0 (p := ⟨w.heap.size, 0, none⟩) (q := ⟨w.heap.size, 1, none⟩) (Nat.le_refl _) hl (Nat.le_refl _) hl (.slice A1 (pack p).length c1) (.int .i64 64)
  have e0 := hy.c0
  have e1 := hy.c1
  refine bodyPost_ret (v := .agg #[.slice A1 (pack p).length c1, .int .i64 64]) ?_ rfl (RetBits.mk h4 HL.out)
  simp [results, Tryd.results36, go_sem, e0, e1]

/-- what getWord comes to -/
def RetW (w : World) (p : List Bool) (e : Ending) (w' : World) : Prop :=
  (64 ≤ p.length ∧ e = .returned (.tuple #[.int .u64 ((num (cut p 0 64) : Nat) : Int), .int .i64 64, .nilIface]) ∧ w = w') ∨
  (p.length < 64 ∧ e = .returned (.tuple #[.int .u64 0, .int .i64 0, .iface 58 (.int .i64 2)]) ∧ w = w')
theorem getword_any (A : Option Addr) (m c B : Nat) (bs : List Nat) (a : Int) (w : World) (h : Rd w B A m c bs) (hb : ∀ x ∈ bs, x < 256) (hm : m ≤ 100000)
    (ha : -9223372036854775808 ≤ a ∧ a ≤ 9223372036854775807) :
    Calls Tryd.prog 41 #[.slice A m c, .int .i64 a] w (RetW w (restL bs a)) := by
  have hT := fun w (h : Rd w B A m c bs) => take_all A m c B bs a ((64 : Nat) : Int) w h hb hm ha (by omega)
  have hl := h.len
  by_cases hy : 64 ≤ (restL bs a).length
  · have hin : 0 ≤ a ∧ a ≤ 8 * (m : Int) := by
      by_cases g : 0 ≤ a ∧ a ≤ 8 * (m : Int)
      · exact g
      · rw [restL_no (by omega)] at hy
        simp at hy
    obtain ⟨a', rfl⟩ := Int.eq_ofNat_of_zero_le hin.1
    have h1 := take_rest (bs := bs) (a := a') (j := 0) (n := 64) (by omega) (by omega)
    rw [decide_eq_true (by omega)] at h1
    have H1 : Hid (takeB bs (a' : Int) ((64 : Nat) : Int) = true) := Lib.hid h1.1
    have H2 : Hid (takeN bs (a' : Int) ((64 : Nat) : Int) = num (cut (restL bs (a' : Int)) 0 64)) := Lib.hid (h1.2 (by omega))
    clear h1
    go_enter Tryd.func41, Tryd.ntmps41
    go_wp2_with (go_at_call 53; refine (hT _ h).mono ?_; rintro e w1 ⟨rfl, rfl⟩; rw [H1.out, H2.out])
    go_ret3
    exact .inl ⟨hy, rfl, rfl⟩
  · have H1 : Hid (takeB bs a ((64 : Nat) : Int) = false) := Lib.hid (by
      by_cases g : 0 ≤ a ∧ a ≤ 8 * (m : Int)
      · obtain ⟨a', rfl⟩ := Int.eq_ofNat_of_zero_le g.1
        have h1 := take_rest (bs := bs) (a := a') (j := 0) (n := 64) (by omega) (by omega)
        rw [decide_eq_false (by omega)] at h1
        exact h1.1
      · exact (takeB_no (by omega)).1)
    go_enter Tryd.func41, Tryd.ntmps41
    go_wp2_with (go_at_call 53; refine (hT _ h).mono ?_; rintro e w1 ⟨rfl, rfl⟩; rw [H1.out])
    go_ret3
    exact .inr ⟨by omega, rfl, rfl⟩

end Go.Proofs.YtcnhoohcdkfgkaaDoor

/-
  The contracts of layer 8's timeBits, afterFirst and After.
-/
namespace Go.Proofs.YtcnhoohcdkfgkaaDoor
open Go.RowKit

theorem w64_wrap (x : Int) : wrap64 x = w64 x := wrap64_mod x
theorem stepT_wrap (s : KS) (t : Int) : wrap64 (wrap64 (t - s.t) - s.d) = stepT s t := by
  unfold stepT
  rw [w64_wrap, w64_wrap]
  unfold w64
  omega
theorem stepE_wrap (s : KS) (v : Nat) : wrap64 (IntKind.u64.wrap (IntKind.u64.wrap ((v : Int) - (s.v : Int)) - (s.e : Int))) = stepE s v := by
  unfold stepE
  rw [w64_wrap, u64_mod, u64_mod]
  unfold w64
  omega

set_option maxRecDepth 20000 in
set_option maxHeartbeats 400000 in
theorem timebits_any (s : KS) (t : Int) (w : World) (hR : RoomW w) :
    Calls Tryd.prog 21 #[(.agg #[.int .i64 (s.n : Int), .int .i64 s.t, .int .i64 s.d, .int .u64 (s.v : Int), .int .u64 (s.e : Int), .int .u64 (s.x.prev : Int), .int .i64 (s.x.lead : Int), .int .i64 (s.x.len : Int)]), .int .i64 t] w (RetBits w (timeK s t)) := by
  have hb0 := ((Below.refl w.heap.size w).alloc (Nat.le_refl _) (.cells #[.int .i64 (s.n : Int), .int .i64 s.t, .int .i64 s.d, .int .u64 (s.v : Int), .int .u64 (s.e : Int), .int .u64 (s.x.prev : Int), .int .i64 (s.x.lead : Int), .int .i64 (s.x.len : Int)] 29)).alloc (by simp) (.cells #[.slice none 0 0, .int .i64 0] 34)
  have hx0 := BoxAt.new (w.alloc (.cells #[.int .i64 (s.n : Int), .int .i64 s.t, .int .i64 s.d, .int .u64 (s.v : Int), .int .u64 (s.e : Int), .int .u64 (s.x.prev : Int), .int .i64 (s.x.lead : Int), .int .i64 (s.x.len : Int)] 29)) (.slice none 0 0) (.int .i64 0) 34
  simp only [World.size_alloc] at hx0
  have hl0 := hx0.lt
  have hR0 := hR.bel hb0
  by_cases h0 : s.n = 0
  · have h1 : ((s.n : Int) == 0) = true := by simp [h0]
    have huw : IntKind.u64.wrap t = ((un64 t : Nat) : Int) := by rw [u64_mod, un64_cast]
    have HP : Hid (timeK s t = low (un64 t) 64) := Lib.hid (by unfold timeK; rw [if_pos h0])
    have HL : Hid ((low (un64 t) 64).length = 64) := Lib.hid (low_length _ _)
    have hW := fun w => word_any (un64 t) w
    generalize low (un64 t) 64 = p at *
    clear h0
    go_enter Tryd.func21, Tryd.ntmps21
    go_wp2_with fail
    refine (hW _).mono ?_
    rintro e w1 ⟨A1, c1, rfl, hown⟩
    rw [HL.out]
    have hx := hx0.below hown.bel
    obtain ⟨xlt, xc0, xc1, xf0, xf1⟩ := hx
    go_wp2
    have hy := (BoxAt.mk xlt xc0 xc1 xf0 xf1).set (.slice A1 (pack p).length c1) (.int .i64 64)
    have h4 := hown.past2 hb0 (p := ⟨w.heap.size + 1, 0, none⟩) (q := ⟨w.heap.size + 1, 1, none⟩) (by simp) hl0 (by simp) hl0 (.slice A1 (pack p).length c1) (.int .i64 64)
    have e0 := hy.c0
    have e1 := hy.c1
    refine bodyPost_ret (v := .agg #[.slice A1 (pack p).length c1, .int .i64 64]) ?_ rfl (by rw [HP.out]; exact RetBits.mk h4 HL.out)
    simp [results, Tryd.results21, go_sem, e0, e1]
  · have h1 : ((s.n : Int) == 0) = false := by simp [h0]
    have HP : Hid (timeK s t = codeD (stepT s t)) := Lib.hid (by unfold timeK; rw [if_neg h0])
    have hS := stepT_wrap s t
    have hI := stepT_in s t
    have hC := fun w hR => dcode_any (stepT s t) w hI hR
    generalize stepT s t = st at *
    clear h0
    go_enter Tryd.func21, Tryd.ntmps21
    go_wp2_with fail
    refine (hC _ hR0).mono ?_
    generalize codeD st = p at *
    obtain ⟨M, HM⟩ : ∃ M, Hid (p.length = M) := ⟨_, Lib.hid rfl⟩
    rintro e w1 ⟨A1, c1, rfl, hown⟩
    rw [HM.out]
    have hx := hx0.below hown.bel
    obtain ⟨xlt, xc0, xc1, xf0, xf1⟩ := hx
    go_wp2
    have hy := (BoxAt.mk xlt xc0 xc1 xf0 xf1).set (.slice A1 (pack p).length c1) (.int .i64 (M : Int))
    have h4 := hown.past2 hb0 (p := ⟨w.heap.size + 1, 0, none⟩) (q := ⟨w.heap.size + 1, 1, none⟩) (by simp) hl0 (by simp) hl0 (.slice A1 (pack p).length c1) (.int .i64 (M : Int))
    have e0 := hy.c0
    have e1 := hy.c1
    refine bodyPost_ret (v := .agg #[.slice A1 (pack p).length c1, .int .i64 (M : Int)]) ?_ rfl (by rw [HP.out]; exact RetBits.mk h4 HM.out)
    simp [results, Tryd.results21, go_sem, e0, e1]

/-- the state behind the first sample -/
def firstS (k : Nat) (t : Int) (v : Nat) : KS := ⟨1, t, 0, v, 0, if k = 1 then ⟨v, 0, 0⟩ else zeroX⟩
set_option maxRecDepth 20000 in
set_option maxHeartbeats 400000 in
theorem afterfirst_any (k : Nat) (t : Int) (v : Nat) (w : World) (hk : k = 1 ∨ k = 2) :
    Calls Tryd.prog 28 #[.int .i64 (k : Int), (.agg #[.int .i64 t, .int .u64 (v : Int)])] w fun e w' => e = .returned (.agg #[.int .i64 ((firstS k t v).n : Int), .int .i64 (firstS k t v).t, .int .i64 (firstS k t v).d, .int .u64 ((firstS k t v).v : Int), .int .u64 ((firstS k t v).e : Int), .int .u64 ((firstS k t v).x.prev : Int), .int .i64 ((firstS k t v).x.lead : Int), .int .i64 ((firstS k t v).x.len : Int)]) ∧ Below w.heap.size w w' := by
  rcases hk with rfl | rfl
  all_goals
    go_enter Tryd.func28, Tryd.ntmps28
    go_wp2
    go_returns
    exact ⟨rfl, by repeat (first | with_reducible exact Below.refl _ _ | assumption | with_reducible refine Below.drew ?_ | with_reducible refine Below.alloc ?_ (by (first | assumption | omega | (simp; done) | (simp; omega))) _)⟩

set_option maxRecDepth 20000 in
set_option maxHeartbeats 1000000 in
theorem after_any (k : Nat) (s : KS) (t : Int) (v : Nat) (y : XS) (w : World) (hk : k = 1 ∨ k = 2) (hn : s.n ≤ 1000000) :
    Calls Tryd.prog 11 #[.int .i64 (k : Int), (.agg #[.int .i64 (s.n : Int), .int .i64 s.t, .int .i64 s.d, .int .u64 (s.v : Int), .int .u64 (s.e : Int), .int .u64 (s.x.prev : Int), .int .i64 (s.x.lead : Int), .int .i64 (s.x.len : Int)]), (.agg #[.int .i64 t, .int .u64 (v : Int)]), (.agg #[.int .u64 (y.prev : Int), .int .i64 (y.lead : Int), .int .i64 (y.len : Int)])] w fun e w' => e = .returned (.agg #[.int .i64 ((afterK k s t v y).n : Int), .int .i64 (afterK k s t v y).t, .int .i64 (afterK k s t v y).d, .int .u64 ((afterK k s t v y).v : Int), .int .u64 ((afterK k s t v y).e : Int), .int .u64 ((afterK k s t v y).x.prev : Int), .int .i64 ((afterK k s t v y).x.lead : Int), .int .i64 ((afterK k s t v y).x.len : Int)]) ∧ Below w.heap.size w w' := by
  by_cases h0 : s.n = 0
  · have h1 : ((s.n : Int) == 0) = true := by simp [h0]
    have HA : Hid (afterK k s t v y = firstS k t v) := Lib.hid (by unfold afterK firstS; rw [if_pos h0])
    rw [HA.out]
    have hF := fun w => afterfirst_any k t v w hk
    generalize firstS k t v = s' at *
    clear h0
    go_enter Tryd.func11, Tryd.ntmps11
    go_wp2_with fail
    refine (hF _).mono ?_
    have hb0 : Below w.heap.size w ((((w.alloc (.cells #[.int .i64 (s.n : Int), .int .i64 s.t, .int .i64 s.d, .int .u64 (s.v : Int), .int .u64 (s.e : Int), .int .u64 (s.x.prev : Int), .int .i64 (s.x.lead : Int), .int .i64 (s.x.len : Int)] 29)).alloc (.cells #[.int .i64 t, .int .u64 (v : Int)] 40)).alloc (.cells #[.int .u64 (y.prev : Int), .int .i64 (y.lead : Int), .int .i64 (y.len : Int)] 27)).alloc (.cells #[.int .i64 0, .int .i64 0, .int .i64 0, .int .u64 0, .int .u64 0, .int .u64 0, .int .i64 0, .int .i64 0] 29)) := by repeat (first | with_reducible exact Below.refl _ _ | assumption | with_reducible refine Below.drew ?_ | with_reducible refine Below.alloc ?_ (by (first | assumption | omega | (simp; done) | (simp; omega))) _)
    have hx0 := BoxL.new (((w.alloc (.cells #[.int .i64 (s.n : Int), .int .i64 s.t, .int .i64 s.d, .int .u64 (s.v : Int), .int .u64 (s.e : Int), .int .u64 (s.x.prev : Int), .int .i64 (s.x.lead : Int), .int .i64 (s.x.len : Int)] 29)).alloc (.cells #[.int .i64 t, .int .u64 (v : Int)] 40)).alloc (.cells #[.int .u64 (y.prev : Int), .int .i64 (y.lead : Int), .int .i64 (y.len : Int)] 27)) [.int .i64 0, .int .i64 0, .int .i64 0, .int .u64 0, .int .u64 0, .int .u64 0, .int .i64 0, .int .i64 0] 29
    simp only [World.size_alloc] at hx0
    rintro e w1 ⟨rfl, hb1⟩
    replace hx0 := hx0.below hb1
    replace hb1 := hb0.trans (hb1.mono hb0.size)
    obtain ⟨c0, c1, c2, c3, c4, c5, c6, c7⟩ := hx0.get8
    obtain ⟨f0, f1, f2, f3, f4, f5, f6, f7⟩ := hx0.free8
    have hg : w.heap.size ≤ w.heap.size + 1 + 1 + 1 := by omega
    generalize w.heap.size + 1 + 1 + 1 = g at *
    go_wp2
    have hy := hx0.all8 (.int .i64 (s'.n : Int)) (.int .i64 s'.t) (.int .i64 s'.d) (.int .u64 (s'.v : Int)) (.int .u64 (s'.e : Int)) (.int .u64 (s'.x.prev : Int)) (.int .i64 (s'.x.lead : Int)) (.int .i64 (s'.x.len : Int))
    obtain ⟨d0, d1, d2, d3, d4, d5, d6, d7⟩ := hy.get8
    have hbs := below_set8 hb1 hg (.int .i64 (s'.n : Int)) (.int .i64 s'.t) (.int .i64 s'.d) (.int .u64 (s'.v : Int)) (.int .u64 (s'.e : Int)) (.int .u64 (s'.x.prev : Int)) (.int .i64 (s'.x.lead : Int)) (.int .i64 (s'.x.len : Int))
    refine bodyPost_ret (v := (.agg #[.int .i64 (s'.n : Int), .int .i64 s'.t, .int .i64 s'.d, .int .u64 (s'.v : Int), .int .u64 (s'.e : Int), .int .u64 (s'.x.prev : Int), .int .i64 (s'.x.lead : Int), .int .i64 (s'.x.len : Int)])) ?_ rfl ⟨rfl, hbs⟩
    clear hx0 hb1 hy hbs hF
    clear c0 c1 c2 c3 c4 c5 c6 c7 f0 f1 f2 f3 f4 f5 f6 f7
    generalize ((((((((w1.setCell ⟨g, 0, none⟩ (.int .i64 (s'.n : Int))).setCell ⟨g, 1, none⟩ (.int .i64 s'.t)).setCell ⟨g, 2, none⟩ (.int .i64 s'.d)).setCell ⟨g, 3, none⟩ (.int .u64 (s'.v : Int))).setCell ⟨g, 4, none⟩ (.int .u64 (s'.e : Int))).setCell ⟨g, 5, none⟩ (.int .u64 (s'.x.prev : Int))).setCell ⟨g, 6, none⟩ (.int .i64 (s'.x.lead : Int))).setCell ⟨g, 7, none⟩ (.int .i64 (s'.x.len : Int))) = W at *
    simp [results, Tryd.results11, go_sem, d0, d1, d2, d3, d4, d5, d6, d7]
  · have h1 : ((s.n : Int) == 0) = false := by simp [h0]
    have hw := w64_wrap (t - s.t)
    have hu : IntKind.u64.wrap ((v : Int) - (s.v : Int)) = ((un64 ((v : Int) - (s.v : Int)) : Nat) : Int) := by rw [u64_mod, un64_cast]
    rcases hk with rfl | rfl
    · have HA : Hid (afterK 1 s t v y = ⟨s.n + 1, t, w64 (t - s.t), v, 0, y⟩) := Lib.hid (by unfold afterK; rw [if_neg h0]; rfl)
      rw [HA.out]
      clear h0
      go_enter Tryd.func11, Tryd.ntmps11
      go_wp2
      go_returns
      exact ⟨rfl, by repeat (first | with_reducible exact Below.refl _ _ | assumption | with_reducible refine Below.drew ?_ | with_reducible refine Below.alloc ?_ (by (first | assumption | omega | (simp; done) | (simp; omega))) _)⟩
    · have HA : Hid (afterK 2 s t v y = ⟨s.n + 1, t, w64 (t - s.t), v, un64 ((v : Int) - (s.v : Int)), zeroX⟩) := Lib.hid (by unfold afterK; rw [if_neg h0]; rfl)
      rw [HA.out]
      clear h0
      go_enter Tryd.func11, Tryd.ntmps11
      go_wp2
      go_returns
      exact ⟨rfl, by repeat (first | with_reducible exact Below.refl _ _ | assumption | with_reducible refine Below.drew ?_ | with_reducible refine Below.alloc ?_ (by (first | assumption | omega | (simp; done) | (simp; omega))) _)⟩

end Go.Proofs.YtcnhoohcdkfgkaaDoor

/-
  The contract of layer 8's valueBits: a value's bits, and layer 7's state behind them.
-/
namespace Go.Proofs.YtcnhoohcdkfgkaaDoor
open Go.RowKit

/-- what valueBits comes to -/
def RetV (w : World) (p : List Bool) (y : XS) (e : Ending) (w' : World) : Prop :=
  ∃ A c, e = .returned (.tuple #[.agg #[.slice A (pack p).length c, .int .i64 ((p.length : Nat) : Int)], (.agg #[.int .u64 (y.prev : Int), .int .i64 (y.lead : Int), .int .i64 (y.len : Int)])]) ∧ Own w w' (.slice A (pack p).length c) (pack p)

/-- the world behind valueBits' three boxes -/
def vworld (w : World) (s : KS) : World := ((w.alloc (.cells #[.int .i64 (s.n : Int), .int .i64 s.t, .int .i64 s.d, .int .u64 (s.v : Int), .int .u64 (s.e : Int), .int .u64 (s.x.prev : Int), .int .i64 (s.x.lead : Int), .int .i64 (s.x.len : Int)] 29)).alloc (.cells #[.slice none 0 0, .int .i64 0] 34)).alloc (.cells #[.int .u64 0, .int .i64 0, .int .i64 0] 27)
theorem vworld_below (w : World) (s : KS) : Below w.heap.size w (vworld w s) := by unfold vworld; exact by repeat (first | with_reducible exact Below.refl _ _ | assumption | with_reducible refine Below.drew ?_ | with_reducible refine Below.alloc ?_ (by (first | assumption | omega | (simp; done) | (simp; omega))) _)
theorem vworld_size (w : World) (s : KS) : (vworld w s).heap.size = w.heap.size + 3 := by unfold vworld; simp
theorem vworld_boxes (w : World) (s : KS) : BoxAt (vworld w s) (w.heap.size + 1) (.slice none 0 0) (.int .i64 0) ∧ Box3 (vworld w s) (w.heap.size + 1 + 1) (.int .u64 0) (.int .i64 0) (.int .i64 0) := by
  have h1 := (BoxAt.new (w.alloc (.cells #[.int .i64 (s.n : Int), .int .i64 s.t, .int .i64 s.d, .int .u64 (s.v : Int), .int .u64 (s.e : Int), .int .u64 (s.x.prev : Int), .int .i64 (s.x.lead : Int), .int .i64 (s.x.len : Int)] 29)) (.slice none 0 0) (.int .i64 0) 34).onA (.cells #[.int .u64 0, .int .i64 0, .int .i64 0] 27)
  have h2 := Box3.new ((w.alloc (.cells #[.int .i64 (s.n : Int), .int .i64 s.t, .int .i64 s.d, .int .u64 (s.v : Int), .int .u64 (s.e : Int), .int .u64 (s.x.prev : Int), .int .i64 (s.x.lead : Int), .int .i64 (s.x.len : Int)] 29)).alloc (.cells #[.slice none 0 0, .int .i64 0] 34)) (.int .u64 0) (.int .i64 0) (.int .i64 0) 27
  simp only [World.size_alloc] at h1 h2
  exact ⟨h1, h2⟩

/-- the end of valueBits: both boxes written behind a call that made bits -/
theorem v_end {w W w1 : World} {g : Nat} {p : List Bool} {A : Option Addr} {c : Nat} (hW : Below w.heap.size w W) (x1 : BoxAt W g (.slice none 0 0) (.int .i64 0)) (x2 : Box3 W (g + 1) (.int .u64 0) (.int .i64 0) (.int .i64 0)) (hg : w.heap.size ≤ g)
    (ho : Own W w1 (.slice A (pack p).length c) (pack p)) (M : Int) (y0 y1 y2 : Value) :
    Own w (((((w1.setCell ⟨g, 0, none⟩ (.slice A (pack p).length c)).setCell ⟨g, 1, none⟩ (.int .i64 M)).setCell ⟨g + 1, 0, none⟩ y0).setCell ⟨g + 1, 1, none⟩ y1).setCell ⟨g + 1, 2, none⟩ y2) (.slice A (pack p).length c) (pack p) ∧
    Two23 (((((w1.setCell ⟨g, 0, none⟩ (.slice A (pack p).length c)).setCell ⟨g, 1, none⟩ (.int .i64 M)).setCell ⟨g + 1, 0, none⟩ y0).setCell ⟨g + 1, 1, none⟩ y1).setCell ⟨g + 1, 2, none⟩ y2) g (g + 1) (.slice A (pack p).length c) (.int .i64 M) y0 y1 y2 := by
  have l1 := x1.lt
  have l2 := x2.lt
  refine ⟨?_, Two23.one (x1.below ho.bel) (x2.below ho.bel) (by omega) _ _ _ _ _⟩
  exact (((((Mid.of ho hW).set ⟨g, 0, none⟩ _ hg l1).set ⟨g, 1, none⟩ _ hg l1).set ⟨g + 1, 0, none⟩ _ (by simp only; omega) l2).set ⟨g + 1, 1, none⟩ _ (by simp only; omega) l2).set ⟨g + 1, 2, none⟩ _ (by simp only; omega) l2 |>.own

set_option maxRecDepth 20000 in
set_option maxHeartbeats 1000000 in
theorem valuebits_any (k : Nat) (s : KS) (v : Nat) (w : World) (hk : k = 1 ∨ k = 2) (hs : s.May) (hv : v ≤ 18446744073709551615) (hR : RoomW w) (hT : TzW w) :
    Calls Tryd.prog 20 #[.int .i64 (k : Int), (.agg #[.int .i64 (s.n : Int), .int .i64 s.t, .int .i64 s.d, .int .u64 (s.v : Int), .int .u64 (s.e : Int), .int .u64 (s.x.prev : Int), .int .i64 (s.x.lead : Int), .int .i64 (s.x.len : Int)]), .int .u64 (v : Int)] w (RetV w (valK k s v) (if s.n = 0 then zeroX else if k = 1 then nextX s.x v else zeroX)) := by
  have hW := vworld_below w s
  obtain ⟨x1, x2⟩ := vworld_boxes w s
  have hRW := hR.bel hW
  have hTW := hT.bel hW
  by_cases h0 : s.n = 0
  · have h1 : ((s.n : Int) == 0) = true := by simp [h0]
    have HP : Hid (valK k s v = low v 64) := Lib.hid (by unfold valK; rw [if_pos h0])
    have HL : Hid ((low v 64).length = 64) := Lib.hid (low_length _ _)
    have hC := fun w => word_any v w
    rw [if_pos h0, HP.out]
    generalize low v 64 = p at *
    clear h0
    go_enter Tryd.func20, Tryd.ntmps20
    go_wp2_with fail
    change Calls _ _ _ (vworld w s) _
    generalize vworld w s = W at *
    refine (hC _).mono ?_
    rintro e w1 ⟨A1, c1, rfl, hown⟩
    rw [HL.out]
    obtain ⟨_, a0, a1, af0, af1⟩ := x1.below hown.bel
    obtain ⟨_, b0, b1, b2, bf0, bf1, bf2⟩ := x2.below hown.bel
    have hE := fun M => v_end hW x1 x2 (by omega) hown M
    generalize w.heap.size + 1 = g at *
    go_wp2
    obtain ⟨h4, d0, d1, d2, d3, d4⟩ := hE 64 (.int .u64 0) (.int .i64 0) (.int .i64 0)
    refine bodyPost_ret (v := .tuple #[.agg #[.slice A1 (pack p).length c1, .int .i64 64], .agg #[.int .u64 0, .int .i64 0, .int .i64 0]]) ?_ rfl ⟨A1, c1, by rw [HL.out]; rfl, h4⟩
    simp [results, Tryd.results20, go_sem, d0, d1, d2, d3, d4]
  · have h1 : ((s.n : Int) == 0) = false := by simp [h0]
    rcases hk with rfl | rfl
    · have HP : Hid (valK 1 s v = codeX s.x v) := Lib.hid (by unfold valK; rw [if_neg h0]; rfl)
      have hC := fun w h => xcode_any s.x.prev s.x.lead s.x.len v w hs.x hv h
      unfold RetX at hC
      have hpv := nextX_prev s.x v
      rw [if_neg h0, HP.out, if_pos rfl]
      change ∀ X, TzW X → Calls _ _ _ X (fun e w' => ∃ A c, e = .returned (.tuple #[.agg #[.slice A (pack (codeX s.x v)).length c, .int .i64 (((codeX s.x v).length : Nat) : Int)], .agg #[.int .u64 (v : Int), .int .i64 ((nextX s.x v).lead : Int), .int .i64 ((nextX s.x v).len : Int)]]) ∧ Own X w' (.slice A (pack (codeX s.x v)).length c) (pack (codeX s.x v))) at hC
      generalize codeX s.x v = p at *
      generalize nextX s.x v = y at *
      obtain ⟨M, HM⟩ : ∃ M, Hid (p.length = M) := ⟨_, Lib.hid rfl⟩
      have HPV := Lib.hid hpv
      clear h0 hpv
      go_enter Tryd.func20, Tryd.ntmps20
      go_wp2_with fail
      change Calls _ _ _ (vworld w s) _
      generalize vworld w s = W at *
      refine (hC _ hTW).mono ?_
      rintro e w1 ⟨A1, c1, rfl, hown⟩
      rw [HM.out]
      obtain ⟨_, a0, a1, af0, af1⟩ := x1.below hown.bel
      obtain ⟨_, b0, b1, b2, bf0, bf1, bf2⟩ := x2.below hown.bel
      have hE := fun M => v_end hW x1 x2 (by omega) hown M
      generalize w.heap.size + 1 = g at *
      go_wp2
      obtain ⟨h4, d0, d1, d2, d3, d4⟩ := hE (M : Int) (.int .u64 (v : Int)) (.int .i64 (y.lead : Int)) (.int .i64 (y.len : Int))
      refine bodyPost_ret (v := .tuple #[.agg #[.slice A1 (pack p).length c1, .int .i64 (M : Int)], .agg #[.int .u64 (v : Int), .int .i64 (y.lead : Int), .int .i64 (y.len : Int)]]) ?_ rfl ⟨A1, c1, by rw [HM.out, HPV.out], h4⟩
      simp [results, Tryd.results20, go_sem, d0, d1, d2, d3, d4]
    · have HP : Hid (valK 2 s v = codeD (stepE s v)) := Lib.hid (by unfold valK; rw [if_neg h0]; rfl)
      have hS := stepE_wrap s v
      have hC := fun w h => dcode_any (stepE s v) w (stepE_in s v) h
      rw [if_neg h0, HP.out, if_neg (by omega)]
      generalize stepE s v = st at *
      generalize codeD st = p at *
      obtain ⟨M, HM⟩ : ∃ M, Hid (p.length = M) := ⟨_, Lib.hid rfl⟩
      clear h0
      go_enter Tryd.func20, Tryd.ntmps20
      go_wp2_with fail
      change Calls _ _ _ (vworld w s) _
      generalize vworld w s = W at *
      refine (hC _ hRW).mono ?_
      rintro e w1 ⟨A1, c1, rfl, hown⟩
      rw [HM.out]
      obtain ⟨_, a0, a1, af0, af1⟩ := x1.below hown.bel
      obtain ⟨_, b0, b1, b2, bf0, bf1, bf2⟩ := x2.below hown.bel
      have hE := fun M => v_end hW x1 x2 (by omega) hown M
      generalize w.heap.size + 1 = g at *
      go_wp2
      obtain ⟨h4, d0, d1, d2, d3, d4⟩ := hE (M : Int) (.int .u64 0) (.int .i64 0) (.int .i64 0)
      refine bodyPost_ret (v := .tuple #[.agg #[.slice A1 (pack p).length c1, .int .i64 (M : Int)], .agg #[.int .u64 0, .int .i64 0, .int .i64 0]]) ?_ rfl ⟨A1, c1, by rw [HM.out]; rfl, h4⟩
      simp [results, Tryd.results20, go_sem, d0, d1, d2, d3, d4]

end Go.Proofs.YtcnhoohcdkfgkaaDoor

/-
  The contract of layer 8's Put: a sample's bits and the state behind it, or what is amiss.
-/
namespace Go.Proofs.YtcnhoohcdkfgkaaDoor
open Go.RowKit

/-- what Put comes to -/
def RetPut (w : World) (p : List Bool) (s : KS) (e : Ending) (w' : World) : Prop :=
  ∃ A c, e = .returned (.tuple #[.agg #[.slice A (pack p).length c, .int .i64 ((p.length : Nat) : Int)], (.agg #[.int .i64 (s.n : Int), .int .i64 s.t, .int .i64 s.d, .int .u64 (s.v : Int), .int .u64 (s.e : Int), .int .u64 (s.x.prev : Int), .int .i64 (s.x.lead : Int), .int .i64 (s.x.len : Int)]), .nilIface]) ∧ Own w w' (.slice A (pack p).length c) (pack p)

/-- the world behind Put's four boxes -/
def pworld (w : World) (s : KS) (t : Int) (v : Nat) : World := (((w.alloc (.cells #[.int .i64 (s.n : Int), .int .i64 s.t, .int .i64 s.d, .int .u64 (s.v : Int), .int .u64 (s.e : Int), .int .u64 (s.x.prev : Int), .int .i64 (s.x.lead : Int), .int .i64 (s.x.len : Int)] 29)).alloc (.cells #[.int .i64 t, .int .u64 (v : Int)] 40)).alloc (.cells #[.slice none 0 0, .int .i64 0] 34)).alloc (.cells #[.int .i64 0, .int .i64 0, .int .i64 0, .int .u64 0, .int .u64 0, .int .u64 0, .int .i64 0, .int .i64 0] 29)
/-- what lies in them -/
structure PW (w W : World) (s : KS) (t : Int) (v : Nat) : Prop where
  bel : Below w.heap.size w W
  b4 : BoxL W w.heap.size [.int .i64 (s.n : Int), .int .i64 s.t, .int .i64 s.d, .int .u64 (s.v : Int), .int .u64 (s.e : Int), .int .u64 (s.x.prev : Int), .int .i64 (s.x.lead : Int), .int .i64 (s.x.len : Int)]
  b5 : BoxL W (w.heap.size + 1) [.int .i64 t, .int .u64 (v : Int)]
  b6 : BoxL W (w.heap.size + 1 + 1) [.slice none 0 0, .int .i64 0]
  b7 : BoxL W (w.heap.size + 1 + 1 + 1) [.int .i64 0, .int .i64 0, .int .i64 0, .int .u64 0, .int .u64 0, .int .u64 0, .int .i64 0, .int .i64 0]
theorem pworld_is (w : World) (s : KS) (t : Int) (v : Nat) : PW w (pworld w s t v) s t v := by
  have h4 := ((BoxL.new w [.int .i64 (s.n : Int), .int .i64 s.t, .int .i64 s.d, .int .u64 (s.v : Int), .int .u64 (s.e : Int), .int .u64 (s.x.prev : Int), .int .i64 (s.x.lead : Int), .int .i64 (s.x.len : Int)] 29).onA (.cells #[.int .i64 t, .int .u64 (v : Int)] 40)).onA (.cells #[.slice none 0 0, .int .i64 0] 34) |>.onA (.cells #[.int .i64 0, .int .i64 0, .int .i64 0, .int .u64 0, .int .u64 0, .int .u64 0, .int .i64 0, .int .i64 0] 29)
  have h5 := ((BoxL.new (w.alloc (.cells #[.int .i64 (s.n : Int), .int .i64 s.t, .int .i64 s.d, .int .u64 (s.v : Int), .int .u64 (s.e : Int), .int .u64 (s.x.prev : Int), .int .i64 (s.x.lead : Int), .int .i64 (s.x.len : Int)] 29)) [.int .i64 t, .int .u64 (v : Int)] 40)).onA (.cells #[.slice none 0 0, .int .i64 0] 34) |>.onA (.cells #[.int .i64 0, .int .i64 0, .int .i64 0, .int .u64 0, .int .u64 0, .int .u64 0, .int .i64 0, .int .i64 0] 29)
  have h6 := (BoxL.new ((w.alloc (.cells #[.int .i64 (s.n : Int), .int .i64 s.t, .int .i64 s.d, .int .u64 (s.v : Int), .int .u64 (s.e : Int), .int .u64 (s.x.prev : Int), .int .i64 (s.x.lead : Int), .int .i64 (s.x.len : Int)] 29)).alloc (.cells #[.int .i64 t, .int .u64 (v : Int)] 40)) [.slice none 0 0, .int .i64 0] 34).onA (.cells #[.int .i64 0, .int .i64 0, .int .i64 0, .int .u64 0, .int .u64 0, .int .u64 0, .int .i64 0, .int .i64 0] 29)
  have h7 := BoxL.new (((w.alloc (.cells #[.int .i64 (s.n : Int), .int .i64 s.t, .int .i64 s.d, .int .u64 (s.v : Int), .int .u64 (s.e : Int), .int .u64 (s.x.prev : Int), .int .i64 (s.x.lead : Int), .int .i64 (s.x.len : Int)] 29)).alloc (.cells #[.int .i64 t, .int .u64 (v : Int)] 40)).alloc (.cells #[.slice none 0 0, .int .i64 0] 34)) [.int .i64 0, .int .i64 0, .int .i64 0, .int .u64 0, .int .u64 0, .int .u64 0, .int .i64 0, .int .i64 0] 29
  simp only [World.size_alloc] at h5 h6 h7
  unfold pworld
  exact ⟨by repeat (first | with_reducible exact Below.refl _ _ | assumption | with_reducible refine Below.drew ?_ | with_reducible refine Below.alloc ?_ (by (first | assumption | omega | (simp; done) | (simp; omega))) _), h4, h5, h6, h7⟩
theorem PW.below {w W W' : World} {s : KS} {t : Int} {v : Nat} (h : PW w W s t v) (hb : Below W.heap.size W W') : PW w W' s t v :=
  ⟨h.bel.trans (hb.mono h.bel.size), h.b4.below hb, h.b5.below hb, h.b6.below hb, h.b7.below hb⟩

/-- the boxes ahead of Put's last region, and behind each of its steps -/
structure PX (w X : World) (s : KS) (t : Int) (v g9 : Nat) (l9 l10 l6 l7 : List Value) : Prop where
  bel : Below w.heap.size w X
  b4 : BoxL X w.heap.size [.int .i64 (s.n : Int), .int .i64 s.t, .int .i64 s.d, .int .u64 (s.v : Int), .int .u64 (s.e : Int), .int .u64 (s.x.prev : Int), .int .i64 (s.x.lead : Int), .int .i64 (s.x.len : Int)]
  b5 : BoxL X (w.heap.size + 1) [.int .i64 t, .int .u64 (v : Int)]
  b6 : BoxL X (w.heap.size + 1 + 1) l6
  b7 : BoxL X (w.heap.size + 1 + 1 + 1) l7
  b9 : BoxL X g9 l9
  b10 : BoxL X (g9 + 1) l10
  hg : w.heap.size + 1 + 1 + 1 < g9
section
variable {w X X' : World} {s : KS} {t : Int} {v g9 : Nat} {l9 l10 l6 l7 : List Value}
theorem PX.below (h : PX w X s t v g9 l9 l10 l6 l7) (hb : Below X.heap.size X X') : PX w X' s t v g9 l9 l10 l6 l7 :=
  ⟨h.bel.trans (hb.mono h.bel.size), h.b4.below hb, h.b5.below hb, h.b6.below hb, h.b7.below hb, h.b9.below hb, h.b10.below hb, h.hg⟩
theorem PX.drew (h : PX w X s t v g9 l9 l10 l6 l7) : PX w X.drew s t v g9 l9 l10 l6 l7 :=
  ⟨h.bel.drew, h.b4.drew, h.b5.drew, h.b6.drew, h.b7.drew, h.b9.drew, h.b10.drew, h.hg⟩
theorem PX.set6 {x0 x1 : Value} (h : PX w X s t v g9 l9 l10 [x0, x1] l7) (u0 u1 : Value) : PX w ((X.setCell ⟨w.heap.size + 1 + 1, 0, none⟩ (u0)).setCell ⟨w.heap.size + 1 + 1, 1, none⟩ (u1)) s t v g9 l9 l10 [u0, u1] l7 :=
  have := h.hg
  ⟨below_set2 h.bel (by omega) _ _, h.b4.oth2 (by omega) _ _, h.b5.oth2 (by omega) _ _, h.b6.all2 _ _, h.b7.oth2 (by omega) _ _, h.b9.oth2 (by omega) _ _, h.b10.oth2 (by omega) _ _, h.hg⟩
theorem PX.set7 {x0 x1 x2 x3 x4 x5 x6 x7 : Value} (h : PX w X s t v g9 l9 l10 l6 [x0, x1, x2, x3, x4, x5, x6, x7]) (u0 u1 u2 u3 u4 u5 u6 u7 : Value) : PX w ((((((((X.setCell ⟨w.heap.size + 1 + 1 + 1, 0, none⟩ (u0)).setCell ⟨w.heap.size + 1 + 1 + 1, 1, none⟩ (u1)).setCell ⟨w.heap.size + 1 + 1 + 1, 2, none⟩ (u2)).setCell ⟨w.heap.size + 1 + 1 + 1, 3, none⟩ (u3)).setCell ⟨w.heap.size + 1 + 1 + 1, 4, none⟩ (u4)).setCell ⟨w.heap.size + 1 + 1 + 1, 5, none⟩ (u5)).setCell ⟨w.heap.size + 1 + 1 + 1, 6, none⟩ (u6)).setCell ⟨w.heap.size + 1 + 1 + 1, 7, none⟩ (u7)) s t v g9 l9 l10 l6 [u0, u1, u2, u3, u4, u5, u6, u7] :=
  have := h.hg
  ⟨below_set8 h.bel (by omega) _ _ _ _ _ _ _ _, h.b4.oth8 (by omega) _ _ _ _ _ _ _ _, h.b5.oth8 (by omega) _ _ _ _ _ _ _ _, h.b6.oth8 (by omega) _ _ _ _ _ _ _ _, h.b7.all8 _ _ _ _ _ _ _ _, h.b9.oth8 (by omega) _ _ _ _ _ _ _ _, h.b10.oth8 (by omega) _ _ _ _ _ _ _ _, h.hg⟩
theorem PX.cells {a b c d e : Value} (h : PX w X s t v g9 [a, b] [c, d, e] l6 l7) :
    (X.cell? ⟨w.heap.size, 0, none⟩ = some (.int .i64 (s.n : Int)) ∧ X.cell? ⟨w.heap.size, 1, none⟩ = some (.int .i64 s.t) ∧ X.cell? ⟨w.heap.size, 2, none⟩ = some (.int .i64 s.d) ∧ X.cell? ⟨w.heap.size, 3, none⟩ = some (.int .u64 (s.v : Int)) ∧ X.cell? ⟨w.heap.size, 4, none⟩ = some (.int .u64 (s.e : Int)) ∧ X.cell? ⟨w.heap.size, 5, none⟩ = some (.int .u64 (s.x.prev : Int)) ∧ X.cell? ⟨w.heap.size, 6, none⟩ = some (.int .i64 (s.x.lead : Int)) ∧ X.cell? ⟨w.heap.size, 7, none⟩ = some (.int .i64 (s.x.len : Int))) ∧ (X.cell? ⟨w.heap.size + 1, 0, none⟩ = some (.int .i64 t) ∧ X.cell? ⟨w.heap.size + 1, 1, none⟩ = some (.int .u64 (v : Int))) ∧ (X.cell? ⟨g9, 0, none⟩ = some (a) ∧ X.cell? ⟨g9, 1, none⟩ = some (b)) ∧ (X.cell? ⟨g9 + 1, 0, none⟩ = some (c) ∧ X.cell? ⟨g9 + 1, 1, none⟩ = some (d) ∧ X.cell? ⟨g9 + 1, 2, none⟩ = some (e)) :=
  ⟨h.b4.get8, h.b5.get2, h.b9.get2, h.b10.get3⟩
end
set_option maxRecDepth 20000 in
set_option maxHeartbeats 1000000 in
theorem put_kind (z : Int) (s : KS) (t : Int) (v : Nat) (w : World) (h1 : (z == 1) = false) (h2 : (z == 2) = false) :
    Calls Tryd.prog 6 #[.int .i64 z, (.agg #[.int .i64 (s.n : Int), .int .i64 s.t, .int .i64 s.d, .int .u64 (s.v : Int), .int .u64 (s.e : Int), .int .u64 (s.x.prev : Int), .int .i64 (s.x.lead : Int), .int .i64 (s.x.len : Int)]), (.agg #[.int .i64 t, .int .u64 (v : Int)])] w fun e w' => e = .returned (.tuple #[.agg #[.slice none 0 0, .int .i64 0], (.agg #[.int .i64 0, .int .i64 0, .int .i64 0, .int .u64 0, .int .u64 0, .int .u64 0, .int .i64 0, .int .i64 0]), .iface 58 (.int .i64 6)]) ∧ Below w.heap.size w w' := by
  go_enter Tryd.func6, Tryd.ntmps6
  go_wp2_with fail
  refine (known_no z _ h1 h2).mono ?_
  rintro e w1 ⟨rfl, rfl⟩
  go_wp2
  go_returns
  exact ⟨rfl, by repeat (first | with_reducible exact Below.refl _ _ | assumption | with_reducible refine Below.drew ?_ | with_reducible refine Below.alloc ?_ (by (first | assumption | omega | (simp; done) | (simp; omega))) _)⟩

set_option maxRecDepth 20000 in
set_option maxHeartbeats 2000000 in
theorem put_order (k : Nat) (s : KS) (t : Int) (v : Nat) (w : World) (hk : k = 1 ∨ k = 2) (hr : risesK s t = false) :
    Calls Tryd.prog 6 #[.int .i64 (k : Int), (.agg #[.int .i64 (s.n : Int), .int .i64 s.t, .int .i64 s.d, .int .u64 (s.v : Int), .int .u64 (s.e : Int), .int .u64 (s.x.prev : Int), .int .i64 (s.x.lead : Int), .int .i64 (s.x.len : Int)]), (.agg #[.int .i64 t, .int .u64 (v : Int)])] w fun e w' => e = .returned (.tuple #[.agg #[.slice none 0 0, .int .i64 0], (.agg #[.int .i64 0, .int .i64 0, .int .i64 0, .int .u64 0, .int .u64 0, .int .u64 0, .int .i64 0, .int .i64 0]), .iface 58 (.int .i64 4)]) ∧ Below w.heap.size w w' := by
  have hP := pworld_is w s t v
  have hRS := fun w => rises_any s t v w
  rw [hr] at hRS
  go_enter Tryd.func6, Tryd.ntmps6
  go_wp2_with fail
  change Calls _ _ _ (pworld w s t v) _
  generalize pworld w s t v = W at *
  refine (known_yes k _ hk).mono ?_
  rintro e w1 ⟨rfl, rfl⟩
  obtain ⟨hb, b4, b5, b6, b7⟩ := hP
  have hP := PW.mk hb b4 b5 b6 b7
  obtain ⟨a0, a1, a2, a3, a4, a5, a6, a7⟩ := b4.get8
  obtain ⟨d0, d1⟩ := b5.get2
  go_wp2_with fail
  refine (hRS _).mono ?_
  rintro e w2 ⟨rfl, hb2⟩
  obtain ⟨hb, b4, b5, b6, b7⟩ := hP.below hb2
  clear hP a0 a1 a2 a3 a4 a5 a6 a7 d0 d1 hb2
  obtain ⟨a0, a1⟩ := b6.get2
  obtain ⟨af0, af1⟩ := b6.free2
  obtain ⟨d0, d1, d2, d3, d4, d5, d6, d7⟩ := b7.get8
  obtain ⟨df0, df1, df2, df3, df4, df5, df6, df7⟩ := b7.free8
  have hg6 : w.heap.size ≤ w.heap.size + 1 + 1 := by omega
  have hg7 : w.heap.size ≤ w.heap.size + 1 + 1 + 1 := by omega
  have hne : w.heap.size + 1 + 1 ≠ w.heap.size + 1 + 1 + 1 := by omega
  generalize w.heap.size + 1 + 1 + 1 = g7 at *
  generalize w.heap.size + 1 + 1 = g6 at *
  go_wp2
  have hbs := below_set8 (below_set2 hb hg6 (.slice none 0 0) (.int .i64 0)) hg7 (.int .i64 0) (.int .i64 0) (.int .i64 0) (.int .u64 0) (.int .u64 0) (.int .u64 0) (.int .i64 0) (.int .i64 0)
  have y6 := (b6.all2 (.slice none 0 0) (.int .i64 0)).oth8 hne (.int .i64 0) (.int .i64 0) (.int .i64 0) (.int .u64 0) (.int .u64 0) (.int .u64 0) (.int .i64 0) (.int .i64 0)
  have y7 := (b7.oth2 (Ne.symm hne) (.slice none 0 0) (.int .i64 0)).all8 (.int .i64 0) (.int .i64 0) (.int .i64 0) (.int .u64 0) (.int .u64 0) (.int .u64 0) (.int .i64 0) (.int .i64 0)
  clear a0 a1 af0 af1 d0 d1 d2 d3 d4 d5 d6 d7 df0 df1 df2 df3 df4 df5 df6 df7 b4 b5 b6 b7 hRS
  generalize ((((((((((w2.setCell ⟨g6, 0, none⟩ (.slice none 0 0)).setCell ⟨g6, 1, none⟩ (.int .i64 0)).setCell ⟨g7, 0, none⟩ (.int .i64 0)).setCell ⟨g7, 1, none⟩ (.int .i64 0)).setCell ⟨g7, 2, none⟩ (.int .i64 0)).setCell ⟨g7, 3, none⟩ (.int .u64 0)).setCell ⟨g7, 4, none⟩ (.int .u64 0)).setCell ⟨g7, 5, none⟩ (.int .u64 0)).setCell ⟨g7, 6, none⟩ (.int .i64 0)).setCell ⟨g7, 7, none⟩ (.int .i64 0)) = X at *
  obtain ⟨a0, a1⟩ := y6.get2
  obtain ⟨d0, d1, d2, d3, d4, d5, d6, d7⟩ := y7.get8
  refine bodyPost_ret (v := .tuple #[.agg #[.slice none 0 0, .int .i64 0], (.agg #[.int .i64 0, .int .i64 0, .int .i64 0, .int .u64 0, .int .u64 0, .int .u64 0, .int .i64 0, .int .i64 0]), .iface 58 (.int .i64 4)]) ?_ rfl ⟨rfl, hbs⟩
  simp [results, Tryd.results6, go_sem, a0, a1, d0, d1, d2, d3, d4, d5, d6, d7]

set_option maxRecDepth 20000 in
set_option maxHeartbeats 4000000 in
theorem put_yes8 (k : Nat) (s : KS) (t : Int) (v : Nat) (w : World) (hk : k = 1 ∨ k = 2) (hs : s.May) (hn : s.n ≤ 1000000) (hv : v ≤ 18446744073709551615) (hr : risesK s t = true) (hR : RoomW w) (hT : TzW w) :
    Calls Tryd.prog 6 #[.int .i64 (k : Int), (.agg #[.int .i64 (s.n : Int), .int .i64 s.t, .int .i64 s.d, .int .u64 (s.v : Int), .int .u64 (s.e : Int), .int .u64 (s.x.prev : Int), .int .i64 (s.x.lead : Int), .int .i64 (s.x.len : Int)]), (.agg #[.int .i64 t, .int .u64 (v : Int)])] w (RetPut w (putK k s t v) (nextK k s t v)) := by
  have hP := pworld_is w s t v
  have hRS := fun w => rises_any s t v w
  rw [hr] at hRS
  have hVB := fun w hR hT => valuebits_any k s v w hk hs hv hR hT
  have hTB := fun w hR => timebits_any s t w hR
  have hAF := fun y w => after_any k s t v y w hk hn
  have hlt := timeK_len s t
  have hlv := valK_len (k := k) hs hv
  have HQ : Hid (putK k s t v = timeK s t ++ valK k s v) := Lib.hid rfl
  have HN : Hid (afterK k s t v (if s.n = 0 then zeroX else if k = 1 then nextX s.x v else zeroX) = nextK k s t v) := Lib.hid (by
    unfold nextK afterK
    by_cases h0 : s.n = 0
    · rw [if_pos h0, if_pos h0]
    · rw [if_neg h0, if_neg h0, if_neg h0]
      by_cases h1 : k = 1
      · rw [if_pos h1, if_pos h1, if_pos h1]
      · rw [if_neg h1, if_neg h1, if_neg h1])
  generalize putK k s t v = q at *
  generalize nextK k s t v = s' at *
  generalize timeK s t = pt at *
  generalize valK k s v = pv at *
  generalize (if s.n = 0 then zeroX else if k = 1 then nextX s.x v else zeroX) = y at *
  replace hAF := hAF y
  rw [HN.out] at hAF
  unfold RetV at hVB
  obtain ⟨N, HNN⟩ : ∃ N, Hid (q.length = N) := ⟨_, Lib.hid rfl⟩
  obtain ⟨Lv, HLV⟩ : ∃ N, Hid (pv.length = N) := ⟨_, Lib.hid rfl⟩
  obtain ⟨Lt, HLT⟩ : ∃ N, Hid (pt.length = N) := ⟨_, Lib.hid rfl⟩
  rw [HLV.out] at hVB hlv
  rw [HLT.out] at hlt
  clear HN hs
  go_enter Tryd.func6, Tryd.ntmps6
  go_wp2_with fail
  change Calls _ _ _ (pworld w s t v) _
  generalize pworld w s t v = W at *
  refine (known_yes k _ hk).mono ?_
  rintro e w1 ⟨rfl, rfl⟩
  obtain ⟨hb, b4, b5, b6, b7⟩ := hP
  have hP := PW.mk hb b4 b5 b6 b7
  obtain ⟨a0, a1, a2, a3, a4, a5, a6, a7⟩ := b4.get8
  obtain ⟨d0, d1⟩ := b5.get2
  go_wp2_with fail
  refine (hRS _).mono ?_
  rintro e w2 ⟨rfl, hb2⟩
  replace hP := hP.below hb2
  clear a0 a1 a2 a3 a4 a5 a6 a7 d0 d1 hb2 hb b4 b5 b6 b7 hRS
  obtain ⟨hb, b4, b5, b6, b7⟩ := hP
  have hP := PW.mk hb b4 b5 b6 b7
  obtain ⟨a0, a1, a2, a3, a4, a5, a6, a7⟩ := b4.get8
  obtain ⟨d0, d1⟩ := b5.get2
  go_wp2_with fail
  refine (hVB _ (hR.bel hb) (hT.bel hb)).mono ?_
  rintro e w3 ⟨A3, c3, rfl, ho3⟩
  go_upto_region 6 with fail
  have b9 := (BoxL.new w3 [.slice A3 (pack pv).length c3, .int .i64 (Lv : Int)] 34).onA (.cells #[.int .u64 (y.prev : Int), .int .i64 (y.lead : Int), .int .i64 (y.len : Int)] 27)
  have b10 := BoxL.new (w3.alloc (.cells #[.slice A3 (pack pv).length c3, .int .i64 (Lv : Int)] 34)) [.int .u64 (y.prev : Int), .int .i64 (y.lead : Int), .int .i64 (y.len : Int)] 27
  simp only [World.size_alloc] at b10
  have hal : Below w3.heap.size w3 ((w3.alloc (.cells #[.slice A3 (pack pv).length c3, .int .i64 (Lv : Int)] 34)).alloc (.cells #[.int .u64 (y.prev : Int), .int .i64 (y.lead : Int), .int .i64 (y.len : Int)] 27)) := by repeat (first | with_reducible exact Below.refl _ _ | assumption | with_reducible refine Below.drew ?_ | with_reducible refine Below.alloc ?_ (by (first | assumption | omega | (simp; done) | (simp; omega))) _)
  have hr3 := (ho3.rd.below hal).more hal.size
  have hw3 := ho3.bel.trans (hal.mono ho3.bel.size)
  have hg9 := (hP.below ho3.bel).b7.lt
  replace hP := hP.below hw3
  clear a0 a1 a2 a3 a4 a5 a6 a7 d0 d1 hb b4 b5 b6 b7 hVB ho3 hw3 hal
  generalize (w3.alloc (.cells #[.slice A3 (pack pv).length c3, .int .i64 (Lv : Int)] 34)).alloc (.cells #[.int .u64 (y.prev : Int), .int .i64 (y.lead : Int), .int .i64 (y.len : Int)] 27) = W3 at *
  generalize w3.heap.size = g9 at *
  have px := (PX.mk hP.bel hP.b4 hP.b5 hP.b6 hP.b7 b9 b10 hg9).drew
  clear b9 b10
  have l7 := hP.b7.lt
  have hRX := hR.bel px.bel
  replace hr3 := hr3.drew
  unfold RetBits at hTB
  rw [HLT.out] at hTB
  go_cut [8] (fun x8 wx => x8 = .nilIface ∧ ∃ A c, BoxL wx (w.heap.size + 1 + 1) [.slice A (pack q).length c, .int .i64 (N : Int)] ∧ BoxL wx (w.heap.size + 1 + 1 + 1) [.int .i64 (s'.n : Int), .int .i64 s'.t, .int .i64 s'.d, .int .u64 (s'.v : Int), .int .u64 (s'.e : Int), .int .u64 (s'.x.prev : Int), .int .i64 (s'.x.lead : Int), .int .i64 (s'.x.len : Int)] ∧ Own w wx (.slice A (pack q).length c) (pack q))
  case first =>
    have q0 := px.cells
    go_region_held3 (fun w' => (w'.cell? ⟨w.heap.size, 0, none⟩ = some (.int .i64 (s.n : Int)) ∧ w'.cell? ⟨w.heap.size, 1, none⟩ = some (.int .i64 s.t) ∧ w'.cell? ⟨w.heap.size, 2, none⟩ = some (.int .i64 s.d) ∧ w'.cell? ⟨w.heap.size, 3, none⟩ = some (.int .u64 (s.v : Int)) ∧ w'.cell? ⟨w.heap.size, 4, none⟩ = some (.int .u64 (s.e : Int)) ∧ w'.cell? ⟨w.heap.size, 5, none⟩ = some (.int .u64 (s.x.prev : Int)) ∧ w'.cell? ⟨w.heap.size, 6, none⟩ = some (.int .i64 (s.x.lead : Int)) ∧ w'.cell? ⟨w.heap.size, 7, none⟩ = some (.int .i64 (s.x.len : Int))) ∧ (w'.cell? ⟨w.heap.size + 1, 0, none⟩ = some (.int .i64 t) ∧ w'.cell? ⟨w.heap.size + 1, 1, none⟩ = some (.int .u64 (v : Int))) ∧ (w'.cell? ⟨g9, 0, none⟩ = some (.slice A3 (pack pv).length c3) ∧ w'.cell? ⟨g9, 1, none⟩ = some (.int .i64 (Lv : Int))) ∧ (w'.cell? ⟨g9 + 1, 0, none⟩ = some (.int .u64 (y.prev : Int)) ∧ w'.cell? ⟨g9 + 1, 1, none⟩ = some (.int .i64 (y.lead : Int)) ∧ w'.cell? ⟨g9 + 1, 2, none⟩ = some (.int .i64 (y.len : Int))))
      (with_reducible first | exact px.cells | exact (px.set6 _ _).cells | exact (px.set7 _ _ _ _ _ _ _ _).cells | exact ((px.set6 _ _).set7 _ _ _ _ _ _ _ _).cells | exact ((px.set7 _ _ _ _ _ _ _ _).set6 _ _).cells) (first
      | (go_at_call 21; (with_reducible refine (hTB _ hRX).mono ?_); rintro e w5 ⟨A5, c5, rfl, ho5⟩; replace px := px.below ho5.bel; replace hr3 := (hr3.below ho5.bel).more ho5.bel.size; have hr5 := ho5.rd; clear ho5)
      | (go_at_call 17; (with_reducible refine (join_as _ _ _ _ _ _ pt pv q _ _ N _ hr5 hr3 (by rw [HLT.out]) (by rw [HLV.out]) HQ.out HNN.out (by rw [HLT.out]; omega) (by rw [HLV.out]; omega)).mono ?_); rintro e w6 ⟨A6, c6, rfl, ho6⟩; have hm := Mid.of ho6 px.bel; have hB7 := px.b7.lt; replace px := px.below ho6.bel; clear ho6 hr5 hr3; (try clear u60 u61 v60 v61 u70 u71 u72 u73 u74 u75 u76 u77 v70 v71 v72 v73 v74 v75 v76 v77); obtain ⟨u60, u61⟩ := px.b6.get2; obtain ⟨v60, v61⟩ := px.b6.free2; obtain ⟨u70, u71, u72, u73, u74, u75, u76, u77⟩ := px.b7.get8; obtain ⟨v70, v71, v72, v73, v74, v75, v76, v77⟩ := px.b7.free8)
      | (go_at_call 11; (with_reducible refine (hAF _).mono ?_); rintro e w7 ⟨rfl, HB⟩; (with_reducible first | (replace px := px.below HB; replace hm := hm.on HB) | (replace px := (px.set6 _ _).below HB; replace hm := (hm.set2 (by omega) (by omega) _ _).on HB)); clear HB; (try clear u60 u61 v60 v61 u70 u71 u72 u73 u74 u75 u76 u77 v70 v71 v72 v73 v74 v75 v76 v77); obtain ⟨u60, u61⟩ := px.b6.get2; obtain ⟨v60, v61⟩ := px.b6.free2; obtain ⟨u70, u71, u72, u73, u74, u75, u76, u77⟩ := px.b7.get8; obtain ⟨v70, v71, v72, v73, v74, v75, v76, v77⟩ := px.b7.free8))
    all_goals
      clear q0 u60 u61 v60 v61 u70 u71 u72 u73 u74 u75 u76 u77 v70 v71 v72 v73 v74 v75 v76 v77 hTB hAF
      go_wp2_with fail
      go_meet
      with_reducible first
        | exact ⟨rfl, A6, c6, (px.set7 _ _ _ _ _ _ _ _).b6, (px.set7 _ _ _ _ _ _ _ _).b7, (hm.set8 (by omega) (by omega) _ _ _ _ _ _ _ _).own⟩
        | exact ⟨rfl, A6, c6, ((px.set6 _ _).set7 _ _ _ _ _ _ _ _).b6, ((px.set6 _ _).set7 _ _ _ _ _ _ _ _).b7, ((hm.set2 (by omega) (by omega) _ _).set8 (by omega) (by omega) _ _ _ _ _ _ _ _).own⟩
        | exact ⟨rfl, A6, c6, ((px.set7 _ _ _ _ _ _ _ _).set6 _ _).b6, ((px.set7 _ _ _ _ _ _ _ _).set6 _ _).b7, ((hm.set8 (by omega) (by omega) _ _ _ _ _ _ _ _).set2 (by omega) (by omega) _ _).own⟩
  case rest =>
    obtain ⟨rfl, A6, c6, b6, b7, ho⟩ := hcut
    obtain ⟨a0, a1⟩ := b6.get2
    obtain ⟨d0, d1, d2, d3, d4, d5, d6, d7⟩ := b7.get8
    go_wp2
    refine bodyPost_ret (v := .tuple #[.agg #[.slice A6 (pack q).length c6, .int .i64 (N : Int)], (.agg #[.int .i64 (s'.n : Int), .int .i64 s'.t, .int .i64 s'.d, .int .u64 (s'.v : Int), .int .u64 (s'.e : Int), .int .u64 (s'.x.prev : Int), .int .i64 (s'.x.lead : Int), .int .i64 (s'.x.len : Int)]), .nilIface]) ?_ rfl ⟨A6, c6, by rw [HNN.out], ho⟩
    simp [results, Tryd.results6, go_sem, a0, a1, d0, d1, d2, d3, d4, d5, d6, d7]

end Go.Proofs.YtcnhoohcdkfgkaaDoor

/-
  The contracts of layer 8's getTime and getValue.
-/
namespace Go.Proofs.YtcnhoohcdkfgkaaDoor
open Go.RowKit

theorem sumT_wrap (a b c : Int) : wrap64 (wrap64 (a + b) + c) = w64 (a + b + c) := by
  rw [w64_wrap, w64_wrap]
  unfold w64
  omega
theorem sumE_wrap (a b : Nat) (c : Int) : IntKind.u64.wrap (IntKind.u64.wrap ((a : Int) + (b : Int)) + IntKind.u64.wrap c) = ((un64 ((a : Int) + (b : Int) + c) : Nat) : Int) := by
  rw [u64_mod, u64_mod, u64_mod, un64_cast]
  omega
theorem errV_zero : errV 0 = .nilIface := rfl
theorem errV_some {e : Nat} (h : e ≠ 0) : errV e = .iface 58 (.int .i64 (e : Int)) := by unfold errV; rw [if_neg h]

set_option maxRecDepth 20000 in
set_option maxHeartbeats 1000000 in
theorem gettime_first (A : Option Addr) (m c B : Nat) (bs : List Nat) (a : Int) (s : KS) (w : World) (h : Rd w B A m c bs) (hB : B ≤ w.heap.size) (hb : ∀ x ∈ bs, x < 256) (hm : m ≤ 100000)
    (ha : -9223372036854775808 ≤ a ∧ a ≤ 9223372036854775807) (h0 : s.n = 0) :
    Calls Tryd.prog 30 #[(.agg #[.int .i64 (s.n : Int), .int .i64 s.t, .int .i64 s.d, .int .u64 (s.v : Int), .int .u64 (s.e : Int), .int .u64 (s.x.prev : Int), .int .i64 (s.x.lead : Int), .int .i64 (s.x.len : Int)]), .slice A m c, .int .i64 a] w fun e w' =>
      ((64 ≤ (restL bs a).length ∧ e = .returned (.tuple #[.int .i64 (sgnN (num (cut (restL bs a) 0 64)) 64), .int .i64 64, .nilIface])) ∨
      ((restL bs a).length < 64 ∧ e = .returned (.tuple #[.int .i64 0, .int .i64 0, .iface 58 (.int .i64 2)]))) ∧ Below w.heap.size w w' := by
  have h1 : ((s.n : Int) == 0) = true := by simp [h0]
  clear h0
  have hb0 : Below w.heap.size w (w.alloc (.cells #[.int .i64 (s.n : Int), .int .i64 s.t, .int .i64 s.d, .int .u64 (s.v : Int), .int .u64 (s.e : Int), .int .u64 (s.x.prev : Int), .int .i64 (s.x.lead : Int), .int .i64 (s.x.len : Int)] 29)) := by repeat (first | with_reducible exact Below.refl _ _ | assumption | with_reducible refine Below.drew ?_ | with_reducible refine Below.alloc ?_ (by (first | assumption | omega | (simp; done) | (simp; omega))) _)
  have hG := fun X (hX : Rd X B A m c bs) => getword_any A m c B bs a X hX hb hm ha
  unfold RetW at hG
  have hsg := sg_64 (num (cut (restL bs a) 0 64))
  generalize restL bs a = p at *
  generalize num (cut p 0 64) = x at *
  generalize sgnN x 64 = z at *
  have hz : wrap64 (0 : Int) = 0 := by rw [w64_wrap]; decide
  go_enter Tryd.func30, Tryd.ntmps30
  go_wp2_with fail
  refine (hG _ (h.keep fun _ hp => hb0.cell (Nat.lt_of_lt_of_le hp hB))).mono ?_
  rintro e w1 (⟨hl, rfl, rfl⟩ | ⟨hl, rfl, rfl⟩)
  · go_wp2
    go_ret3
    exact ⟨.inl ⟨hl, by rw [← hsg]; rfl⟩, hb0⟩
  · go_wp2
    go_ret3
    exact ⟨.inr ⟨hl, rfl⟩, hb0⟩

set_option maxRecDepth 20000 in
set_option maxHeartbeats 1000000 in
theorem gettime_later (A : Option Addr) (m c B : Nat) (bs : List Nat) (a : Int) (s : KS) (w : World) (h : Rd w B A m c bs) (hB : B ≤ w.heap.size) (hb : ∀ x ∈ bs, x < 256) (hm : m ≤ 100000)
    (ha : -9223372036854775808 ≤ a ∧ a ≤ 9223372036854775807) (h0 : s.n ≠ 0) (hR : RoomW w) :
    Calls Tryd.prog 30 #[(.agg #[.int .i64 (s.n : Int), .int .i64 s.t, .int .i64 s.d, .int .u64 (s.v : Int), .int .u64 (s.e : Int), .int .u64 (s.x.prev : Int), .int .i64 (s.x.lead : Int), .int .i64 (s.x.len : Int)]), .slice A m c, .int .i64 a] w fun e w' =>
      ∃ st n k, DGets (restL bs a) st n k ∧ e = .returned (.tuple #[.int .i64 (w64 (s.t + s.d + st)), .int .i64 ((n : Nat) : Int), errV k]) ∧ Below w.heap.size w w' := by
  have h1 : ((s.n : Int) == 0) = false := by simp [h0]
  have hb0 : Below w.heap.size w (w.alloc (.cells #[.int .i64 (s.n : Int), .int .i64 s.t, .int .i64 s.d, .int .u64 (s.v : Int), .int .u64 (s.e : Int), .int .u64 (s.x.prev : Int), .int .i64 (s.x.lead : Int), .int .i64 (s.x.len : Int)] 29)) := by repeat (first | with_reducible exact Below.refl _ _ | assumption | with_reducible refine Below.drew ?_ | with_reducible refine Below.alloc ?_ (by (first | assumption | omega | (simp; done) | (simp; omega))) _)
  have hG := fun X (hX : Rd X B A m c bs) hR => dget_all A m c B bs a X hX hb hm ha hR
  have b3 := BoxL.new w [.int .i64 (s.n : Int), .int .i64 s.t, .int .i64 s.d, .int .u64 (s.v : Int), .int .u64 (s.e : Int), .int .u64 (s.x.prev : Int), .int .i64 (s.x.lead : Int), .int .i64 (s.x.len : Int)] 29
  have hRA := hR.bel hb0
  unfold RetD at hG
  generalize restL bs a = p at *
  go_enter Tryd.func30, Tryd.ntmps30
  go_wp2_with fail
  refine (hG _ (h.keep fun _ hp => hb0.cell (Nat.lt_of_lt_of_le hp hB)) hRA).mono ?_
  rintro e w1 ⟨st, n, k, hd, rfl, hw1⟩
  have HD := Lib.hid hd
  clear hd
  obtain ⟨ev, HE⟩ : ∃ ev, Hid (errV k = ev) := ⟨_, Lib.hid rfl⟩
  rw [HE.out]
  obtain ⟨q0, q1, q2, q3, q4, q5, q6, q7⟩ := (b3.below hw1).get8
  have hw := sumT_wrap s.t s.d st
  replace hw1 := hb0.trans (hw1.mono hb0.size)
  clear b3 hG
  go_wp2
  go_ret3
  exact ⟨st, n, k, HD.out, by rw [HE.out, ← hw]; rfl, hw1⟩

/-- what getValue comes to, behind the first sample -/
def RetGV (w : World) (k : Nat) (s : KS) (p : List Bool) (e : Ending) (w' : World) : Prop :=
  ∃ v y m e2, VGets k s p v y m e2 ∧ e = .returned (.tuple #[.int .u64 ((v : Nat) : Int), (.agg #[.int .u64 (y.prev : Int), .int .i64 (y.lead : Int), .int .i64 (y.len : Int)]), .int .i64 ((m : Nat) : Int), errV e2]) ∧ Below w.heap.size w w'

/-- the world behind getValue's two boxes -/
theorem gv_boxes (w : World) (s : KS) : Below w.heap.size w ((w.alloc (.cells #[.int .i64 (s.n : Int), .int .i64 s.t, .int .i64 s.d, .int .u64 (s.v : Int), .int .u64 (s.e : Int), .int .u64 (s.x.prev : Int), .int .i64 (s.x.lead : Int), .int .i64 (s.x.len : Int)] 29)).alloc (.cells #[.int .u64 0, .int .i64 0, .int .i64 0] 27)) ∧
    BoxL ((w.alloc (.cells #[.int .i64 (s.n : Int), .int .i64 s.t, .int .i64 s.d, .int .u64 (s.v : Int), .int .u64 (s.e : Int), .int .u64 (s.x.prev : Int), .int .i64 (s.x.lead : Int), .int .i64 (s.x.len : Int)] 29)).alloc (.cells #[.int .u64 0, .int .i64 0, .int .i64 0] 27)) w.heap.size [.int .i64 (s.n : Int), .int .i64 s.t, .int .i64 s.d, .int .u64 (s.v : Int), .int .u64 (s.e : Int), .int .u64 (s.x.prev : Int), .int .i64 (s.x.lead : Int), .int .i64 (s.x.len : Int)] ∧
    BoxL ((w.alloc (.cells #[.int .i64 (s.n : Int), .int .i64 s.t, .int .i64 s.d, .int .u64 (s.v : Int), .int .u64 (s.e : Int), .int .u64 (s.x.prev : Int), .int .i64 (s.x.lead : Int), .int .i64 (s.x.len : Int)] 29)).alloc (.cells #[.int .u64 0, .int .i64 0, .int .i64 0] 27)) (w.heap.size + 1) [.int .u64 0, .int .i64 0, .int .i64 0] := by
  have h2 := BoxL.new (w.alloc (.cells #[.int .i64 (s.n : Int), .int .i64 s.t, .int .i64 s.d, .int .u64 (s.v : Int), .int .u64 (s.e : Int), .int .u64 (s.x.prev : Int), .int .i64 (s.x.lead : Int), .int .i64 (s.x.len : Int)] 29)) [.int .u64 0, .int .i64 0, .int .i64 0] 27
  simp only [World.size_alloc] at h2
  exact ⟨by repeat (first | with_reducible exact Below.refl _ _ | assumption | with_reducible refine Below.drew ?_ | with_reducible refine Below.alloc ?_ (by (first | assumption | omega | (simp; done) | (simp; omega))) _), (BoxL.new w [.int .i64 (s.n : Int), .int .i64 s.t, .int .i64 s.d, .int .u64 (s.v : Int), .int .u64 (s.e : Int), .int .u64 (s.x.prev : Int), .int .i64 (s.x.lead : Int), .int .i64 (s.x.len : Int)] 29).onA _, h2⟩
theorem below_set3' {B : Nat} {a w : World} (h : Below B a w) {d : Nat} (hd : B ≤ d) (u0 u1 u2 : Value) : Below B a (((w.setCell ⟨d, 0, none⟩ (u0)).setCell ⟨d, 1, none⟩ (u1)).setCell ⟨d, 2, none⟩ (u2)) := below_set (below_set (below_set h hd 0 u0) hd 1 u1) hd 2 u2

set_option maxRecDepth 20000 in
set_option maxHeartbeats 1000000 in
theorem getvalue_first (k : Nat) (A : Option Addr) (m c B : Nat) (bs : List Nat) (a : Int) (s : KS) (w : World) (h : Rd w B A m c bs) (hB : B ≤ w.heap.size) (hb : ∀ x ∈ bs, x < 256) (hm : m ≤ 100000)
    (ha : -9223372036854775808 ≤ a ∧ a ≤ 9223372036854775807) (h0 : s.n = 0) :
    Calls Tryd.prog 31 #[.int .i64 (k : Int), (.agg #[.int .i64 (s.n : Int), .int .i64 s.t, .int .i64 s.d, .int .u64 (s.v : Int), .int .u64 (s.e : Int), .int .u64 (s.x.prev : Int), .int .i64 (s.x.lead : Int), .int .i64 (s.x.len : Int)]), .slice A m c, .int .i64 a] w fun e w' =>
      ((64 ≤ (restL bs a).length ∧ e = .returned (.tuple #[.int .u64 ((num (cut (restL bs a) 0 64) : Nat) : Int), .agg #[.int .u64 0, .int .i64 0, .int .i64 0], .int .i64 64, .nilIface])) ∨
      ((restL bs a).length < 64 ∧ e = .returned (.tuple #[.int .u64 0, .agg #[.int .u64 0, .int .i64 0, .int .i64 0], .int .i64 0, .iface 58 (.int .i64 2)]))) ∧ Below w.heap.size w w' := by
  have h1 : ((s.n : Int) == 0) = true := by simp [h0]
  clear h0
  obtain ⟨hb0, _, _⟩ := gv_boxes w s
  have hG := fun X (hX : Rd X B A m c bs) => getword_any A m c B bs a X hX hb hm ha
  unfold RetW at hG
  generalize restL bs a = p at *
  generalize num (cut p 0 64) = x at *
  go_enter Tryd.func31, Tryd.ntmps31
  go_wp2_with fail
  refine (hG _ (h.keep fun _ hp => hb0.cell (Nat.lt_of_lt_of_le hp hB))).mono ?_
  rintro e w1 (⟨hl, rfl, rfl⟩ | ⟨hl, rfl, rfl⟩)
  · go_wp2
    go_returns
    exact ⟨.inl ⟨hl, rfl⟩, hb0⟩
  · go_wp2
    go_returns
    exact ⟨.inr ⟨hl, rfl⟩, hb0⟩

set_option maxRecDepth 20000 in
set_option maxHeartbeats 1000000 in
theorem getvalue_later (k : Nat) (A : Option Addr) (m c B : Nat) (bs : List Nat) (a : Int) (s : KS) (w : World) (hk : k = 1 ∨ k = 2) (h : Rd w B A m c bs) (hB : B ≤ w.heap.size) (hb : ∀ x ∈ bs, x < 256) (hm : m ≤ 100000)
    (ha : -9223372036854775808 ≤ a ∧ a ≤ 9223372036854775807) (h0 : s.n ≠ 0) (hs : s.May) (hR : RoomW w) (hT : TzW w) :
    Calls Tryd.prog 31 #[.int .i64 (k : Int), (.agg #[.int .i64 (s.n : Int), .int .i64 s.t, .int .i64 s.d, .int .u64 (s.v : Int), .int .u64 (s.e : Int), .int .u64 (s.x.prev : Int), .int .i64 (s.x.lead : Int), .int .i64 (s.x.len : Int)]), .slice A m c, .int .i64 a] w (RetGV w k s (restL bs a)) := by
  have h1 : ((s.n : Int) == 0) = false := by simp [h0]
  obtain ⟨hb0, b5, b9⟩ := gv_boxes w s
  have hr := h.keep fun _ hp => hb0.cell (Nat.lt_of_lt_of_le hp hB)
  have hl9 := b9.lt
  rcases hk with rfl | rfl
  · have hG := fun X (hX : Rd X B A m c bs) (hB : B ≤ X.heap.size) hT => xget_any A m c B bs a s.x.prev s.x.lead s.x.len X hX hB hb hm ha hs.x hT
    unfold RetXG at hG
    have HV : Hid (∀ q, VGets 1 s q (getX s.x q).v (getX s.x q).s (getX s.x q).n (getX s.x q).e) := Lib.hid (fun q => ⟨rfl, rfl, rfl, rfl⟩)
    replace HV := Lib.hid (HV.out (restL bs a))
    unfold RetGV
    change ∀ X, Rd X B A m c bs → B ≤ X.heap.size → TzW X → Calls _ _ _ X (fun e w' => e = .returned (.tuple #[.int .u64 (((getX s.x (restL bs a)).v : Nat) : Int), (.agg #[.int .u64 ((getX s.x (restL bs a)).s.prev : Int), .int .i64 ((getX s.x (restL bs a)).s.lead : Int), .int .i64 ((getX s.x (restL bs a)).s.len : Int)]), .int .i64 (((getX s.x (restL bs a)).n : Nat) : Int), errV (getX s.x (restL bs a)).e]) ∧ Below X.heap.size X w') at hG
    generalize restL bs a = p at *
    generalize getX s.x p = R at *
    obtain ⟨ev, HE⟩ : ∃ ev, Hid (errV R.e = ev) := ⟨_, Lib.hid rfl⟩
    rw [HE.out] at hG
    clear h0
    go_enter Tryd.func31, Tryd.ntmps31
    go_wp2_with fail
    refine (hG _ hr (by have := hb0.size; omega) (hT.bel hb0)).mono ?_
    rintro e w1 ⟨rfl, hw1⟩
    replace b9 := b9.below hw1
    replace hw1 := hb0.trans (hw1.mono hb0.size)
    obtain ⟨u0, u1, u2⟩ := b9.get3
    obtain ⟨v0, v1, v2⟩ := b9.free3
    clear b5 hG hr hb0
    go_wp2
    have hbs := below_set3' hw1 (d := w.heap.size + 1) (by omega) (.int .u64 (R.s.prev : Int)) (.int .i64 (R.s.lead : Int)) (.int .i64 (R.s.len : Int))
    replace b9 := b9.all3 (.int .u64 (R.s.prev : Int)) (.int .i64 (R.s.lead : Int)) (.int .i64 (R.s.len : Int))
    clear u0 u1 u2 v0 v1 v2 hw1
    generalize (((w1.setCell ⟨w.heap.size + 1, 0, none⟩ (.int .u64 (R.s.prev : Int))).setCell ⟨w.heap.size + 1, 1, none⟩ (.int .i64 (R.s.lead : Int))).setCell ⟨w.heap.size + 1, 2, none⟩ (.int .i64 (R.s.len : Int))) = X at *
    obtain ⟨u0, u1, u2⟩ := b9.get3
    refine bodyPost_ret (v := .tuple #[.int .u64 (R.v : Int), (.agg #[.int .u64 (R.s.prev : Int), .int .i64 (R.s.lead : Int), .int .i64 (R.s.len : Int)]), .int .i64 (R.n : Int), ev]) ?_ rfl ⟨_, _, _, _, HV.out, by rw [HE.out], hbs⟩
    simp [results, Tryd.results31, go_sem, u0, u1, u2]
  · have hG := fun X (hX : Rd X B A m c bs) hR => dget_all A m c B bs a X hX hb hm ha hR
    unfold RetD at hG
    unfold RetGV
    generalize restL bs a = p at *
    clear h0
    go_enter Tryd.func31, Tryd.ntmps31
    go_wp2_with fail
    refine (hG _ hr (hR.bel hb0)).mono ?_
    rintro e w1 ⟨st, n, e2, hd, rfl, hw1⟩
    have HV : Hid (VGets 2 s p (un64 ((s.v : Int) + (s.e : Int) + st)) zeroX n e2) := Lib.hid (by unfold VGets; rw [if_neg (by omega)]; exact ⟨st, hd, rfl, rfl⟩)
    have hw := sumE_wrap s.v s.e st
    clear hd
    obtain ⟨ev, HE⟩ : ∃ ev, Hid (errV e2 = ev) := ⟨_, Lib.hid rfl⟩
    rw [HE.out]
    replace b9 := b9.below hw1
    replace b5 := b5.below hw1
    replace hw1 := hb0.trans (hw1.mono hb0.size)
    obtain ⟨q0, q1, q2, q3, q4, q5, q6, q7⟩ := b5.get8
    obtain ⟨u0, u1, u2⟩ := b9.get3
    obtain ⟨v0, v1, v2⟩ := b9.free3
    clear b5 hG hr hb0
    generalize un64 ((s.v : Int) + (s.e : Int) + st) = v at *
    go_wp2
    have hbs := below_set3' hw1 (d := w.heap.size + 1) (by omega) (.int .u64 0) (.int .i64 0) (.int .i64 0)
    replace b9 := b9.all3 (.int .u64 0) (.int .i64 0) (.int .i64 0)
    clear u0 u1 u2 v0 v1 v2 hw1 q0 q1 q2 q3 q4 q5 q6 q7
    generalize (((w1.setCell ⟨w.heap.size + 1, 0, none⟩ (.int .u64 0)).setCell ⟨w.heap.size + 1, 1, none⟩ (.int .i64 0)).setCell ⟨w.heap.size + 1, 2, none⟩ (.int .i64 0)) = X at *
    obtain ⟨u0, u1, u2⟩ := b9.get3
    refine bodyPost_ret (v := .tuple #[.int .u64 (v : Int), (.agg #[.int .u64 (zeroX.prev : Int), .int .i64 (zeroX.lead : Int), .int .i64 (zeroX.len : Int)]), .int .i64 (n : Int), ev]) ?_ rfl ⟨v, zeroX, n, e2, HV.out, by rw [HE.out], hbs⟩
    simp [results, Tryd.results31, go_sem, u0, u1, u2, zeroX]

end Go.Proofs.YtcnhoohcdkfgkaaDoor

/-
  The contract of layer 8's Get: what bits begin with in a state, from a place on.
-/
namespace Go.Proofs.YtcnhoohcdkfgkaaDoor
open Go.RowKit

theorem dgets_is (p : List Bool) : ∃ v n e, DGets p v n e := by
  obtain ⟨k, hk⟩ := ones_is p
  by_cases h1 : headN k + roomN k ≤ p.length
  · by_cases h2 : onesN (bodyD p k) = k
    · exact ⟨_, _, _, k, hk, .inr (.inr ⟨h1, h2, rfl, rfl, rfl⟩)⟩
    · exact ⟨_, _, _, k, hk, .inr (.inl ⟨h1, h2, rfl, rfl, rfl⟩)⟩
  · exact ⟨_, _, _, k, hk, .inl ⟨by omega, rfl, rfl, rfl⟩⟩
theorem vgets_is (k : Nat) (s : KS) (q : List Bool) : ∃ v y m e, VGets k s q v y m e := by
  unfold VGets
  by_cases hk : k = 1
  · exact ⟨_, _, _, _, by rw [if_pos hk]; exact ⟨rfl, rfl, rfl, rfl⟩⟩
  · obtain ⟨v, n, e, h⟩ := dgets_is q
    exact ⟨_, _, _, _, by rw [if_neg hk]; exact ⟨v, h, rfl, rfl⟩⟩
/-- a place further on -/
theorem rest_more {bs : List Nat} {a : Int} {n : Nat} (h1 : 1 ≤ n) (hn : n ≤ (restL bs a).length) : 0 ≤ a ∧ a + (n : Int) ≤ 8 * (bs.length : Int) ∧ restL bs (a + (n : Int)) = (restL bs a).drop n := by
  by_cases g : 0 ≤ a ∧ a ≤ 8 * (bs.length : Int)
  · obtain ⟨a', rfl⟩ := Int.eq_ofNat_of_zero_le g.1
    have h2 : a' ≤ 8 * bs.length := by omega
    rw [restL_length h2] at hn
    refine ⟨by omega, by omega, ?_⟩
    have e : (a' : Int) + (n : Int) = ((a' + n : Nat) : Int) := by omega
    rw [e, restL_yes h2, restL_yes (by omega), List.drop_drop]
  · rw [restL_no (by omega)] at hn
    simp at hn
    omega

/-- what Get comes to -/
def RetG8 (w : World) (k : Nat) (s : KS) (p : List Bool) (e : Ending) (w' : World) : Prop :=
  ∃ r, KGets k s p r ∧ e = .returned (.tuple #[(.agg #[.int .i64 r.t, .int .u64 (r.v : Int)]), (.agg #[.int .i64 (r.s.n : Int), .int .i64 r.s.t, .int .i64 r.s.d, .int .u64 (r.s.v : Int), .int .u64 (r.s.e : Int), .int .u64 (r.s.x.prev : Int), .int .i64 (r.s.x.lead : Int), .int .i64 (r.s.x.len : Int)]), .int .i64 (r.n : Int), errV r.e]) ∧ Below w.heap.size w w'

/-- the world behind Get's three boxes -/
def gworld (w : World) (s : KS) : World := ((w.alloc (.cells #[.int .i64 (s.n : Int), .int .i64 s.t, .int .i64 s.d, .int .u64 (s.v : Int), .int .u64 (s.e : Int), .int .u64 (s.x.prev : Int), .int .i64 (s.x.lead : Int), .int .i64 (s.x.len : Int)] 29)).alloc (.cells #[.int .i64 0, .int .u64 0] 40)).alloc (.cells #[.int .i64 0, .int .i64 0, .int .i64 0, .int .u64 0, .int .u64 0, .int .u64 0, .int .i64 0, .int .i64 0] 29)
/-- what lies in Get's boxes -/
structure GX (w X : World) (s : KS) (l8 l9 : List Value) : Prop where
  bel : Below w.heap.size w X
  b5 : BoxL X w.heap.size [.int .i64 (s.n : Int), .int .i64 s.t, .int .i64 s.d, .int .u64 (s.v : Int), .int .u64 (s.e : Int), .int .u64 (s.x.prev : Int), .int .i64 (s.x.lead : Int), .int .i64 (s.x.len : Int)]
  b8 : BoxL X (w.heap.size + 1) l8
  b9 : BoxL X (w.heap.size + 1 + 1) l9
theorem gworld_is (w : World) (s : KS) : GX w (gworld w s) s [.int .i64 0, .int .u64 0] [.int .i64 0, .int .i64 0, .int .i64 0, .int .u64 0, .int .u64 0, .int .u64 0, .int .i64 0, .int .i64 0] := by
  have h5 := ((BoxL.new w [.int .i64 (s.n : Int), .int .i64 s.t, .int .i64 s.d, .int .u64 (s.v : Int), .int .u64 (s.e : Int), .int .u64 (s.x.prev : Int), .int .i64 (s.x.lead : Int), .int .i64 (s.x.len : Int)] 29).onA (.cells #[.int .i64 0, .int .u64 0] 40)).onA (.cells #[.int .i64 0, .int .i64 0, .int .i64 0, .int .u64 0, .int .u64 0, .int .u64 0, .int .i64 0, .int .i64 0] 29)
  have h8 := (BoxL.new (w.alloc (.cells #[.int .i64 (s.n : Int), .int .i64 s.t, .int .i64 s.d, .int .u64 (s.v : Int), .int .u64 (s.e : Int), .int .u64 (s.x.prev : Int), .int .i64 (s.x.lead : Int), .int .i64 (s.x.len : Int)] 29)) [.int .i64 0, .int .u64 0] 40).onA (.cells #[.int .i64 0, .int .i64 0, .int .i64 0, .int .u64 0, .int .u64 0, .int .u64 0, .int .i64 0, .int .i64 0] 29)
  have h9 := BoxL.new ((w.alloc (.cells #[.int .i64 (s.n : Int), .int .i64 s.t, .int .i64 s.d, .int .u64 (s.v : Int), .int .u64 (s.e : Int), .int .u64 (s.x.prev : Int), .int .i64 (s.x.lead : Int), .int .i64 (s.x.len : Int)] 29)).alloc (.cells #[.int .i64 0, .int .u64 0] 40)) [.int .i64 0, .int .i64 0, .int .i64 0, .int .u64 0, .int .u64 0, .int .u64 0, .int .i64 0, .int .i64 0] 29
  simp only [World.size_alloc] at h8 h9
  unfold gworld
  exact ⟨by repeat (first | with_reducible exact Below.refl _ _ | assumption | with_reducible refine Below.drew ?_ | with_reducible refine Below.alloc ?_ (by (first | assumption | omega | (simp; done) | (simp; omega))) _), h5, h8, h9⟩
theorem GX.below {w X X' : World} {s : KS} {l8 l9 : List Value} (h : GX w X s l8 l9) (hb : Below X.heap.size X X') : GX w X' s l8 l9 :=
  ⟨h.bel.trans (hb.mono h.bel.size), h.b5.below hb, h.b8.below hb, h.b9.below hb⟩
/-- the zero values laid anew -/
theorem GX.zero {w X : World} {s : KS} {x0 x1 a0 a1 a2 a3 a4 a5 a6 a7 : Value} (h : GX w X s [x0, x1] [a0, a1, a2, a3, a4, a5, a6, a7]) (u0 u1 v0 v1 v2 v3 v4 v5 v6 v7 : Value) :
    GX w ((((((((((X.setCell ⟨w.heap.size + 1, 0, none⟩ (u0)).setCell ⟨w.heap.size + 1, 1, none⟩ (u1)).setCell ⟨w.heap.size + 1 + 1, 0, none⟩ (v0)).setCell ⟨w.heap.size + 1 + 1, 1, none⟩ (v1)).setCell ⟨w.heap.size + 1 + 1, 2, none⟩ (v2)).setCell ⟨w.heap.size + 1 + 1, 3, none⟩ (v3)).setCell ⟨w.heap.size + 1 + 1, 4, none⟩ (v4)).setCell ⟨w.heap.size + 1 + 1, 5, none⟩ (v5)).setCell ⟨w.heap.size + 1 + 1, 6, none⟩ (v6)).setCell ⟨w.heap.size + 1 + 1, 7, none⟩ (v7)) s [u0, u1] [v0, v1, v2, v3, v4, v5, v6, v7] :=
  ⟨below_set8 (below_set2 h.bel (by omega) _ _) (by omega) _ _ _ _ _ _ _ _, (h.b5.oth2 (by omega) _ _).oth8 (by omega) _ _ _ _ _ _ _ _, (h.b8.all2 _ _).oth8 (by omega) _ _ _ _ _ _ _ _, (h.b9.oth2 (by omega) _ _).all8 _ _ _ _ _ _ _ _⟩

set_option maxRecDepth 20000 in
set_option maxHeartbeats 1000000 in
theorem get_kind (z : Int) (s : KS) (A : Option Addr) (m c : Nat) (a : Int) (w : World) (h1 : (z == 1) = false) (h2 : (z == 2) = false) :
    Calls Tryd.prog 13 #[.int .i64 z, (.agg #[.int .i64 (s.n : Int), .int .i64 s.t, .int .i64 s.d, .int .u64 (s.v : Int), .int .u64 (s.e : Int), .int .u64 (s.x.prev : Int), .int .i64 (s.x.lead : Int), .int .i64 (s.x.len : Int)]), .slice A m c, .int .i64 a] w fun e w' => e = .returned (.tuple #[.agg #[.int .i64 0, .int .u64 0], (.agg #[.int .i64 0, .int .i64 0, .int .i64 0, .int .u64 0, .int .u64 0, .int .u64 0, .int .i64 0, .int .i64 0]), .int .i64 0, .iface 58 (.int .i64 6)]) ∧ Below w.heap.size w w' := by
  go_enter Tryd.func13, Tryd.ntmps13
  go_wp2_with fail
  refine (known_no z _ h1 h2).mono ?_
  rintro e w1 ⟨rfl, rfl⟩
  go_wp2
  go_returns
  exact ⟨rfl, by repeat (first | with_reducible exact Below.refl _ _ | assumption | with_reducible refine Below.drew ?_ | with_reducible refine Below.alloc ?_ (by (first | assumption | omega | (simp; done) | (simp; omega))) _)⟩

set_option maxRecDepth 20000 in
set_option maxHeartbeats 2000000 in
theorem get_terr (k : Nat) (s : KS) (A : Option Addr) (m c : Nat) (a : Int) (w : World) (hk : k = 1 ∨ k = 2) (t n : Int) (e : Nat) (he : e ≠ 0)
    (hGT : ∀ X, Below w.heap.size w X → Calls Tryd.prog 30 #[(.agg #[.int .i64 (s.n : Int), .int .i64 s.t, .int .i64 s.d, .int .u64 (s.v : Int), .int .u64 (s.e : Int), .int .u64 (s.x.prev : Int), .int .i64 (s.x.lead : Int), .int .i64 (s.x.len : Int)]), .slice A m c, .int .i64 a] X fun f X' => f = .returned (.tuple #[.int .i64 t, .int .i64 n, errV e]) ∧ Below X.heap.size X X') :
    Calls Tryd.prog 13 #[.int .i64 (k : Int), (.agg #[.int .i64 (s.n : Int), .int .i64 s.t, .int .i64 s.d, .int .u64 (s.v : Int), .int .u64 (s.e : Int), .int .u64 (s.x.prev : Int), .int .i64 (s.x.lead : Int), .int .i64 (s.x.len : Int)]), .slice A m c, .int .i64 a] w fun f w' => f = .returned (.tuple #[.agg #[.int .i64 0, .int .u64 0], (.agg #[.int .i64 0, .int .i64 0, .int .i64 0, .int .u64 0, .int .u64 0, .int .u64 0, .int .i64 0, .int .i64 0]), .int .i64 0, errV e]) ∧ Below w.heap.size w w' := by
  rw [errV_some he] at hGT ⊢
  have hX := gworld_is w s
  clear he
  go_enter Tryd.func13, Tryd.ntmps13
  go_wp2_with fail
  change Calls _ _ _ (gworld w s) _
  generalize gworld w s = W at *
  refine (known_yes k _ hk).mono ?_
  rintro e' w1 ⟨rfl, rfl⟩
  obtain ⟨q0, q1, q2, q3, q4, q5, q6, q7⟩ := hX.b5.get8
  go_wp2_with fail
  refine (hGT _ hX.bel).mono ?_
  rintro e' w1 ⟨rfl, hb1⟩
  replace hX := hX.below hb1
  clear q0 q1 q2 q3 q4 q5 q6 q7 hb1 hGT
  obtain ⟨a0, a1⟩ := hX.b8.get2
  obtain ⟨af0, af1⟩ := hX.b8.free2
  obtain ⟨d0, d1, d2, d3, d4, d5, d6, d7⟩ := hX.b9.get8
  obtain ⟨df0, df1, df2, df3, df4, df5, df6, df7⟩ := hX.b9.free8
  go_wp2
  have hY := hX.zero (.int .i64 0) (.int .u64 0) (.int .i64 0) (.int .i64 0) (.int .i64 0) (.int .u64 0) (.int .u64 0) (.int .u64 0) (.int .i64 0) (.int .i64 0)
  clear a0 a1 af0 af1 d0 d1 d2 d3 d4 d5 d6 d7 df0 df1 df2 df3 df4 df5 df6 df7 hX
  generalize ((((((((((w1.setCell ⟨w.heap.size + 1, 0, none⟩ (.int .i64 0)).setCell ⟨w.heap.size + 1, 1, none⟩ (.int .u64 0)).setCell ⟨w.heap.size + 1 + 1, 0, none⟩ (.int .i64 0)).setCell ⟨w.heap.size + 1 + 1, 1, none⟩ (.int .i64 0)).setCell ⟨w.heap.size + 1 + 1, 2, none⟩ (.int .i64 0)).setCell ⟨w.heap.size + 1 + 1, 3, none⟩ (.int .u64 0)).setCell ⟨w.heap.size + 1 + 1, 4, none⟩ (.int .u64 0)).setCell ⟨w.heap.size + 1 + 1, 5, none⟩ (.int .u64 0)).setCell ⟨w.heap.size + 1 + 1, 6, none⟩ (.int .i64 0)).setCell ⟨w.heap.size + 1 + 1, 7, none⟩ (.int .i64 0)) = X at *
  obtain ⟨a0, a1⟩ := hY.b8.get2
  obtain ⟨d0, d1, d2, d3, d4, d5, d6, d7⟩ := hY.b9.get8
  refine bodyPost_ret (v := .tuple #[.agg #[.int .i64 0, .int .u64 0], (.agg #[.int .i64 0, .int .i64 0, .int .i64 0, .int .u64 0, .int .u64 0, .int .u64 0, .int .i64 0, .int .i64 0]), .int .i64 0, .iface 58 (.int .i64 (e : Int))]) ?_ rfl ⟨rfl, hY.bel⟩
  simp [results, Tryd.results13, go_sem, a0, a1, d0, d1, d2, d3, d4, d5, d6, d7]

set_option maxRecDepth 20000 in
set_option maxHeartbeats 2000000 in
theorem get_verr (k : Nat) (s : KS) (A : Option Addr) (m c : Nat) (a : Int) (w : World) (hk : k = 1 ∨ k = 2) (t : Int) (n : Nat) (v : Int) (y : XS) (j : Int) (e : Nat) (he : e ≠ 0) (hs1 : -9223372036854775808 ≤ a + (n : Int)) (hs2 : a + (n : Int) ≤ 9223372036854775807)
    (hGT : ∀ X, Below w.heap.size w X → Calls Tryd.prog 30 #[(.agg #[.int .i64 (s.n : Int), .int .i64 s.t, .int .i64 s.d, .int .u64 (s.v : Int), .int .u64 (s.e : Int), .int .u64 (s.x.prev : Int), .int .i64 (s.x.lead : Int), .int .i64 (s.x.len : Int)]), .slice A m c, .int .i64 a] X fun f X' => f = .returned (.tuple #[.int .i64 t, .int .i64 (n : Int), .nilIface]) ∧ Below X.heap.size X X')
    (hGV : ∀ X, Below w.heap.size w X → Calls Tryd.prog 31 #[.int .i64 (k : Int), (.agg #[.int .i64 (s.n : Int), .int .i64 s.t, .int .i64 s.d, .int .u64 (s.v : Int), .int .u64 (s.e : Int), .int .u64 (s.x.prev : Int), .int .i64 (s.x.lead : Int), .int .i64 (s.x.len : Int)]), .slice A m c, .int .i64 (a + (n : Int))] X fun f X' => f = .returned (.tuple #[.int .u64 v, (.agg #[.int .u64 (y.prev : Int), .int .i64 (y.lead : Int), .int .i64 (y.len : Int)]), .int .i64 j, errV e]) ∧ Below X.heap.size X X') :
    Calls Tryd.prog 13 #[.int .i64 (k : Int), (.agg #[.int .i64 (s.n : Int), .int .i64 s.t, .int .i64 s.d, .int .u64 (s.v : Int), .int .u64 (s.e : Int), .int .u64 (s.x.prev : Int), .int .i64 (s.x.lead : Int), .int .i64 (s.x.len : Int)]), .slice A m c, .int .i64 a] w fun f w' => f = .returned (.tuple #[.agg #[.int .i64 0, .int .u64 0], (.agg #[.int .i64 0, .int .i64 0, .int .i64 0, .int .u64 0, .int .u64 0, .int .u64 0, .int .i64 0, .int .i64 0]), .int .i64 0, errV e]) ∧ Below w.heap.size w w' := by
  rw [errV_some he] at hGV ⊢
  have hX := gworld_is w s
  clear he
  go_enter Tryd.func13, Tryd.ntmps13
  go_wp2_with fail
  change Calls _ _ _ (gworld w s) _
  generalize gworld w s = W at *
  refine (known_yes k _ hk).mono ?_
  rintro e' w1 ⟨rfl, rfl⟩
  obtain ⟨q0, q1, q2, q3, q4, q5, q6, q7⟩ := hX.b5.get8
  go_wp2_with fail
  refine (hGT _ hX.bel).mono ?_
  rintro e' w1 ⟨rfl, hb1⟩
  replace hX := hX.below hb1
  clear q0 q1 q2 q3 q4 q5 q6 q7 hb1 hGT
  obtain ⟨q0, q1, q2, q3, q4, q5, q6, q7⟩ := hX.b5.get8
  go_wp2_with fail
  refine (hGV _ hX.bel).mono ?_
  rintro e' w2 ⟨rfl, hb2⟩
  replace hX := hX.below (hb2.trans ((Below.refl _ _).alloc hb2.size (.cells #[.int .u64 (y.prev : Int), .int .i64 (y.lead : Int), .int .i64 (y.len : Int)] 27)))
  clear q0 q1 q2 q3 q4 q5 q6 q7 hb2 hGV
  go_upto_region 7 with fail
  generalize w2.alloc (.cells #[.int .u64 (y.prev : Int), .int .i64 (y.lead : Int), .int .i64 (y.len : Int)] 27) = W2 at *
  obtain ⟨a0, a1⟩ := hX.b8.get2
  obtain ⟨af0, af1⟩ := hX.b8.free2
  obtain ⟨d0, d1, d2, d3, d4, d5, d6, d7⟩ := hX.b9.get8
  obtain ⟨df0, df1, df2, df3, df4, df5, df6, df7⟩ := hX.b9.free8
  go_wp2
  have hY := hX.zero (.int .i64 0) (.int .u64 0) (.int .i64 0) (.int .i64 0) (.int .i64 0) (.int .u64 0) (.int .u64 0) (.int .u64 0) (.int .i64 0) (.int .i64 0)
  clear a0 a1 af0 af1 d0 d1 d2 d3 d4 d5 d6 d7 df0 df1 df2 df3 df4 df5 df6 df7 hX
  generalize ((((((((((W2.setCell ⟨w.heap.size + 1, 0, none⟩ (.int .i64 0)).setCell ⟨w.heap.size + 1, 1, none⟩ (.int .u64 0)).setCell ⟨w.heap.size + 1 + 1, 0, none⟩ (.int .i64 0)).setCell ⟨w.heap.size + 1 + 1, 1, none⟩ (.int .i64 0)).setCell ⟨w.heap.size + 1 + 1, 2, none⟩ (.int .i64 0)).setCell ⟨w.heap.size + 1 + 1, 3, none⟩ (.int .u64 0)).setCell ⟨w.heap.size + 1 + 1, 4, none⟩ (.int .u64 0)).setCell ⟨w.heap.size + 1 + 1, 5, none⟩ (.int .u64 0)).setCell ⟨w.heap.size + 1 + 1, 6, none⟩ (.int .i64 0)).setCell ⟨w.heap.size + 1 + 1, 7, none⟩ (.int .i64 0)) = X at *
  obtain ⟨a0, a1⟩ := hY.b8.get2
  obtain ⟨d0, d1, d2, d3, d4, d5, d6, d7⟩ := hY.b9.get8
  refine bodyPost_ret (v := .tuple #[.agg #[.int .i64 0, .int .u64 0], (.agg #[.int .i64 0, .int .i64 0, .int .i64 0, .int .u64 0, .int .u64 0, .int .u64 0, .int .i64 0, .int .i64 0]), .int .i64 0, .iface 58 (.int .i64 (e : Int))]) ?_ rfl ⟨rfl, hY.bel⟩
  simp [results, Tryd.results13, go_sem, a0, a1, d0, d1, d2, d3, d4, d5, d6, d7]

/-- the boxes behind Get's two parts, ahead of its last region, and behind each of its steps -/
structure GY (w X : World) (s : KS) (g16 g18 : Nat) (l8 l9 l16 l18 : List Value) : Prop where
  gx : GX w X s l8 l9
  b16 : BoxL X g16 l16
  b18 : BoxL X g18 l18
  h16 : w.heap.size + 1 + 1 < g16
  h18 : w.heap.size + 1 + 1 < g18
section
variable {w X X' : World} {s : KS} {g16 g18 : Nat} {l8 l9 l16 l18 : List Value}
theorem GY.below (h : GY w X s g16 g18 l8 l9 l16 l18) (hb : Below X.heap.size X X') : GY w X' s g16 g18 l8 l9 l16 l18 := ⟨h.gx.below hb, h.b16.below hb, h.b18.below hb, h.h16, h.h18⟩
theorem GY.drew (h : GY w X s g16 g18 l8 l9 l16 l18) : GY w X.drew s g16 g18 l8 l9 l16 l18 := ⟨⟨h.gx.bel.drew, h.gx.b5.drew, h.gx.b8.drew, h.gx.b9.drew⟩, h.b16.drew, h.b18.drew, h.h16, h.h18⟩
theorem GY.set8 {x0 x1 : Value} (h : GY w X s g16 g18 [x0, x1] l9 l16 l18) (u0 u1 : Value) : GY w ((X.setCell ⟨w.heap.size + 1, 0, none⟩ (u0)).setCell ⟨w.heap.size + 1, 1, none⟩ (u1)) s g16 g18 [u0, u1] l9 l16 l18 :=
  have := h.h16
  have := h.h18
  ⟨⟨below_set2 h.gx.bel (by omega) _ _, h.gx.b5.oth2 (by omega) _ _, h.gx.b8.all2 _ _, h.gx.b9.oth2 (by omega) _ _⟩, h.b16.oth2 (by omega) _ _, h.b18.oth2 (by omega) _ _, h.h16, h.h18⟩
theorem GY.set9 {a0 a1 a2 a3 a4 a5 a6 a7 : Value} (h : GY w X s g16 g18 l8 [a0, a1, a2, a3, a4, a5, a6, a7] l16 l18) (v0 v1 v2 v3 v4 v5 v6 v7 : Value) : GY w ((((((((X.setCell ⟨w.heap.size + 1 + 1, 0, none⟩ (v0)).setCell ⟨w.heap.size + 1 + 1, 1, none⟩ (v1)).setCell ⟨w.heap.size + 1 + 1, 2, none⟩ (v2)).setCell ⟨w.heap.size + 1 + 1, 3, none⟩ (v3)).setCell ⟨w.heap.size + 1 + 1, 4, none⟩ (v4)).setCell ⟨w.heap.size + 1 + 1, 5, none⟩ (v5)).setCell ⟨w.heap.size + 1 + 1, 6, none⟩ (v6)).setCell ⟨w.heap.size + 1 + 1, 7, none⟩ (v7)) s g16 g18 l8 [v0, v1, v2, v3, v4, v5, v6, v7] l16 l18 :=
  have := h.h16
  have := h.h18
  ⟨⟨below_set8 h.gx.bel (by omega) _ _ _ _ _ _ _ _, h.gx.b5.oth8 (by omega) _ _ _ _ _ _ _ _, h.gx.b8.oth8 (by omega) _ _ _ _ _ _ _ _, h.gx.b9.all8 _ _ _ _ _ _ _ _⟩, h.b16.oth8 (by omega) _ _ _ _ _ _ _ _, h.b18.oth8 (by omega) _ _ _ _ _ _ _ _, h.h16, h.h18⟩
theorem GY.cells {a b c d e : Value} (h : GY w X s g16 g18 l8 l9 [c, d, e] [a, b]) : (X.cell? ⟨w.heap.size, 0, none⟩ = some (.int .i64 (s.n : Int)) ∧ X.cell? ⟨w.heap.size, 1, none⟩ = some (.int .i64 s.t) ∧ X.cell? ⟨w.heap.size, 2, none⟩ = some (.int .i64 s.d) ∧ X.cell? ⟨w.heap.size, 3, none⟩ = some (.int .u64 (s.v : Int)) ∧ X.cell? ⟨w.heap.size, 4, none⟩ = some (.int .u64 (s.e : Int)) ∧ X.cell? ⟨w.heap.size, 5, none⟩ = some (.int .u64 (s.x.prev : Int)) ∧ X.cell? ⟨w.heap.size, 6, none⟩ = some (.int .i64 (s.x.lead : Int)) ∧ X.cell? ⟨w.heap.size, 7, none⟩ = some (.int .i64 (s.x.len : Int))) ∧ (X.cell? ⟨g16, 0, none⟩ = some (c) ∧ X.cell? ⟨g16, 1, none⟩ = some (d) ∧ X.cell? ⟨g16, 2, none⟩ = some (e)) ∧ (X.cell? ⟨g18, 0, none⟩ = some (a) ∧ X.cell? ⟨g18, 1, none⟩ = some (b)) := ⟨h.gx.b5.get8, h.b16.get3, h.b18.get2⟩
end

set_option maxRecDepth 20000 in
set_option maxHeartbeats 4000000 in
theorem get_last (k : Nat) (s : KS) (A : Option Addr) (m c : Nat) (a : Int) (w : World) (hk : k = 1 ∨ k = 2) (hn : s.n ≤ 1000000) (t : Int) (n v : Nat) (y : XS) (j : Nat) (hs1 : -9223372036854775808 ≤ a + (n : Int)) (hs2 : a + (n : Int) ≤ 9223372036854775807) (hnj : n ≤ 1000 ∧ j ≤ 1000)
    (hGT : ∀ X, Below w.heap.size w X → Calls Tryd.prog 30 #[(.agg #[.int .i64 (s.n : Int), .int .i64 s.t, .int .i64 s.d, .int .u64 (s.v : Int), .int .u64 (s.e : Int), .int .u64 (s.x.prev : Int), .int .i64 (s.x.lead : Int), .int .i64 (s.x.len : Int)]), .slice A m c, .int .i64 a] X fun f X' => f = .returned (.tuple #[.int .i64 t, .int .i64 (n : Int), .nilIface]) ∧ Below X.heap.size X X')
    (hGV : ∀ X, Below w.heap.size w X → Calls Tryd.prog 31 #[.int .i64 (k : Int), (.agg #[.int .i64 (s.n : Int), .int .i64 s.t, .int .i64 s.d, .int .u64 (s.v : Int), .int .u64 (s.e : Int), .int .u64 (s.x.prev : Int), .int .i64 (s.x.lead : Int), .int .i64 (s.x.len : Int)]), .slice A m c, .int .i64 (a + (n : Int))] X fun f X' => f = .returned (.tuple #[.int .u64 (v : Int), (.agg #[.int .u64 (y.prev : Int), .int .i64 (y.lead : Int), .int .i64 (y.len : Int)]), .int .i64 (j : Int), .nilIface]) ∧ Below X.heap.size X X') :
    Calls Tryd.prog 13 #[.int .i64 (k : Int), (.agg #[.int .i64 (s.n : Int), .int .i64 s.t, .int .i64 s.d, .int .u64 (s.v : Int), .int .u64 (s.e : Int), .int .u64 (s.x.prev : Int), .int .i64 (s.x.lead : Int), .int .i64 (s.x.len : Int)]), .slice A m c, .int .i64 a] w fun f w' =>
      ((risesK s t = false ∧ f = .returned (.tuple #[.agg #[.int .i64 0, .int .u64 0], (.agg #[.int .i64 0, .int .i64 0, .int .i64 0, .int .u64 0, .int .u64 0, .int .u64 0, .int .i64 0, .int .i64 0]), .int .i64 0, .iface 58 (.int .i64 4)])) ∨
      (risesK s t = true ∧ f = .returned (.tuple #[(.agg #[.int .i64 t, .int .u64 (v : Int)]), (.agg #[.int .i64 ((afterK k s t v y).n : Int), .int .i64 (afterK k s t v y).t, .int .i64 (afterK k s t v y).d, .int .u64 ((afterK k s t v y).v : Int), .int .u64 ((afterK k s t v y).e : Int), .int .u64 ((afterK k s t v y).x.prev : Int), .int .i64 ((afterK k s t v y).x.lead : Int), .int .i64 ((afterK k s t v y).x.len : Int)]), .int .i64 ((n : Int) + (j : Int)), .nilIface]))) ∧ Below w.heap.size w w' := by
  have hX := gworld_is w s
  have hRS := fun w => rises_any s t v w
  have hAF := fun w => after_any k s t v y w hk hn
  generalize afterK k s t v y = s' at *
  obtain ⟨rb, hrb⟩ : ∃ rb, risesK s t = rb := ⟨_, rfl⟩
  rw [hrb] at hRS ⊢
  clear hrb
  go_enter Tryd.func13, Tryd.ntmps13
  go_wp2_with fail
  change Calls _ _ _ (gworld w s) _
  generalize gworld w s = W at *
  refine (known_yes k _ hk).mono ?_
  rintro e' w1 ⟨rfl, rfl⟩
  obtain ⟨q0, q1, q2, q3, q4, q5, q6, q7⟩ := hX.b5.get8
  go_wp2_with fail
  refine (hGT _ hX.bel).mono ?_
  rintro e' w1 ⟨rfl, hb1⟩
  replace hX := hX.below hb1
  clear q0 q1 q2 q3 q4 q5 q6 q7 hb1 hGT
  obtain ⟨q0, q1, q2, q3, q4, q5, q6, q7⟩ := hX.b5.get8
  go_wp2_with fail
  refine (hGV _ hX.bel).mono ?_
  rintro e' w2 ⟨rfl, hb2⟩
  have b16 := BoxL.new w2 [.int .u64 (y.prev : Int), .int .i64 (y.lead : Int), .int .i64 (y.len : Int)] 27
  have h16 := (hX.below hb2).b9.lt
  replace hX := hX.below (hb2.trans ((Below.refl _ _).alloc hb2.size (.cells #[.int .u64 (y.prev : Int), .int .i64 (y.lead : Int), .int .i64 (y.len : Int)] 27)))
  clear q0 q1 q2 q3 q4 q5 q6 q7 hb2 hGV
  go_upto_region 7 with fail
  generalize w2.alloc (.cells #[.int .u64 (y.prev : Int), .int .i64 (y.lead : Int), .int .i64 (y.len : Int)] 27) = W2 at *
  generalize w2.heap.size = g16 at *
  go_upto_region 10 with fail
  have b18 := BoxL.new W2 [.int .i64 t, .int .u64 (v : Int)] 40
  have gy := GY.mk (hX.below ((Below.refl _ _).alloc (Nat.le_refl _) (.cells #[.int .i64 t, .int .u64 (v : Int)] 40))) (b16.onA (.cells #[.int .i64 t, .int .u64 (v : Int)] 40)) b18 h16 hX.b9.lt
  clear hX b16 b18 h16
  generalize W2.alloc (.cells #[.int .i64 t, .int .u64 (v : Int)] 40) = W3 at *
  generalize W2.heap.size = g18 at *
  obtain ⟨q0, q1, q2, q3, q4, q5, q6, q7⟩ := gy.gx.b5.get8
  obtain ⟨z0, z1⟩ := gy.b18.get2
  go_wp2_with fail
  refine (hRS _).mono ?_
  rintro e' w3 ⟨rfl, hb3⟩
  replace gy := gy.below hb3
  clear q0 q1 q2 q3 q4 q5 q6 q7 z0 z1 hb3 hRS
  cases rb
  · obtain ⟨a0, a1⟩ := gy.gx.b8.get2
    obtain ⟨af0, af1⟩ := gy.gx.b8.free2
    obtain ⟨d0, d1, d2, d3, d4, d5, d6, d7⟩ := gy.gx.b9.get8
    obtain ⟨df0, df1, df2, df3, df4, df5, df6, df7⟩ := gy.gx.b9.free8
    go_wp2
    have hY := gy.gx.zero (.int .i64 0) (.int .u64 0) (.int .i64 0) (.int .i64 0) (.int .i64 0) (.int .u64 0) (.int .u64 0) (.int .u64 0) (.int .i64 0) (.int .i64 0)
    clear a0 a1 af0 af1 d0 d1 d2 d3 d4 d5 d6 d7 df0 df1 df2 df3 df4 df5 df6 df7 gy
    generalize ((((((((((w3.setCell ⟨w.heap.size + 1, 0, none⟩ (.int .i64 0)).setCell ⟨w.heap.size + 1, 1, none⟩ (.int .u64 0)).setCell ⟨w.heap.size + 1 + 1, 0, none⟩ (.int .i64 0)).setCell ⟨w.heap.size + 1 + 1, 1, none⟩ (.int .i64 0)).setCell ⟨w.heap.size + 1 + 1, 2, none⟩ (.int .i64 0)).setCell ⟨w.heap.size + 1 + 1, 3, none⟩ (.int .u64 0)).setCell ⟨w.heap.size + 1 + 1, 4, none⟩ (.int .u64 0)).setCell ⟨w.heap.size + 1 + 1, 5, none⟩ (.int .u64 0)).setCell ⟨w.heap.size + 1 + 1, 6, none⟩ (.int .i64 0)).setCell ⟨w.heap.size + 1 + 1, 7, none⟩ (.int .i64 0)) = X at *
    obtain ⟨a0, a1⟩ := hY.b8.get2
    obtain ⟨d0, d1, d2, d3, d4, d5, d6, d7⟩ := hY.b9.get8
    refine bodyPost_ret (v := .tuple #[.agg #[.int .i64 0, .int .u64 0], (.agg #[.int .i64 0, .int .i64 0, .int .i64 0, .int .u64 0, .int .u64 0, .int .u64 0, .int .i64 0, .int .i64 0]), .int .i64 0, .iface 58 (.int .i64 4)]) ?_ rfl ⟨rfl, hY.bel⟩
    simp [results, Tryd.results13, go_sem, a0, a1, d0, d1, d2, d3, d4, d5, d6, d7]
  · go_upto_region 12 with fail
    replace gy := gy.drew
    go_cut [10, 11] (fun x10 x11 wx => x10 = .int .i64 ((n : Int) + (j : Int)) ∧ x11 = .nilIface ∧ GX w wx s [.int .i64 t, .int .u64 (v : Int)] [.int .i64 (s'.n : Int), .int .i64 s'.t, .int .i64 s'.d, .int .u64 (s'.v : Int), .int .u64 (s'.e : Int), .int .u64 (s'.x.prev : Int), .int .i64 (s'.x.lead : Int), .int .i64 (s'.x.len : Int)])
    case first =>
      have px := gy
      clear gy
      have q0 := px.cells
      obtain ⟨u60, u61⟩ := px.gx.b8.get2
      obtain ⟨v60, v61⟩ := px.gx.b8.free2
      obtain ⟨u70, u71, u72, u73, u74, u75, u76, u77⟩ := px.gx.b9.get8
      obtain ⟨v70, v71, v72, v73, v74, v75, v76, v77⟩ := px.gx.b9.free8
      have hj : IntKind.i64.wrap ((n : Int) + (j : Int)) = (n : Int) + (j : Int) := by rw [IntKind.wrap_i64]; omega
      go_region_held3 (fun w' => (w'.cell? ⟨w.heap.size, 0, none⟩ = some (.int .i64 (s.n : Int)) ∧ w'.cell? ⟨w.heap.size, 1, none⟩ = some (.int .i64 s.t) ∧ w'.cell? ⟨w.heap.size, 2, none⟩ = some (.int .i64 s.d) ∧ w'.cell? ⟨w.heap.size, 3, none⟩ = some (.int .u64 (s.v : Int)) ∧ w'.cell? ⟨w.heap.size, 4, none⟩ = some (.int .u64 (s.e : Int)) ∧ w'.cell? ⟨w.heap.size, 5, none⟩ = some (.int .u64 (s.x.prev : Int)) ∧ w'.cell? ⟨w.heap.size, 6, none⟩ = some (.int .i64 (s.x.lead : Int)) ∧ w'.cell? ⟨w.heap.size, 7, none⟩ = some (.int .i64 (s.x.len : Int))) ∧ (w'.cell? ⟨g16, 0, none⟩ = some (.int .u64 (y.prev : Int)) ∧ w'.cell? ⟨g16, 1, none⟩ = some (.int .i64 (y.lead : Int)) ∧ w'.cell? ⟨g16, 2, none⟩ = some (.int .i64 (y.len : Int))) ∧ (w'.cell? ⟨g18, 0, none⟩ = some (.int .i64 t) ∧ w'.cell? ⟨g18, 1, none⟩ = some (.int .u64 (v : Int))))
        (with_reducible first | exact px.cells | exact (px.set8 _ _).cells | exact (px.set9 _ _ _ _ _ _ _ _).cells | exact ((px.set8 _ _).set9 _ _ _ _ _ _ _ _).cells | exact ((px.set9 _ _ _ _ _ _ _ _).set8 _ _).cells) (first
        | (go_at_call 11; (with_reducible refine (hAF _).mono ?_); rintro e w7 ⟨rfl, HB⟩; (with_reducible first | replace px := px.below HB | replace px := (px.set8 _ _).below HB); clear HB u60 u61 v60 v61 u70 u71 u72 u73 u74 u75 u76 u77 v70 v71 v72 v73 v74 v75 v76 v77; obtain ⟨u60, u61⟩ := px.gx.b8.get2; obtain ⟨v60, v61⟩ := px.gx.b8.free2; obtain ⟨u70, u71, u72, u73, u74, u75, u76, u77⟩ := px.gx.b9.get8; obtain ⟨v70, v71, v72, v73, v74, v75, v76, v77⟩ := px.gx.b9.free8))
      all_goals
        clear q0 u60 u61 v60 v61 u70 u71 u72 u73 u74 u75 u76 u77 v70 v71 v72 v73 v74 v75 v76 v77 hAF
        go_wp2_with fail
        go_meet
        with_reducible first
          | exact ⟨rfl, rfl, (px.set9 _ _ _ _ _ _ _ _).gx⟩
          | exact ⟨rfl, rfl, ((px.set8 _ _).set9 _ _ _ _ _ _ _ _).gx⟩
          | exact ⟨rfl, rfl, ((px.set9 _ _ _ _ _ _ _ _).set8 _ _).gx⟩
    case rest =>
      obtain ⟨rfl, rfl, hY⟩ := hcut
      obtain ⟨a0, a1⟩ := hY.b8.get2
      obtain ⟨d0, d1, d2, d3, d4, d5, d6, d7⟩ := hY.b9.get8
      go_wp2
      refine bodyPost_ret (v := .tuple #[(.agg #[.int .i64 t, .int .u64 (v : Int)]), (.agg #[.int .i64 (s'.n : Int), .int .i64 s'.t, .int .i64 s'.d, .int .u64 (s'.v : Int), .int .u64 (s'.e : Int), .int .u64 (s'.x.prev : Int), .int .i64 (s'.x.lead : Int), .int .i64 (s'.x.len : Int)]), .int .i64 ((n : Int) + (j : Int)), .nilIface]) ?_ rfl ⟨rfl, hY.bel⟩
      simp [results, Tryd.results13, go_sem, a0, a1, d0, d1, d2, d3, d4, d5, d6, d7]

theorem get_any (k : Nat) (A : Option Addr) (m c B : Nat) (bs : List Nat) (a : Int) (s : KS) (w : World) (hk : k = 1 ∨ k = 2) (h : Rd w B A m c bs) (hB : B ≤ w.heap.size) (hb : ∀ x ∈ bs, x < 256) (hm : m ≤ 100000)
    (ha : -9223372036854775808 ≤ a ∧ a ≤ 9223372036854775807) (hs : s.May) (hn : s.n ≤ 1000000) (hR : RoomW w) (hT : TzW w) :
    Calls Tryd.prog 13 #[.int .i64 (k : Int), (.agg #[.int .i64 (s.n : Int), .int .i64 s.t, .int .i64 s.d, .int .u64 (s.v : Int), .int .u64 (s.e : Int), .int .u64 (s.x.prev : Int), .int .i64 (s.x.lead : Int), .int .i64 (s.x.len : Int)]), .slice A m c, .int .i64 a] w (RetG8 w k s (restL bs a)) := by
  have hl := h.len
  have hk' : ∀ X, Below w.heap.size w X → Rd X B A m c bs ∧ B ≤ X.heap.size := fun X hX => ⟨h.keep fun _ hp => hX.cell (Nat.lt_of_lt_of_le hp hB), Nat.le_trans hB hX.size⟩
  by_cases h0 : s.n = 0
  · have hz : risesK s (sgnN (num (cut (restL bs a) 0 64)) 64) = true := by unfold risesK; simp [h0]
    have hF : firstK k s (restL bs a) = firstK k s (restL bs a) := rfl
    by_cases h1 : 64 ≤ (restL bs a).length
    · have hGT : ∀ X, Below w.heap.size w X → Calls Tryd.prog 30 #[(.agg #[.int .i64 (s.n : Int), .int .i64 s.t, .int .i64 s.d, .int .u64 (s.v : Int), .int .u64 (s.e : Int), .int .u64 (s.x.prev : Int), .int .i64 (s.x.lead : Int), .int .i64 (s.x.len : Int)]), .slice A m c, .int .i64 a] X fun f X' => f = .returned (.tuple #[.int .i64 (sgnN (num (cut (restL bs a) 0 64)) 64), .int .i64 ((64 : Nat) : Int), .nilIface]) ∧ Below X.heap.size X X' := fun X hX =>
        (gettime_first A m c B bs a s X (hk' X hX).1 (hk' X hX).2 hb hm ha h0).mono fun f X' ⟨h2, h3⟩ => ⟨by
          rcases h2 with ⟨_, h2⟩ | ⟨h2, _⟩
          · exact h2
          · omega, h3⟩
      obtain ⟨g1, g2, g3⟩ := rest_more (bs := bs) (a := a) (n := 64) (by omega) h1
      by_cases h2 : 128 ≤ (restL bs a).length
      · have hGV : ∀ X, Below w.heap.size w X → Calls Tryd.prog 31 #[.int .i64 (k : Int), (.agg #[.int .i64 (s.n : Int), .int .i64 s.t, .int .i64 s.d, .int .u64 (s.v : Int), .int .u64 (s.e : Int), .int .u64 (s.x.prev : Int), .int .i64 (s.x.lead : Int), .int .i64 (s.x.len : Int)]), .slice A m c, .int .i64 (a + ((64 : Nat) : Int))] X fun f X' => f = .returned (.tuple #[.int .u64 ((num (cut (restL bs a) 64 64) : Nat) : Int), (.agg #[.int .u64 (zeroX.prev : Int), .int .i64 (zeroX.lead : Int), .int .i64 (zeroX.len : Int)]), .int .i64 ((64 : Nat) : Int), .nilIface]) ∧ Below X.heap.size X X' := fun X hX =>
          (getvalue_first k A m c B bs _ s X (hk' X hX).1 (hk' X hX).2 hb hm (by omega) h0).mono fun f X' ⟨h3, h4⟩ => ⟨by
            rw [g3, List.length_drop, cut_drop] at h3
            rcases h3 with ⟨_, h3⟩ | ⟨h3, _⟩
            · exact h3
            · omega, h4⟩
        refine (get_last k s A m c a w hk hn _ 64 _ zeroX 64 (by omega) (by omega) (by omega) hGT hGV).mono fun f w' ⟨h3, h4⟩ => ?_
        rcases h3 with ⟨h3, _⟩ | ⟨_, h3⟩
        · rw [hz] at h3; cases h3
        · refine ⟨firstK k s (restL bs a), .inl ⟨h0, rfl⟩, ?_, h4⟩
          unfold firstK
          rw [if_neg (by omega)]
          exact h3
      · have hGV : ∀ X, Below w.heap.size w X → Calls Tryd.prog 31 #[.int .i64 (k : Int), (.agg #[.int .i64 (s.n : Int), .int .i64 s.t, .int .i64 s.d, .int .u64 (s.v : Int), .int .u64 (s.e : Int), .int .u64 (s.x.prev : Int), .int .i64 (s.x.lead : Int), .int .i64 (s.x.len : Int)]), .slice A m c, .int .i64 (a + ((64 : Nat) : Int))] X fun f X' => f = .returned (.tuple #[.int .u64 0, (.agg #[.int .u64 (zeroX.prev : Int), .int .i64 (zeroX.lead : Int), .int .i64 (zeroX.len : Int)]), .int .i64 0, errV 2]) ∧ Below X.heap.size X X' := fun X hX =>
          (getvalue_first k A m c B bs _ s X (hk' X hX).1 (hk' X hX).2 hb hm (by omega) h0).mono fun f X' ⟨h3, h4⟩ => ⟨by
            rw [g3, List.length_drop, cut_drop] at h3
            rcases h3 with ⟨h3, _⟩ | ⟨_, h3⟩
            · omega
            · exact h3, h4⟩
        refine (get_verr k s A m c a w hk _ 64 _ zeroX _ 2 (by omega) (by omega) (by omega) hGT hGV).mono fun f w' ⟨h3, h4⟩ => ?_
        refine ⟨firstK k s (restL bs a), .inl ⟨h0, rfl⟩, ?_, h4⟩
        unfold firstK
        rw [if_pos (by omega)]
        exact h3
    · have hGT : ∀ X, Below w.heap.size w X → Calls Tryd.prog 30 #[(.agg #[.int .i64 (s.n : Int), .int .i64 s.t, .int .i64 s.d, .int .u64 (s.v : Int), .int .u64 (s.e : Int), .int .u64 (s.x.prev : Int), .int .i64 (s.x.lead : Int), .int .i64 (s.x.len : Int)]), .slice A m c, .int .i64 a] X fun f X' => f = .returned (.tuple #[.int .i64 0, .int .i64 0, errV 2]) ∧ Below X.heap.size X X' := fun X hX =>
        (gettime_first A m c B bs a s X (hk' X hX).1 (hk' X hX).2 hb hm ha h0).mono fun f X' ⟨h2, h3⟩ => ⟨by
          rcases h2 with ⟨h2, _⟩ | ⟨_, h2⟩
          · omega
          · exact h2, h3⟩
      refine (get_terr k s A m c a w hk _ _ 2 (by omega) hGT).mono fun f w' ⟨h3, h4⟩ => ?_
      refine ⟨firstK k s (restL bs a), .inl ⟨h0, rfl⟩, ?_, h4⟩
      unfold firstK
      rw [if_pos (by omega)]
      exact h3
  · obtain ⟨st, n, e, hd⟩ := dgets_is (restL bs a)
    obtain ⟨v, y, j, e2, hv⟩ := vgets_is k s ((restL bs a).drop n)
    have hK : KGets k s (restL bs a) (laterK k s st n e v y j e2) := .inr ⟨h0, st, n, e, v, y, j, e2, hd, hv, rfl⟩
    have hGT : ∀ X, Below w.heap.size w X → Calls Tryd.prog 30 #[(.agg #[.int .i64 (s.n : Int), .int .i64 s.t, .int .i64 s.d, .int .u64 (s.v : Int), .int .u64 (s.e : Int), .int .u64 (s.x.prev : Int), .int .i64 (s.x.lead : Int), .int .i64 (s.x.len : Int)]), .slice A m c, .int .i64 a] X fun f X' => f = .returned (.tuple #[.int .i64 (w64 (s.t + s.d + st)), .int .i64 (n : Int), errV e]) ∧ Below X.heap.size X X' := fun X hX =>
      (gettime_later A m c B bs a s X (hk' X hX).1 (hk' X hX).2 hb hm ha h0 (hR.bel hX)).mono fun f X' ⟨st', n', k', h1, h2, h3⟩ => by
        obtain ⟨rfl, rfl, rfl⟩ := hd.same h1
        exact ⟨h2, h3⟩
    by_cases he : e = 0
    · subst he
      have p1 := dgets_back hd
      have c1 := (codeD_pos st).1
      rw [p1.1, List.length_take] at c1
      obtain ⟨g1, g2, g3⟩ := rest_more (bs := bs) (a := a) (n := n) (by omega) p1.2
      have hGV : ∀ X, Below w.heap.size w X → Calls Tryd.prog 31 #[.int .i64 (k : Int), (.agg #[.int .i64 (s.n : Int), .int .i64 s.t, .int .i64 s.d, .int .u64 (s.v : Int), .int .u64 (s.e : Int), .int .u64 (s.x.prev : Int), .int .i64 (s.x.lead : Int), .int .i64 (s.x.len : Int)]), .slice A m c, .int .i64 (a + (n : Int))] X fun f X' => f = .returned (.tuple #[.int .u64 (v : Int), (.agg #[.int .u64 (y.prev : Int), .int .i64 (y.lead : Int), .int .i64 (y.len : Int)]), .int .i64 (j : Int), errV e2]) ∧ Below X.heap.size X X' := fun X hX =>
        (getvalue_later k A m c B bs _ s X hk (hk' X hX).1 (hk' X hX).2 hb hm (by omega) h0 hs (hR.bel hX) (hT.bel hX)).mono fun f X' ⟨v', y', m', e', h1, h2, h3⟩ => by
          rw [g3] at h1
          obtain ⟨rfl, rfl, rfl, rfl⟩ := hv.same h1
          exact ⟨h2, h3⟩
      by_cases he2 : e2 = 0
      · subst he2
        have i1 := gets_in hd
        have i2 := vgets_in hs hv
        refine (get_last k s A m c a w hk hn _ n v y j (by omega) (by omega) (by omega) hGT hGV).mono fun f w' ⟨h3, h4⟩ => ⟨_, hK, ?_, h4⟩
        unfold laterK
        rw [if_neg (by omega), if_neg (by omega)]
        rcases h3 with ⟨h3, h5⟩ | ⟨h3, h5⟩
        · rw [if_pos (by unfold risesK at h3; simp [h0] at h3; exact h3)]
          exact h5
        · rw [if_neg (by unfold risesK at h3; simp [h0] at h3; omega)]
          rw [h5]
          simp only [errV_zero]
          exact congrArg (fun z => Ending.returned (.tuple #[_, _, .int .i64 z, _])) (by omega)
      · refine (get_verr k s A m c a w hk _ n _ y _ e2 he2 (by omega) (by omega) hGT hGV).mono fun f w' ⟨h3, h4⟩ => ⟨_, hK, ?_, h4⟩
        unfold laterK
        rw [if_neg (by omega), if_pos he2]
        exact h3
    · refine (get_terr k s A m c a w hk _ _ e he hGT).mono fun f w' ⟨h3, h4⟩ => ⟨_, hK, ?_, h4⟩
      unfold laterK
      rw [if_pos he]
      exact h3

end Go.Proofs.YtcnhoohcdkfgkaaDoor
