/-
  Texts of this proof, one behind the other: XorTake, XorGet1, XorGet2, XorGet.
-/
import Derived.Test.YtaebljoacffghaaGreatDoorXorsG
import Derived.Test.YtaebljoacffghaaGreatDoorGets
import Derived.Test.YtaebljoacffghaaGreatDoorWords
import Derived.Deep.RegionHeld3
import Derived.BigRegion
import Derived.Deep.DeepCutAuto

/-
  The contract of layer 7's takeWindow.
-/
namespace Go.Proofs.YtaebljoacffghaaGreatDoor
open Go.RowKit

set_option maxRecDepth 20000 in
set_option maxHeartbeats 400000 in
theorem takewin_any (A : Option Addr) (m c B : Nat) (bs : List Nat) (at_ p a n : Nat) (w : World) (h : Rd w B A m c bs) (hB : B ≤ w.heap.size) (hb : ∀ x ∈ bs, x < 256) (hm : m ≤ 140737488355328) (ha : at_ ≤ 2251799813685248) (han : a + n ≤ 64) :
    Calls Tryz.prog 152 #[.slice A m c, .int .i64 (at_ : Int), .agg #[.int .u64 (p : Int), .int .i64 (a : Int), .int .i64 (n : Int)]] w
      fun e w' => e = .returned (.tuple #[.int .u64 ((takeN bs at_ n * 2 ^ (64 - a - n) : Nat) : Int), .bool (takeB bs at_ n)]) ∧ Below w.heap.size w w' := by
  have hlo := fun w => xlow_any p a n w han
  obtain ⟨k, hk⟩ : ∃ k, 64 - a - n = k := ⟨_, rfl⟩
  have hy : takeN bs at_ n * 2 ^ k ≤ 18446744073709551615 := by
    have h1 : takeN bs at_ n < 2 ^ n := by
      unfold takeN
      split
      · exact num_cut_lt _ _ _
      · exact Nat.pow_pos (by omega)
    rw [← hk]
    exact (word_in han h1).2.1
  rw [hk] at hlo ⊢
  have hT : ∀ w : World, Rd w B A m c bs → Calls Tryz.prog 110 #[.slice A m c, .int .i64 (at_ : Int), .int .i64 (n : Int)] w fun e w' => e = .returned (.tuple #[.int .u64 ((takeN bs at_ n : Nat) : Int), .bool (takeB bs at_ n)]) ∧ w = w' :=
    fun w h => take_all A m c B bs at_ n w h hb hm (by omega) (by omega)
  generalize takeN bs at_ n = y at *
  generalize takeB bs at_ n = f at *
  go_enter Tryz.func152, Tryz.ntmps152
  go_wp2_with fail
  have hb1 : Below w.heap.size w (w.alloc (.cells #[.int .u64 (p : Int), .int .i64 (a : Int), .int .i64 (n : Int)] 149)) := (Below.refl _ _).alloc (Nat.le_refl _) _
  refine (hT _ (h.below (hb1.mono hB))).mono ?_
  rintro e w1 ⟨rfl, rfl⟩
  go_wp2_with fail
  refine (hlo _).mono ?_
  rintro e w2 ⟨rfl, hb2⟩
  have hw : IntKind.u64.wrap ((y : Int) * 2 ^ k) = ((y * 2 ^ k : Nat) : Int) := by
    rw [← wrap_u64 _ hy]; simp
  go_wp2
  go_ret2
  exact ⟨rfl, hb1.trans (hb2.mono hb1.size)⟩

end Go.Proofs.YtaebljoacffghaaGreatDoor

/-
  The contracts of layer 7's behindOld, behindNew: the state behind a code that begins with 10, with 11.
-/
namespace Go.Proofs.YtaebljoacffghaaGreatDoor
open Go.RowKit

/-- what behind comes to -/
def RetXB (w : World) (r : XA) (e : Ending) (w' : World) : Prop :=
  e = .returned (.tuple #[.agg #[.int .u64 (r.s.prev : Int), .int .i64 (r.s.lead : Int), .int .i64 (r.s.len : Int)], .int .i64 (r.n : Int), errV r.e]) ∧ Below w.heap.size w w'

theorem below_set3 {w0 w : World} (h : Below w0.heap.size w0 w) {g : Nat} (hg : w0.heap.size ≤ g) (x y z : Value) : Below w0.heap.size w0 (((w.setCell ⟨g, 0, none⟩ x).setCell ⟨g, 1, none⟩ y).setCell ⟨g, 2, none⟩ z) :=
  ((h.setCell hg x).setCell hg y).setCell hg z

theorem Box3.set0 {w : World} {b : Nat} {s n t : Value} (h : Box3 w b s n t) (s' : Value) : Box3 (w.setCell ⟨b, 0, none⟩ s') b s' n t := by
  have c0 := h.c0
  have c1 := h.c1
  have c2 := h.c2
  have f0 := h.f0
  have f1 := h.f1
  have f2 := h.f2
  refine ⟨by simpa using h.lt, ?_, ?_, ?_, ?_, ?_, ?_⟩ <;> go_simp

/-- what bits that begin with 10 begin with -/
theorem old_is {p a n : Nat} {q : List Bool} (hs : XS.May ⟨p, a, n⟩) (h0 : q.getD 0 false = true) (h1 : q.getD 1 false = false) :
    tailX ⟨p, a, n⟩ q 2 a n = if n = 0 then badX 3 else if q.length < 2 + n then badX 2 else if wordX q 2 a n = 0 then badX 3 else ⟨p ^^^ wordX q 2 a n, ⟨p ^^^ wordX q 2 a n, a, n⟩, 2 + n, 0⟩ := by
  have hb := hs.b
  simp only at hb
  unfold tailX
  by_cases hn : n = 0
  · rw [if_pos (.inl hn), if_pos hn]
  · rw [if_neg (by omega), if_neg hn]
    by_cases hl : q.length < 2 + n
    · rw [if_pos hl, if_pos hl]
    · rw [if_neg hl, if_neg hl]
      exact old_test hs h0 h1 hn (by simp only; omega)
/-- a window's bits from a place on are there, or not -/
theorem win_rest {bs : List Nat} {t j a n : Nat} (h : t ≤ 8 * bs.length) (han : a + n ≤ 64) :
    takeB bs (t + j : Nat) n = decide (j + n ≤ (restL bs t).length) ∧ (j + n ≤ (restL bs t).length → takeN bs (t + j : Nat) n * 2 ^ (64 - a - n) = wordX (restL bs t) j a n) := by
  obtain ⟨h1, h2⟩ := take_rest (bs := bs) (a := t) (j := j) (n := n) h (by omega)
  exact ⟨h1, fun hl => by rw [h2 hl]; rfl⟩

set_option maxRecDepth 20000 in
set_option maxHeartbeats 1000000 in
theorem bold_any (A : Option Addr) (m c B : Nat) (bs : List Nat) (t p a n : Nat) (w : World) (h : Rd w B A m c bs) (hB : B ≤ w.heap.size) (hb : ∀ x ∈ bs, x < 256) (hm : m ≤ 140737488355328) (ht : t ≤ 8 * m)
    (hs : XS.May ⟨p, a, n⟩) (h0 : (restL bs t).getD 0 false = true) (h1 : (restL bs t).getD 1 false = false) :
    Calls Tryz.prog 144 #[.agg #[.int .u64 (p : Int), .int .i64 (a : Int), .int .i64 (n : Int)], .slice A m c, .int .i64 (t : Int)] w (RetXB w (tailX ⟨p, a, n⟩ (restL bs t) 2 a n)) := by
  have han : a + n ≤ 64 := hs.b
  have hp : p ≤ 18446744073709551615 := hs.p
  rw [old_is hs h0 h1]
  obtain ⟨hw1, hw2⟩ := win_rest (bs := bs) (t := t) (j := 2) (a := a) (n := n) (by have := h.len; omega) han
  have hwl := wordX_le (restL bs t) (h := 2) han
  have HW1 := Lib.hid hw1
  have HW2 := Lib.hid hw2
  clear hw1 hw2 h0 h1 hs
  have hT := fun (w : World) (h : Rd w B A m c bs) (hB : B ≤ w.heap.size) => takewin_any A m c B bs (t + 2) p a n w h hB hb hm (by omega) han
  generalize restL bs t = q at *
  generalize wordX q 2 a n = x at *
  by_cases hn : n = 0
  · have HR : Hid ((if n = 0 then badX 3 else if q.length < 2 + n then badX 2 else if x = 0 then badX 3 else ⟨p ^^^ x, ⟨p ^^^ x, a, n⟩, 2 + n, 0⟩ : XA) = badX 3) := Lib.hid (if_pos hn)
    rw [HR.out]
    subst hn
    go_enter Tryz.func144, Tryz.ntmps144
    go_wp2
    go_returns
    exact ⟨rfl, two_below _ _ _⟩
  · have hd : ((n : Int) == 0) = false := by simp; omega
    by_cases hl : q.length < 2 + n
    · have HR : Hid ((if n = 0 then badX 3 else if q.length < 2 + n then badX 2 else if x = 0 then badX 3 else ⟨p ^^^ x, ⟨p ^^^ x, a, n⟩, 2 + n, 0⟩ : XA) = badX 2) := Lib.hid (by rw [if_neg hn, if_pos hl])
      rw [HR.out]
      have H1 : Hid (takeB bs (t + 2 : Nat) n = false) := Lib.hid (HW1.out.trans (decide_eq_false (by omega)))
      rw [H1.out] at hT
      generalize takeN bs (t + 2 : Nat) n * 2 ^ (64 - a - n) = y at *
      have hb0 := two_below w (.cells #[.int .u64 (p : Int), .int .i64 (a : Int), .int .i64 (n : Int)] 149) (.cells #[.int .u64 0, .int .i64 0, .int .i64 0] 149)
      have b6 := Box3.new (w.alloc (.cells #[.int .u64 (p : Int), .int .i64 (a : Int), .int .i64 (n : Int)] 149)) (.int .u64 0) (.int .i64 0) (.int .i64 0) 149
      simp only [World.size_alloc] at b6
      go_enter Tryz.func144, Tryz.ntmps144
      go_wp2_with fail
      refine (hT _ (h.below (hb0.mono hB)) (Nat.le_trans hB hb0.size)).mono ?_
      rintro e w1 ⟨rfl, hb1⟩
      obtain ⟨_, z0, z1, z2, zf0, zf1, zf2⟩ := b6.below hb1
      have bz := (b6.below hb1).set (.int .u64 0) (.int .i64 0) (.int .i64 0)
      have hz := below_set3 (hb0.trans (hb1.mono hb0.size)) (g := w.heap.size + 1) (by omega) (.int .u64 0) (.int .i64 0) (.int .i64 0)
      go_wp2
      refine bodyPost_ret (v := .tuple #[.agg #[.int .u64 0, .int .i64 0, .int .i64 0], .int .i64 0, .iface 59 (.int .i64 2)]) ?_ rfl ⟨rfl, hz⟩
      simp [results, Tryz.results144, go_sem, bz.c0, bz.c1, bz.c2]
    · obtain ⟨hl', hw2⟩ : 2 + n ≤ q.length ∧ takeN bs (t + 2 : Nat) n * 2 ^ (64 - a - n) = x := ⟨by omega, HW2.out (by omega)⟩
      have H1 : Hid (takeB bs (t + 2 : Nat) n = true) := Lib.hid (HW1.out.trans (decide_eq_true (by omega)))
      rw [H1.out, hw2] at hT
      clear hw2 HW1 HW2 H1
      have hb0 := two_below w (.cells #[.int .u64 (p : Int), .int .i64 (a : Int), .int .i64 (n : Int)] 149) (.cells #[.int .u64 0, .int .i64 0, .int .i64 0] 149)
      have b3 := (Box3.new w (.int .u64 (p : Int)) (.int .i64 (a : Int)) (.int .i64 (n : Int)) 149).onA (.cells #[.int .u64 0, .int .i64 0, .int .i64 0] 149)
      have b6 := Box3.new (w.alloc (.cells #[.int .u64 (p : Int), .int .i64 (a : Int), .int .i64 (n : Int)] 149)) (.int .u64 0) (.int .i64 0) (.int .i64 0) 149
      simp only [World.size_alloc] at b6
      by_cases hx : x = 0
      · have HR : Hid ((if n = 0 then badX 3 else if q.length < 2 + n then badX 2 else if x = 0 then badX 3 else ⟨p ^^^ x, ⟨p ^^^ x, a, n⟩, 2 + n, 0⟩ : XA) = badX 3) := Lib.hid (by rw [if_neg hn, if_neg hl, if_pos hx])
        rw [HR.out]
        subst hx
        go_enter Tryz.func144, Tryz.ntmps144
        go_wp2_with fail
        refine (hT _ (h.below (hb0.mono hB)) (Nat.le_trans hB hb0.size)).mono ?_
        rintro e w1 ⟨rfl, hb1⟩
        obtain ⟨_, z0, z1, z2, zf0, zf1, zf2⟩ := b6.below hb1
        have bz := (b6.below hb1).set (.int .u64 0) (.int .i64 0) (.int .i64 0)
        have hz := below_set3 (hb0.trans (hb1.mono hb0.size)) (g := w.heap.size + 1) (by omega) (.int .u64 0) (.int .i64 0) (.int .i64 0)
        go_wp2
        refine bodyPost_ret (v := .tuple #[.agg #[.int .u64 0, .int .i64 0, .int .i64 0], .int .i64 0, .iface 59 (.int .i64 3)]) ?_ rfl ⟨rfl, hz⟩
        simp [results, Tryz.results144, go_sem, bz.c0, bz.c1, bz.c2]
      · have HR : Hid ((if n = 0 then badX 3 else if q.length < 2 + n then badX 2 else if x = 0 then badX 3 else ⟨p ^^^ x, ⟨p ^^^ x, a, n⟩, 2 + n, 0⟩ : XA) = ⟨p ^^^ x, ⟨p ^^^ x, a, n⟩, 2 + n, 0⟩) := Lib.hid (by rw [if_neg hn, if_neg hl, if_neg hx])
        rw [HR.out]
        clear HR
        have hxor := u64_xor_nat p x (by omega) (by omega)
        generalize p ^^^ x = v at *
        have hdx : ((x : Int) == 0) = false := by simp; omega
        go_enter Tryz.func144, Tryz.ntmps144
        go_wp2_with fail
        refine (hT _ (h.below (hb0.mono hB)) (Nat.le_trans hB hb0.size)).mono ?_
        rintro e w1 ⟨rfl, hb1⟩
        have c3 := b3.below hb1
        have c6 := b6.below hb1
        have c6t := c6
        obtain ⟨_, z0, z1, z2, zf0, zf1, zf2⟩ := c6t
        have c3t := c3
        obtain ⟨_, q0, q1, q2, f0, f1, f2⟩ := c3t
        go_upto_region 9 with fail
        replace c3 := c3.set0 (.int .u64 (v : Int))
        replace c6 := c6.other (d := w.heap.size) (by omega) 0 (.int .u64 (v : Int))
        have hz := (hb0.trans (hb1.mono hb0.size)).setCell (p := ⟨w.heap.size, 0, none⟩) (Nat.le_refl _) (.int .u64 (v : Int))
        clear q0 q1 q2 f0 f1 f2 z0 z1 z2 zf0 zf1 zf2
        generalize w1.setCell ⟨w.heap.size, 0, none⟩ (.int .u64 (v : Int)) = W2 at *
        have hzz := below_set3 hz (g := w.heap.size + 1) (by omega) (.int .u64 (v : Int)) (.int .i64 (a : Int)) (.int .i64 (n : Int))
        have bz := (c6.set (.int .u64 (v : Int)) (.int .i64 (a : Int)) (.int .i64 (n : Int))).drew
        obtain ⟨_, y0, y1, y2, yf0, yf1, yf2⟩ := c6.drew
        obtain ⟨_, z0, z1, z2, zf0, zf1, zf2⟩ := c6
        obtain ⟨_, r0, r1, r2, _, _, _⟩ := c3.drew
        obtain ⟨_, q0, q1, q2, f0, f1, f2⟩ := c3
        go_region
        all_goals
          go_wp2
          refine bodyPost_ret (v := .tuple #[.agg #[.int .u64 (v : Int), .int .i64 (a : Int), .int .i64 (n : Int)], .int .i64 ((2 + n : Nat) : Int), .nilIface]) ?_ rfl ⟨rfl, hzz.drew⟩
          simp [results, Tryz.results144, go_sem, bz.c0, bz.c1, bz.c2]

end Go.Proofs.YtaebljoacffghaaGreatDoor

/-
  The contract of layer 7's behindNew: the state behind a code that begins with 11.
-/
namespace Go.Proofs.YtaebljoacffghaaGreatDoor
open Go.RowKit

/-- what bits that begin with 11 begin with -/
def newA (s : XS) (q : List Bool) : XA := if q.length < 14 then badX 2 else tailX s q 14 (num (cut q 2 6)) (num (cut q 8 6) + 1)
theorem newA_is {s : XS} {q : List Bool} (h0 : q.getD 0 false = true) (h1 : q.getD 1 false = true) (hl : 14 ≤ q.length) {l b n : Nat} (ha : num (cut q 2 6) = l) (hb : num (cut q 8 6) = b) (hn : b + 1 = n) :
    newA s q = if 64 < l + n then badX 3 else if q.length < 14 + n then badX 2 else if lzN (wordX q 14 l n) = l ∧ szN (wordX q 14 l n) = n ∧ ¬ fitsX s (wordX q 14 l n) then ⟨s.prev ^^^ wordX q 14 l n, ⟨s.prev ^^^ wordX q 14 l n, l, n⟩, 14 + n, 0⟩ else badX 3 := by
  unfold newA tailX
  rw [if_neg (by omega), ha, hb, hn]
  by_cases h2 : 64 < l + n
  · rw [if_pos (.inr h2), if_pos h2]
  · rw [if_neg (by omega), if_neg h2]
    by_cases h3 : q.length < 14 + n
    · rw [if_pos h3, if_pos h3]
    · rw [if_neg h3, if_neg h3]
      exact new_test h0 h1 ha.symm (by rw [hb, hn]) (by omega) (by omega)
theorem two_six (q : List Bool) (hl : 14 ≤ q.length) : num (cut q 2 12) / 64 = num (cut q 2 6) ∧ num (cut q 2 12) % 64 = num (cut q 8 6) := by
  have h1 : cut q 2 12 = cut q 2 6 ++ cut q 8 6 := cut_more q 2 6 6
  have h2 := num_app (cut q 2 6) (cut q 8 6)
  have h3 := num_cut_lt q 8 6
  rw [cut_length _ _ _ (by omega)] at h2
  rw [h1, h2]
  omega

set_option maxRecDepth 20000 in
set_option maxHeartbeats 1000000 in
theorem bnew_short (A : Option Addr) (m c B : Nat) (bs : List Nat) (t p a n : Nat) (w : World) (h : Rd w B A m c bs) (hB : B ≤ w.heap.size) (hb : ∀ x ∈ bs, x < 256) (hm : m ≤ 140737488355328) (ht : t ≤ 8 * m) (hl : (restL bs t).length < 14) :
    Calls Tryz.prog 145 #[.agg #[.int .u64 (p : Int), .int .i64 (a : Int), .int .i64 (n : Int)], .slice A m c, .int .i64 (t : Int)] w (RetXB w (newA ⟨p, a, n⟩ (restL bs t))) := by
  have e : newA ⟨p, a, n⟩ (restL bs t) = badX 2 := by unfold newA; rw [if_pos hl]
  rw [e]
  obtain ⟨hw1, _⟩ := take_rest (bs := bs) (a := t) (j := 2) (n := 12) (by have := h.len; omega) (by omega)
  rw [decide_eq_false (by omega)] at hw1
  have hT : ∀ w : World, Rd w B A m c bs → Calls Tryz.prog 110 #[.slice A m c, .int .i64 ((t + 2 : Nat) : Int), .int .i64 ((12 : Nat) : Int)] w fun e w' => e = .returned (.tuple #[.int .u64 ((takeN bs ((t + 2 : Nat) : Int) ((12 : Nat) : Int) : Nat) : Int), .bool (takeB bs ((t + 2 : Nat) : Int) ((12 : Nat) : Int))]) ∧ w = w' :=
    fun w h => take_all A m c B bs ((t + 2 : Nat) : Int) ((12 : Nat) : Int) w h hb hm (by omega) (by omega)
  rw [hw1] at hT
  generalize takeN bs ((t + 2 : Nat) : Int) ((12 : Nat) : Int) = y at *
  clear hw1 e
  have hb0 := two_below w (.cells #[.int .u64 (p : Int), .int .i64 (a : Int), .int .i64 (n : Int)] 149) (.cells #[.int .u64 0, .int .i64 0, .int .i64 0] 149)
  go_enter Tryz.func145, Tryz.ntmps145
  go_wp2_with fail
  refine (hT _ (h.below (hb0.mono hB))).mono ?_
  rintro e w1 ⟨rfl, rfl⟩
  go_wp2
  go_returns
  exact ⟨rfl, hb0⟩

set_option maxRecDepth 20000 in
set_option maxHeartbeats 1000000 in
theorem bnew_wide (A : Option Addr) (m c B : Nat) (bs : List Nat) (t p a n l b k : Nat) (w : World) (h : Rd w B A m c bs) (hB : B ≤ w.heap.size) (hb : ∀ x ∈ bs, x < 256) (hm : m ≤ 140737488355328) (ht : t ≤ 8 * m) (hl : 14 ≤ (restL bs t).length)
    (h0 : (restL bs t).getD 0 false = true) (h1 : (restL bs t).getD 1 false = true) (ha : num (cut (restL bs t) 2 6) = l) (hbb : num (cut (restL bs t) 8 6) = b) (hk : b + 1 = k) (hlk : 64 < l + k) :
    Calls Tryz.prog 145 #[.agg #[.int .u64 (p : Int), .int .i64 (a : Int), .int .i64 (n : Int)], .slice A m c, .int .i64 (t : Int)] w (RetXB w (newA ⟨p, a, n⟩ (restL bs t))) := by
  have e : newA ⟨p, a, n⟩ (restL bs t) = badX 3 := by rw [newA_is h0 h1 hl ha hbb hk, if_pos hlk]
  rw [e]
  obtain ⟨hw1, hw2⟩ := take_rest (bs := bs) (a := t) (j := 2) (n := 12) (by have := h.len; omega) (by omega)
  rw [decide_eq_true (by omega)] at hw1
  replace hw2 := hw2 (by omega)
  have hT : ∀ w : World, Rd w B A m c bs → Calls Tryz.prog 110 #[.slice A m c, .int .i64 ((t + 2 : Nat) : Int), .int .i64 ((12 : Nat) : Int)] w fun e w' => e = .returned (.tuple #[.int .u64 ((takeN bs ((t + 2 : Nat) : Int) ((12 : Nat) : Int) : Nat) : Int), .bool (takeB bs ((t + 2 : Nat) : Int) ((12 : Nat) : Int))]) ∧ w = w' :=
    fun w h => take_all A m c B bs ((t + 2 : Nat) : Int) ((12 : Nat) : Int) w h hb hm (by omega) (by omega)
  rw [hw1, hw2] at hT
  obtain ⟨g1, g2⟩ := two_six _ hl
  rw [ha] at g1
  rw [hbb] at g2
  generalize num (cut (restL bs t) 2 12) = y at *
  have q1 : (y : Int) / 64 = (l : Int) := by omega
  have q2 : (y : Int) % 64 = (b : Int) := by omega
  have q3 : (b : Int) + 1 = (k : Int) := by omega
  have hl64 : l < 64 := by have := num_cut_lt (restL bs t) 2 6; omega
  have hk64 : k ≤ 64 := by have := num_cut_lt (restL bs t) 8 6; omega
  clear hw1 hw2 e g1 g2 h0 h1 ha hbb hk
  have hb0 := two_below w (.cells #[.int .u64 (p : Int), .int .i64 (a : Int), .int .i64 (n : Int)] 149) (.cells #[.int .u64 0, .int .i64 0, .int .i64 0] 149)
  go_enter Tryz.func145, Tryz.ntmps145
  go_wp2_with fail
  refine (hT _ (h.below (hb0.mono hB))).mono ?_
  rintro e w1 ⟨rfl, rfl⟩
  go_wp2
  go_returns
  exact ⟨rfl, hb0.alloc (by simp; omega) _⟩

/-- four boxes of a state, the last two by number -/
structure NewB (w W : World) (p a n l k g : Nat) : Prop where
  b3 : Box3 W w.heap.size (.int .u64 (p : Int)) (.int .i64 (a : Int)) (.int .i64 (n : Int))
  b6 : Box3 W (w.heap.size + 1) (.int .u64 0) (.int .i64 0) (.int .i64 0)
  b11 : Box3 W g (.int .u64 0) (.int .i64 (l : Int)) (.int .i64 (k : Int))
  bel : Below w.heap.size w W
theorem NewB.below {w W W' : World} {p a n l k g : Nat} (h : NewB w W p a n l k g) (hb : Below W.heap.size W W') : NewB w W' p a n l k g :=
  ⟨h.b3.below hb, h.b6.below hb, h.b11.below hb, h.bel.trans (hb.mono h.bel.size)⟩
theorem NewB.new (w : World) (p a n l k : Nat) : NewB w (((w.alloc (.cells #[.int .u64 (p : Int), .int .i64 (a : Int), .int .i64 (n : Int)] 149)).alloc (.cells #[.int .u64 0, .int .i64 0, .int .i64 0] 149)).alloc (.cells #[.int .u64 0, .int .i64 (l : Int), .int .i64 (k : Int)] 149)) p a n l k (w.heap.size + 1 + 1) := by
  have b6 := (Box3.new (w.alloc (.cells #[.int .u64 (p : Int), .int .i64 (a : Int), .int .i64 (n : Int)] 149)) (.int .u64 0) (.int .i64 0) (.int .i64 0) 149).onA (.cells #[.int .u64 0, .int .i64 (l : Int), .int .i64 (k : Int)] 149)
  have b11 := Box3.new ((w.alloc (.cells #[.int .u64 (p : Int), .int .i64 (a : Int), .int .i64 (n : Int)] 149)).alloc (.cells #[.int .u64 0, .int .i64 0, .int .i64 0] 149)) (.int .u64 0) (.int .i64 (l : Int)) (.int .i64 (k : Int)) 149
  simp only [World.size_alloc] at b6 b11
  exact ⟨((Box3.new w _ _ _ _).onA _).onA _, b6, b11, (two_below w _ _).alloc (by simp; omega) _⟩

set_option maxRecDepth 20000 in
set_option maxHeartbeats 2000000 in
theorem bnew_in (A : Option Addr) (m c B : Nat) (bs : List Nat) (t p a n l b k : Nat) (w : World) (h : Rd w B A m c bs) (hB : B ≤ w.heap.size) (hb : ∀ x ∈ bs, x < 256) (hm : m ≤ 140737488355328) (ht : t ≤ 8 * m) (hl : 14 ≤ (restL bs t).length)
    (hs : XS.May ⟨p, a, n⟩) (h0 : (restL bs t).getD 0 false = true) (h1 : (restL bs t).getD 1 false = true) (ha : num (cut (restL bs t) 2 6) = l) (hbb : num (cut (restL bs t) 8 6) = b) (hk : b + 1 = k) (hlk : l + k ≤ 64) (hR : TzW w) :
    Calls Tryz.prog 145 #[.agg #[.int .u64 (p : Int), .int .i64 (a : Int), .int .i64 (n : Int)], .slice A m c, .int .i64 (t : Int)] w (RetXB w (newA ⟨p, a, n⟩ (restL bs t))) := by
  have HE := Lib.hid (newA_is (s := ⟨p, a, n⟩) h0 h1 hl ha hbb hk)
  obtain ⟨hw1, hw2⟩ := take_rest (bs := bs) (a := t) (j := 2) (n := 12) (by have := h.len; omega) (by omega)
  rw [decide_eq_true (by omega)] at hw1
  replace hw2 := hw2 (by omega)
  have hT : ∀ w : World, Rd w B A m c bs → Calls Tryz.prog 110 #[.slice A m c, .int .i64 ((t + 2 : Nat) : Int), .int .i64 ((12 : Nat) : Int)] w fun e w' => e = .returned (.tuple #[.int .u64 ((takeN bs ((t + 2 : Nat) : Int) ((12 : Nat) : Int) : Nat) : Int), .bool (takeB bs ((t + 2 : Nat) : Int) ((12 : Nat) : Int))]) ∧ w = w' :=
    fun w h => take_all A m c B bs ((t + 2 : Nat) : Int) ((12 : Nat) : Int) w h hb hm (by omega) (by omega)
  rw [hw1, hw2] at hT
  obtain ⟨g1, g2⟩ := two_six _ hl
  rw [ha] at g1
  rw [hbb] at g2
  have hl64 : l < 64 := by have := num_cut_lt (restL bs t) 2 6; omega
  have hk64 : k ≤ 64 := by have := num_cut_lt (restL bs t) 8 6; omega
  generalize num (cut (restL bs t) 2 12) = y at *
  have q1 : (y : Int) / 64 = (l : Int) := by omega
  have q2 : (y : Int) % 64 = (b : Int) := by omega
  have q3 : (b : Int) + 1 = (k : Int) := by omega
  obtain ⟨v1, v2⟩ := win_rest (bs := bs) (t := t) (j := 14) (a := l) (n := k) (by have := h.len; omega) hlk
  have hwl := wordX_le (restL bs t) (h := 14) hlk
  have HV1 := Lib.hid v1
  have HV2 := Lib.hid v2
  have hW := fun (w : World) (h : Rd w B A m c bs) (hB : B ≤ w.heap.size) => takewin_any A m c B bs (t + 14) 0 l k w h hB hb hm (by omega) hlk
  clear hw1 hw2 g1 g2 h0 h1 ha hbb hk v1 v2
  generalize restL bs t = q at *
  generalize wordX q 14 l k = x at *
  have hb0 := two_below w (.cells #[.int .u64 (p : Int), .int .i64 (a : Int), .int .i64 (n : Int)] 149) (.cells #[.int .u64 0, .int .i64 0, .int .i64 0] 149)
  have hN := NewB.new w p a n l k
  by_cases hq : q.length < 14 + k
  · have e : newA ⟨p, a, n⟩ q = badX 2 := by rw [HE.out, if_neg (by omega), if_pos hq]
    rw [e]
    have H1 : Hid (takeB bs (t + 14 : Nat) k = false) := Lib.hid (HV1.out.trans (decide_eq_false (by omega)))
    rw [H1.out] at hW
    generalize takeN bs (t + 14 : Nat) k * 2 ^ (64 - l - k) = z at *
    clear HV1 HV2 H1 HE e
    go_enter Tryz.func145, Tryz.ntmps145
    go_wp2_with fail
    refine (hT _ (h.below (hb0.mono hB))).mono ?_
    rintro e w1 ⟨rfl, rfl⟩
    clear hT
    go_upto_region 7 with fail
    generalize ((w.alloc (.cells #[.int .u64 (p : Int), .int .i64 (a : Int), .int .i64 (n : Int)] 149)).alloc (.cells #[.int .u64 0, .int .i64 0, .int .i64 0] 149)).alloc (.cells #[.int .u64 0, .int .i64 (l : Int), .int .i64 (k : Int)] 149) = W at *
    obtain ⟨_, r0, r1, r2, _, _, _⟩ := hN.b11
    go_wp2_with fail
    refine (hW _ (h.below (hN.bel.mono hB)) (Nat.le_trans hB hN.bel.size)).mono ?_
    rintro e w2 ⟨rfl, hb2⟩
    replace hN := hN.below hb2
    clear r0 r1 r2
    obtain ⟨_, z0, z1, z2, zf0, zf1, zf2⟩ := hN.b6
    have bz := hN.b6.set (.int .u64 0) (.int .i64 0) (.int .i64 0)
    have hz := below_set3 hN.bel (g := w.heap.size + 1) (by omega) (.int .u64 0) (.int .i64 0) (.int .i64 0)
    go_wp2
    refine bodyPost_ret (v := .tuple #[.agg #[.int .u64 0, .int .i64 0, .int .i64 0], .int .i64 0, .iface 59 (.int .i64 2)]) ?_ rfl ⟨rfl, hz⟩
    simp [results, Tryz.results145, go_sem, bz.c0, bz.c1, bz.c2]
  · have H1 : Hid (takeB bs (t + 14 : Nat) k = true) := Lib.hid (HV1.out.trans (decide_eq_true (by omega)))
    rw [H1.out, HV2.out (by omega)] at hW
    clear HV1 HV2 H1
    have hp := hs.p
    have han : a + n ≤ 64 := hs.b
    have hnc := fun X h => anew_any p a n x X hp hwl h
    have hfc := fun X h => fits_any p a n x X han hwl h
    have hlx := lz_le x
    have HSZ : Hid (lzN x = l → 64 - ((lzN x : Nat) : Int) - ((tzN x : Nat) : Int) = ((szN x : Nat) : Int)) := Lib.hid (fun e => by
      have h0 : x ≠ 0 := by rintro rfl; rw [lz_zero] at e; omega
      have := sz_pos hwl h0
      omega)
    have HE2 : Hid (newA ⟨p, a, n⟩ q = if lzN x = l ∧ szN x = k ∧ ¬ fitsX ⟨p, a, n⟩ x then ⟨p ^^^ x, ⟨p ^^^ x, l, k⟩, 14 + k, 0⟩ else badX 3) := Lib.hid (by rw [HE.out, if_neg (by omega), if_neg hq])
    clear HE
    generalize p ^^^ x = v at *
    generalize 64 - ((lzN x : Nat) : Int) - ((tzN x : Nat) : Int) = zz at *
    generalize lzN x = lx at *
    generalize szN x = kx at *
    generalize newA ⟨p, a, n⟩ q = R at *
    go_enter Tryz.func145, Tryz.ntmps145
    go_wp2_with fail
    refine (hT _ (h.below (hb0.mono hB))).mono ?_
    rintro e w1 ⟨rfl, rfl⟩
    clear hT
    go_upto_region 7 with fail
    generalize ((w.alloc (.cells #[.int .u64 (p : Int), .int .i64 (a : Int), .int .i64 (n : Int)] 149)).alloc (.cells #[.int .u64 0, .int .i64 0, .int .i64 0] 149)).alloc (.cells #[.int .u64 0, .int .i64 (l : Int), .int .i64 (k : Int)] 149) = W at *
    obtain ⟨_, r0, r1, r2, _, _, _⟩ := hN.b11
    go_wp2_with fail
    refine (hW _ (h.below (hN.bel.mono hB)) (Nat.le_trans hB hN.bel.size)).mono ?_
    rintro e w2 ⟨rfl, hb2⟩
    replace hN := hN.below hb2
    clear r0 r1 r2 hb2 hW
    obtain ⟨_, r0, r1, r2, _, _, _⟩ := hN.b3
    go_wp2_with fail
    refine (hnc _ (hR.bel hN.bel)).mono ?_
    rintro e w3 ⟨rfl, hb3⟩
    replace hN := hN.below hb3
    clear r0 r1 r2 hb3 hnc
    go_upto_region 11 with fail
    have b13 := Box3.new w3 (.int .u64 (v : Int)) (.int .i64 (lx : Int)) (.int .i64 zz) 149
    have hg13 := hN.b11.lt
    replace hN := hN.below ((Below.refl _ _).alloc (Nat.le_refl _) (.cells #[.int .u64 (v : Int), .int .i64 (lx : Int), .int .i64 zz] 149))
    generalize w3.alloc (.cells #[.int .u64 (v : Int), .int .i64 (lx : Int), .int .i64 zz] 149) = W4 at *
    generalize w3.heap.size = g at *
    have b13t := b13
    obtain ⟨_, s0, s1, s2, _, _, _⟩ := b13t
    obtain ⟨_, q0', q1', q2', _, _, _⟩ := hN.b3
    obtain ⟨_, r0, r1, r2, _, _, _⟩ := hN.b11
    obtain ⟨_, z0, z1, z2, zf0, zf1, zf2⟩ := hN.b6
    have bz := hN.b6.set (.int .u64 0) (.int .i64 0) (.int .i64 0)
    have hz := below_set3 hN.bel (g := w.heap.size + 1) (by omega) (.int .u64 0) (.int .i64 0) (.int .i64 0)
    by_cases c1 : lx = l
    · have hzz := HSZ.out c1
      subst hzz
      clear HSZ
      have d1 : ((lx : Int) != (l : Int)) = false := by simp [c1]
      by_cases c2 : kx = k
      · have d2 : ((kx : Int) != (k : Int)) = false := by simp [c2]
        by_cases c3 : fitsX ⟨p, a, n⟩ x
        · have e : R = badX 3 := by rw [HE2.out, if_neg (fun h => h.2.2 c3)]
          rw [decide_eq_true c3] at hfc
          clear HE2 c1 c2 c3
          subst e
          go_wp2_with fail
          refine (hfc _ (hR.bel hN.bel)).mono ?_
          rintro e w5 ⟨rfl, hb5⟩
          replace hN := hN.below hb5
          clear z0 z1 z2 zf0 zf1 zf2 bz hz hfc s0 s1 s2 r0 r1 r2 q0' q1' q2'
          obtain ⟨_, z0, z1, z2, zf0, zf1, zf2⟩ := hN.b6
          have bz := hN.b6.set (.int .u64 0) (.int .i64 0) (.int .i64 0)
          have hz := below_set3 hN.bel (g := w.heap.size + 1) (by omega) (.int .u64 0) (.int .i64 0) (.int .i64 0)
          go_wp2
          refine bodyPost_ret (v := .tuple #[.agg #[.int .u64 0, .int .i64 0, .int .i64 0], .int .i64 0, .iface 59 (.int .i64 3)]) ?_ rfl ⟨rfl, hz⟩
          simp [results, Tryz.results145, go_sem, bz.c0, bz.c1, bz.c2]
        · have e : R = ⟨v, ⟨v, l, k⟩, 14 + k, 0⟩ := by rw [HE2.out, if_pos ⟨c1, c2, c3⟩]
          rw [decide_eq_false c3] at hfc
          clear HE2 c3
          subst e c1 c2
          go_wp2_with fail
          refine (hfc _ (hR.bel hN.bel)).mono ?_
          rintro e w5 ⟨rfl, hb5⟩
          replace hN := hN.below hb5
          replace b13 := b13.below hb5
          clear z0 z1 z2 zf0 zf1 zf2 bz hz hfc s0 s1 s2 r0 r1 r2 q0' q1' q2'
          go_upto_region 13 with fail
          obtain ⟨_, y0, y1, y2, yf0, yf1, yf2⟩ := hN.b6.drew
          obtain ⟨_, z0, z1, z2, zf0, zf1, zf2⟩ := hN.b6
          obtain ⟨_, r0, r1, r2, _, _, _⟩ := b13.drew
          obtain ⟨_, s0, s1, s2, _, _, _⟩ := b13
          have bz := (hN.b6.set (.int .u64 (v : Int)) (.int .i64 (lx : Int)) (.int .i64 (kx : Int))).drew
          have hz := (below_set3 hN.bel (g := w.heap.size + 1) (by omega) (.int .u64 (v : Int)) (.int .i64 (lx : Int)) (.int .i64 (kx : Int))).drew
          go_region
          all_goals
            go_wp2
            refine bodyPost_ret (v := .tuple #[.agg #[.int .u64 (v : Int), .int .i64 (lx : Int), .int .i64 (kx : Int)], .int .i64 ((14 + kx : Nat) : Int), .nilIface]) ?_ rfl ⟨rfl, hz⟩
            simp [results, Tryz.results145, go_sem, bz.c0, bz.c1, bz.c2]
      · have d2 : ((kx : Int) != (k : Int)) = true := by simp; omega
        have e : R = badX 3 := by rw [HE2.out, if_neg (fun h => c2 h.2.1)]
        clear HE2 c1 c2
        subst e
        go_wp2
        refine bodyPost_ret (v := .tuple #[.agg #[.int .u64 0, .int .i64 0, .int .i64 0], .int .i64 0, .iface 59 (.int .i64 3)]) ?_ rfl ⟨rfl, hz⟩
        simp [results, Tryz.results145, go_sem, bz.c0, bz.c1, bz.c2]
    · have d1 : ((lx : Int) != (l : Int)) = true := by simp; omega
      have e : R = badX 3 := by rw [HE2.out, if_neg (fun h => c1 h.1)]
      clear HE2 HSZ c1
      subst e
      go_wp2
      refine bodyPost_ret (v := .tuple #[.agg #[.int .u64 0, .int .i64 0, .int .i64 0], .int .i64 0, .iface 59 (.int .i64 3)]) ?_ rfl ⟨rfl, hz⟩
      simp [results, Tryz.results145, go_sem, bz.c0, bz.c1, bz.c2]

end Go.Proofs.YtaebljoacffghaaGreatDoor

/-
  The contracts of layer 7's behind, Get: what bits begin with in a state, from a place on.
-/
namespace Go.Proofs.YtaebljoacffghaaGreatDoor
open Go.RowKit

theorem bnew_any (A : Option Addr) (m c B : Nat) (bs : List Nat) (t p a n : Nat) (w : World) (h : Rd w B A m c bs) (hB : B ≤ w.heap.size) (hb : ∀ x ∈ bs, x < 256) (hm : m ≤ 140737488355328) (ht : t ≤ 8 * m)
    (hs : XS.May ⟨p, a, n⟩) (h0 : (restL bs t).getD 0 false = true) (h1 : (restL bs t).getD 1 false = true) (hR : TzW w) :
    Calls Tryz.prog 145 #[.agg #[.int .u64 (p : Int), .int .i64 (a : Int), .int .i64 (n : Int)], .slice A m c, .int .i64 (t : Int)] w (RetXB w (newA ⟨p, a, n⟩ (restL bs t))) := by
  by_cases hl : (restL bs t).length < 14
  · exact bnew_short A m c B bs t p a n w h hB hb hm ht hl
  · by_cases hw : 64 < num (cut (restL bs t) 2 6) + (num (cut (restL bs t) 8 6) + 1)
    · exact bnew_wide A m c B bs t p a n _ _ _ w h hB hb hm ht (by omega) h0 h1 rfl rfl rfl hw
    · exact bnew_in A m c B bs t p a n _ _ _ w h hB hb hm ht (by omega) hs h0 h1 rfl rfl rfl (by omega) hR

/-- one bit of bytes, told by Take -/
theorem take_bit {bs : List Nat} {t j : Nat} (h : t ≤ 8 * bs.length) (hj : j < (restL bs t).length) : takeB bs ((t + j : Nat) : Int) ((1 : Nat) : Int) = true ∧ takeN bs ((t + j : Nat) : Int) ((1 : Nat) : Int) = ((restL bs t).getD j false).toNat := by
  obtain ⟨h1, h2⟩ := take_rest (bs := bs) (a := t) (j := j) (n := 1) h (by omega)
  exact ⟨h1.trans (decide_eq_true (by omega)), (h2 (by omega)).trans (num_cut_one _ _ hj)⟩
theorem take_nobit {bs : List Nat} {t j : Nat} (h : t ≤ 8 * bs.length) (hj : (restL bs t).length ≤ j) : takeB bs ((t + j : Nat) : Int) ((1 : Nat) : Int) = false :=
  (take_rest (bs := bs) (a := t) (j := j) (n := 1) h (by omega)).1.trans (decide_eq_false (by omega))

set_option maxRecDepth 20000 in
set_option maxHeartbeats 1000000 in
theorem behind_none (A : Option Addr) (m c B : Nat) (bs : List Nat) (t : Int) (p a n : Nat) (w : World) (h : Rd w B A m c bs) (hB : B ≤ w.heap.size) (hb : ∀ x ∈ bs, x < 256) (hm : m ≤ 140737488355328) (ht : -9223372036854775808 ≤ t ∧ t ≤ 9223372036854775807)
    (hno : takeB bs t 1 = false) (q : List Bool) (hq : q.length = 0) :
    Calls Tryz.prog 136 #[.agg #[.int .u64 (p : Int), .int .i64 (a : Int), .int .i64 (n : Int)], .slice A m c, .int .i64 t] w (RetXB w (getX ⟨p, a, n⟩ q)) := by
  have e : getX ⟨p, a, n⟩ q = badX 2 := by unfold getX; rw [if_pos hq]
  rw [e]
  have hT : ∀ w : World, Rd w B A m c bs → Calls Tryz.prog 110 #[.slice A m c, .int .i64 t, .int .i64 1] w fun e w' => e = .returned (.tuple #[.int .u64 ((takeN bs t 1 : Nat) : Int), .bool (takeB bs t 1)]) ∧ w = w' :=
    fun w h => take_all A m c B bs t 1 w h hb hm ht (by omega)
  rw [hno] at hT
  generalize takeN bs t 1 = y at *
  clear e
  have hb0 := two_below w (.cells #[.int .u64 (p : Int), .int .i64 (a : Int), .int .i64 (n : Int)] 149) (.cells #[.int .u64 0, .int .i64 0, .int .i64 0] 149)
  go_enter Tryz.func136, Tryz.ntmps136
  go_wp2_with fail
  refine (hT _ (h.below (hb0.mono hB))).mono ?_
  rintro e w1 ⟨rfl, rfl⟩
  go_wp2
  go_returns
  exact ⟨rfl, hb0⟩

set_option maxRecDepth 20000 in
set_option maxHeartbeats 2000000 in
theorem behind_some (A : Option Addr) (m c B : Nat) (bs : List Nat) (t p a n : Nat) (w : World) (h : Rd w B A m c bs) (hB : B ≤ w.heap.size) (hb : ∀ x ∈ bs, x < 256) (hm : m ≤ 140737488355328) (ht : t ≤ 8 * m)
    (hs : XS.May ⟨p, a, n⟩) (hR : TzW w) (hq : 0 < (restL bs t).length) :
    Calls Tryz.prog 136 #[.agg #[.int .u64 (p : Int), .int .i64 (a : Int), .int .i64 (n : Int)], .slice A m c, .int .i64 (t : Int)] w (RetXB w (getX ⟨p, a, n⟩ (restL bs t))) := by
  have hl := h.len
  have hb0 := two_below w (.cells #[.int .u64 (p : Int), .int .i64 (a : Int), .int .i64 (n : Int)] 149) (.cells #[.int .u64 0, .int .i64 0, .int .i64 0] 149)
  have b3 := (Box3.new w (.int .u64 (p : Int)) (.int .i64 (a : Int)) (.int .i64 (n : Int)) 149).onA (.cells #[.int .u64 0, .int .i64 0, .int .i64 0] 149)
  have b6 := Box3.new (w.alloc (.cells #[.int .u64 (p : Int), .int .i64 (a : Int), .int .i64 (n : Int)] 149)) (.int .u64 0) (.int .i64 0) (.int .i64 0) 149
  simp only [World.size_alloc] at b6
  obtain ⟨i1, i2⟩ := take_bit (bs := bs) (t := t) (j := 0) (by omega) hq
  rw [Nat.add_zero] at i1 i2
  have hT1 : ∀ w : World, Rd w B A m c bs → Calls Tryz.prog 110 #[.slice A m c, .int .i64 (t : Int), .int .i64 ((1 : Nat) : Int)] w fun e w' => e = .returned (.tuple #[.int .u64 ((takeN bs (t : Int) ((1 : Nat) : Int) : Nat) : Int), .bool (takeB bs (t : Int) ((1 : Nat) : Int))]) ∧ w = w' :=
    fun w h => take_all A m c B bs (t : Int) ((1 : Nat) : Int) w h hb hm (by omega) (by omega)
  rw [i1, i2] at hT1
  have hT2 : ∀ w : World, Rd w B A m c bs → Calls Tryz.prog 110 #[.slice A m c, .int .i64 ((t + 1 : Nat) : Int), .int .i64 ((1 : Nat) : Int)] w fun e w' => e = .returned (.tuple #[.int .u64 ((takeN bs ((t + 1 : Nat) : Int) ((1 : Nat) : Int) : Nat) : Int), .bool (takeB bs ((t + 1 : Nat) : Int) ((1 : Nat) : Int))]) ∧ w = w' :=
    fun w h => take_all A m c B bs ((t + 1 : Nat) : Int) ((1 : Nat) : Int) w h hb hm (by omega) (by omega)
  clear i1 i2
  by_cases h0 : (restL bs t).getD 0 false = false
  · have e : getX ⟨p, a, n⟩ (restL bs t) = ⟨p, ⟨p, a, n⟩, 1, 0⟩ := by unfold getX; rw [if_neg (by omega), if_pos h0]
    rw [e]
    rw [h0] at hT1
    clear e hT2 hq h0
    go_enter Tryz.func136, Tryz.ntmps136
    go_wp2_with fail
    refine (hT1 _ (h.below (hb0.mono hB))).mono ?_
    rintro e w1 ⟨rfl, rfl⟩
    go_wp2
    go_returns
    exact ⟨rfl, two_below _ _ _⟩
  · have h0' : (restL bs t).getD 0 false = true := by simpa using h0
    rw [h0'] at hT1
    by_cases hq1 : (restL bs t).length = 1
    · have e : getX ⟨p, a, n⟩ (restL bs t) = badX 2 := by unfold getX; rw [if_neg (by omega), if_neg h0, if_pos hq1]
      rw [e]
      rw [take_nobit (by omega) (by omega)] at hT2
      generalize takeN bs ((t + 1 : Nat) : Int) ((1 : Nat) : Int) = y at *
      clear e hq h0 h0' hq1
      go_enter Tryz.func136, Tryz.ntmps136
      go_wp2_with fail
      refine (hT1 _ (h.below (hb0.mono hB))).mono ?_
      rintro e w1 ⟨rfl, rfl⟩
      go_wp2_with fail
      refine (hT2 _ (h.below (hb0.mono hB))).mono ?_
      rintro e w1 ⟨rfl, rfl⟩
      go_wp2
      go_returns
      exact ⟨rfl, two_below _ _ _⟩
    · obtain ⟨i1, i2⟩ := take_bit (bs := bs) (t := t) (j := 1) (by omega) (by omega)
      rw [i1, i2] at hT2
      clear i1 i2
      by_cases h1 : (restL bs t).getD 1 false = false
      · have e : getX ⟨p, a, n⟩ (restL bs t) = tailX ⟨p, a, n⟩ (restL bs t) 2 a n := by unfold getX; rw [if_neg (by omega), if_neg h0, if_neg hq1, if_pos h1]
        rw [e]
        have hO := fun X (h : Rd X B A m c bs) (hB : B ≤ X.heap.size) => bold_any A m c B bs t p a n X h hB hb hm ht hs h0' h1
        generalize tailX ⟨p, a, n⟩ (restL bs t) 2 a n = R at *
        rw [h1] at hT2
        clear e hq h0 h0' hq1 h1
        go_enter Tryz.func136, Tryz.ntmps136
        go_wp2_with fail
        refine (hT1 _ (h.below (hb0.mono hB))).mono ?_
        rintro e w1 ⟨rfl, rfl⟩
        go_wp2_with fail
        refine (hT2 _ (h.below (hb0.mono hB))).mono ?_
        rintro e w1 ⟨rfl, rfl⟩
        go_wp2_with fail
        refine (hO _ (h.below (hb0.mono hB)) (Nat.le_trans hB hb0.size)).mono ?_
        rintro e w2 ⟨rfl, hb2⟩
        obtain ⟨_, z0, z1, z2, zf0, zf1, zf2⟩ := b6.below hb2
        have bz := (b6.below hb2).set (.int .u64 (R.s.prev : Int)) (.int .i64 (R.s.lead : Int)) (.int .i64 (R.s.len : Int))
        have hz := below_set3 (hb0.trans (hb2.mono hb0.size)) (g := w.heap.size + 1) (by omega) (.int .u64 (R.s.prev : Int)) (.int .i64 (R.s.lead : Int)) (.int .i64 (R.s.len : Int))
        clear hT1 hT2 hO
        go_wp2
        refine bodyPost_ret (v := .tuple #[.agg #[.int .u64 (R.s.prev : Int), .int .i64 (R.s.lead : Int), .int .i64 (R.s.len : Int)], .int .i64 (R.n : Int), errV R.e]) ?_ rfl ⟨rfl, hz⟩
        simp [results, Tryz.results136, go_sem, bz.c0, bz.c1, bz.c2]
      · have h1' : (restL bs t).getD 1 false = true := by simpa using h1
        have e : getX ⟨p, a, n⟩ (restL bs t) = newA ⟨p, a, n⟩ (restL bs t) := by unfold getX newA; rw [if_neg (by omega), if_neg h0, if_neg hq1, if_neg h1]
        rw [e]
        have hO := fun X (h : Rd X B A m c bs) (hB : B ≤ X.heap.size) hR => bnew_any A m c B bs t p a n X h hB hb hm ht hs h0' h1' hR
        generalize newA ⟨p, a, n⟩ (restL bs t) = R at *
        rw [h1'] at hT2
        clear e hq h0 h0' hq1 h1 h1'
        go_enter Tryz.func136, Tryz.ntmps136
        go_wp2_with fail
        refine (hT1 _ (h.below (hb0.mono hB))).mono ?_
        rintro e w1 ⟨rfl, rfl⟩
        go_wp2_with fail
        refine (hT2 _ (h.below (hb0.mono hB))).mono ?_
        rintro e w1 ⟨rfl, rfl⟩
        go_wp2_with fail
        refine (hO _ (h.below (hb0.mono hB)) (Nat.le_trans hB hb0.size) (hR.bel hb0)).mono ?_
        rintro e w2 ⟨rfl, hb2⟩
        obtain ⟨_, z0, z1, z2, zf0, zf1, zf2⟩ := b6.below hb2
        have bz := (b6.below hb2).set (.int .u64 (R.s.prev : Int)) (.int .i64 (R.s.lead : Int)) (.int .i64 (R.s.len : Int))
        have hz := below_set3 (hb0.trans (hb2.mono hb0.size)) (g := w.heap.size + 1) (by omega) (.int .u64 (R.s.prev : Int)) (.int .i64 (R.s.lead : Int)) (.int .i64 (R.s.len : Int))
        clear hT1 hT2 hO
        go_wp2
        refine bodyPost_ret (v := .tuple #[.agg #[.int .u64 (R.s.prev : Int), .int .i64 (R.s.lead : Int), .int .i64 (R.s.len : Int)], .int .i64 (R.n : Int), errV R.e]) ?_ rfl ⟨rfl, hz⟩
        simp [results, Tryz.results136, go_sem, bz.c0, bz.c1, bz.c2]

theorem behind_any (A : Option Addr) (m c B : Nat) (bs : List Nat) (t : Int) (p a n : Nat) (w : World) (h : Rd w B A m c bs) (hB : B ≤ w.heap.size) (hb : ∀ x ∈ bs, x < 256) (hm : m ≤ 140737488355328) (ht : -9223372036854775808 ≤ t ∧ t ≤ 9223372036854775807)
    (hs : XS.May ⟨p, a, n⟩) (hR : TzW w) :
    Calls Tryz.prog 136 #[.agg #[.int .u64 (p : Int), .int .i64 (a : Int), .int .i64 (n : Int)], .slice A m c, .int .i64 t] w (RetXB w (getX ⟨p, a, n⟩ (restL bs t))) := by
  have hl := h.len
  by_cases hy : 0 ≤ t ∧ t ≤ 8 * (m : Int)
  · obtain ⟨t', rfl⟩ := Int.eq_ofNat_of_zero_le hy.1
    by_cases hq : (restL bs t').length = 0
    · have := take_nobit (bs := bs) (t := t') (j := 0) (by omega) (by omega)
      rw [Nat.add_zero] at this
      exact behind_none A m c B bs t' p a n w h hB hb hm ht this _ hq
    · exact behind_some A m c B bs t' p a n w h hB hb hm (by omega) hs hR (by omega)
  · have := (takeB_no (bs := bs) (a := t) (n := 1) (by omega)).1
    exact behind_none A m c B bs t p a n w h hB hb hm ht this _ (by rw [restL_no (by omega)]; rfl)

theorem testX_v (s : XS) (p : List Bool) (h n x : Nat) : (testX s p h n x).v = (testX s p h n x).s.prev := by
  unfold testX
  split
  · unfold nextOf
    split <;> rfl
  · rfl
theorem tailX_v (s : XS) (p : List Bool) (h a n : Nat) : (tailX s p h a n).v = (tailX s p h a n).s.prev := by
  unfold tailX
  split
  · rfl
  · split
    · rfl
    · exact testX_v _ _ _ _ _
theorem getX_v (s : XS) (p : List Bool) : (getX s p).v = (getX s p).s.prev := by
  unfold getX
  split
  · rfl
  · split
    · rfl
    · split
      · rfl
      · split
        · exact tailX_v _ _ _ _ _
        · split
          · rfl
          · exact tailX_v _ _ _ _ _

/-- what Get comes to -/
def RetXG (w : World) (r : XA) (e : Ending) (w' : World) : Prop :=
  e = .returned (.tuple #[.int .u64 (r.v : Int), .agg #[.int .u64 (r.s.prev : Int), .int .i64 (r.s.lead : Int), .int .i64 (r.s.len : Int)], .int .i64 (r.n : Int), errV r.e]) ∧ Below w.heap.size w w'

set_option maxRecDepth 20000 in
set_option maxHeartbeats 1000000 in
theorem xget_any (A : Option Addr) (m c B : Nat) (bs : List Nat) (t : Int) (p a n : Nat) (w : World) (h : Rd w B A m c bs) (hB : B ≤ w.heap.size) (hb : ∀ x ∈ bs, x < 256) (hm : m ≤ 140737488355328) (ht : -9223372036854775808 ≤ t ∧ t ≤ 9223372036854775807)
    (hs : XS.May ⟨p, a, n⟩) (hR : TzW w) :
    Calls Tryz.prog 123 #[.agg #[.int .u64 (p : Int), .int .i64 (a : Int), .int .i64 (n : Int)], .slice A m c, .int .i64 t] w (RetXG w (getX ⟨p, a, n⟩ (restL bs t))) := by
  have hb0 := two_below w (.cells #[.int .u64 (p : Int), .int .i64 (a : Int), .int .i64 (n : Int)] 149) (.cells #[.int .u64 0, .int .i64 0, .int .i64 0] 149)
  have b7 := Box3.new (w.alloc (.cells #[.int .u64 (p : Int), .int .i64 (a : Int), .int .i64 (n : Int)] 149)) (.int .u64 0) (.int .i64 0) (.int .i64 0) 149
  simp only [World.size_alloc] at b7
  have hO := fun X (h : Rd X B A m c bs) (hB : B ≤ X.heap.size) hR => behind_any A m c B bs t p a n X h hB hb hm ht hs hR
  have hv := getX_v ⟨p, a, n⟩ (restL bs t)
  unfold RetXG
  rw [hv]
  clear hv
  generalize getX ⟨p, a, n⟩ (restL bs t) = R at *
  go_enter Tryz.func123, Tryz.ntmps123
  go_wp2_with fail
  refine (hO _ (h.below (hb0.mono hB)) (Nat.le_trans hB hb0.size) (hR.bel hb0)).mono ?_
  rintro e w2 ⟨rfl, hb2⟩
  replace b7 := b7.below hb2
  have hz := hb0.trans (hb2.mono hb0.size)
  clear hO
  go_upto_region 2 with fail
  have b10 := Box3.new w2 (.int .u64 (R.s.prev : Int)) (.int .i64 (R.s.lead : Int)) (.int .i64 (R.s.len : Int)) 149
  have hlt := b7.lt
  replace b7 := b7.onA (.cells #[.int .u64 (R.s.prev : Int), .int .i64 (R.s.lead : Int), .int .i64 (R.s.len : Int)] 149)
  replace hz := hz.alloc hz.size (.cells #[.int .u64 (R.s.prev : Int), .int .i64 (R.s.lead : Int), .int .i64 (R.s.len : Int)] 149)
  generalize w2.alloc (.cells #[.int .u64 (R.s.prev : Int), .int .i64 (R.s.lead : Int), .int .i64 (R.s.len : Int)] 149) = W at *
  generalize w2.heap.size = g at *
  have bz := (b7.set (.int .u64 (R.s.prev : Int)) (.int .i64 (R.s.lead : Int)) (.int .i64 (R.s.len : Int))).drew
  have hzz := (below_set3 hz (g := w.heap.size + 1) (by omega) (.int .u64 (R.s.prev : Int)) (.int .i64 (R.s.lead : Int)) (.int .i64 (R.s.len : Int))).drew
  obtain ⟨_, y0, y1, y2, yf0, yf1, yf2⟩ := b7.drew
  obtain ⟨_, z0, z1, z2, zf0, zf1, zf2⟩ := b7
  obtain ⟨_, r0, r1, r2, _, _, _⟩ := b10.drew
  obtain ⟨_, s0, s1, s2, _, _, _⟩ := b10
  go_region
  all_goals
    go_wp2
    refine bodyPost_ret (v := .tuple #[.int .u64 (R.s.prev : Int), .agg #[.int .u64 (R.s.prev : Int), .int .i64 (R.s.lead : Int), .int .i64 (R.s.len : Int)], .int .i64 (R.n : Int), errV R.e]) ?_ rfl ⟨rfl, hzz⟩
    simp [results, Tryz.results123, go_sem, bz.c0, bz.c1, bz.c2]

end Go.Proofs.YtaebljoacffghaaGreatDoor
