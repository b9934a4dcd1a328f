/-
  The contract of layer 7's behindNew: the state behind a code that begins with 11.
-/
import Derived.Test.YtfehlkilnghhiaaDoorXorGet1
namespace Go.Proofs.YtfehlkilnghhiaaDoor
open Go.RowKit

/-- what bits that begin with 11 begin with -/
def newA (s : XS) (q : List Bool) : XA := if q.length < 14 then badX 2 else tailX s q 14 (num (cut q 2 6)) (num (cut q 8 6) + 1)
theorem newA_is {s : XS} {q : List Bool} (h0 : q.getD 0 false = true) (h1 : q.getD 1 false = true) (hl : 14 ≤ q.length) {l b n : Nat} (ha : num (cut q 2 6) = l) (hb : num (cut q 8 6) = b) (hn : b + 1 = n) :
    newA s q = if 64 < l + n then badX 3 else if q.length < 14 + n then badX 2 else if lzN (wordX q 14 l n) = l ∧ szN (wordX q 14 l n) = n ∧ ¬ fitsX s (wordX q 14 l n) then ⟨s.prev ^^^ wordX q 14 l n, ⟨s.prev ^^^ wordX q 14 l n, l, n⟩, 14 + n, 0⟩ else badX 3 := by
  unfold newA tailX
  rw [if_neg (by omega), ha, hb, hn]
  by_cases h2 : 64 < l + n
  · rw [if_pos (.inr h2), if_pos h2]
  · rw [if_neg (by omega), if_neg h2]
    by_cases h3 : q.length < 14 + n
    · rw [if_pos h3, if_pos h3]
    · rw [if_neg h3, if_neg h3]
      exact new_test h0 h1 ha.symm (by rw [hb, hn]) (by omega) (by omega)
theorem two_six (q : List Bool) (hl : 14 ≤ q.length) : num (cut q 2 12) / 64 = num (cut q 2 6) ∧ num (cut q 2 12) % 64 = num (cut q 8 6) := by
  have h1 : cut q 2 12 = cut q 2 6 ++ cut q 8 6 := cut_more q 2 6 6
  have h2 := num_app (cut q 2 6) (cut q 8 6)
  have h3 := num_cut_lt q 8 6
  rw [cut_length _ _ _ (by omega)] at h2
  rw [h1, h2]
  omega

set_option maxHeartbeats 1000000 in
theorem bnew_short (A : Option Addr) (m c B : Nat) (bs : List Nat) (t p a n : Nat) (w : World) (h : Rd w B A m c bs) (hB : B ≤ w.heap.size) (hb : ∀ x ∈ bs, x < 256) (hm : m ≤ 100000) (ht : t ≤ 8 * m) (hl : (restL bs t).length < 14) :
    Calls Tryd.prog 33 #[.agg #[.int .u64 (p : Int), .int .i64 (a : Int), .int .i64 (n : Int)], .slice A m c, .int .i64 (t : Int)] w (RetXB w (newA ⟨p, a, n⟩ (restL bs t))) := by
  have e : newA ⟨p, a, n⟩ (restL bs t) = badX 2 := by unfold newA; rw [if_pos hl]
  rw [e]
  obtain ⟨hw1, _⟩ := take_rest (bs := bs) (a := t) (j := 2) (n := 12) (by have := h.len; omega) (by omega)
  rw [decide_eq_false (by omega)] at hw1
  have hT : ∀ w : World, Rd w B A m c bs → Calls Tryd.prog 31 #[.slice A m c, .int .i64 ((t + 2 : Nat) : Int), .int .i64 ((12 : Nat) : Int)] w fun e w' => e = .returned (.tuple #[.int .u64 ((takeN bs ((t + 2 : Nat) : Int) ((12 : Nat) : Int) : Nat) : Int), .bool (takeB bs ((t + 2 : Nat) : Int) ((12 : Nat) : Int))]) ∧ w = w' :=
    fun w h => take_all A m c B bs ((t + 2 : Nat) : Int) ((12 : Nat) : Int) w h hb hm (by omega) (by omega)
  rw [hw1] at hT
  generalize takeN bs ((t + 2 : Nat) : Int) ((12 : Nat) : Int) = y at *
  clear hw1 e
  have hb0 := two_below w (.cells #[.int .u64 (p : Int), .int .i64 (a : Int), .int .i64 (n : Int)] 24) (.cells #[.int .u64 0, .int .i64 0, .int .i64 0] 24)
  go_enter Tryd.func33, Tryd.ntmps33
  go_wp2_with fail
  refine (hT _ (h.below (hb0.mono hB))).mono ?_
  rintro e w1 ⟨rfl, rfl⟩
  go_wp2
  go_returns
  exact ⟨rfl, hb0⟩

set_option maxHeartbeats 1000000 in
theorem bnew_wide (A : Option Addr) (m c B : Nat) (bs : List Nat) (t p a n l b k : Nat) (w : World) (h : Rd w B A m c bs) (hB : B ≤ w.heap.size) (hb : ∀ x ∈ bs, x < 256) (hm : m ≤ 100000) (ht : t ≤ 8 * m) (hl : 14 ≤ (restL bs t).length)
    (h0 : (restL bs t).getD 0 false = true) (h1 : (restL bs t).getD 1 false = true) (ha : num (cut (restL bs t) 2 6) = l) (hbb : num (cut (restL bs t) 8 6) = b) (hk : b + 1 = k) (hlk : 64 < l + k) :
    Calls Tryd.prog 33 #[.agg #[.int .u64 (p : Int), .int .i64 (a : Int), .int .i64 (n : Int)], .slice A m c, .int .i64 (t : Int)] w (RetXB w (newA ⟨p, a, n⟩ (restL bs t))) := by
  have e : newA ⟨p, a, n⟩ (restL bs t) = badX 3 := by rw [newA_is h0 h1 hl ha hbb hk, if_pos hlk]
  rw [e]
  obtain ⟨hw1, hw2⟩ := take_rest (bs := bs) (a := t) (j := 2) (n := 12) (by have := h.len; omega) (by omega)
  rw [decide_eq_true (by omega)] at hw1
  replace hw2 := hw2 (by omega)
  have hT : ∀ w : World, Rd w B A m c bs → Calls Tryd.prog 31 #[.slice A m c, .int .i64 ((t + 2 : Nat) : Int), .int .i64 ((12 : Nat) : Int)] w fun e w' => e = .returned (.tuple #[.int .u64 ((takeN bs ((t + 2 : Nat) : Int) ((12 : Nat) : Int) : Nat) : Int), .bool (takeB bs ((t + 2 : Nat) : Int) ((12 : Nat) : Int))]) ∧ w = w' :=
    fun w h => take_all A m c B bs ((t + 2 : Nat) : Int) ((12 : Nat) : Int) w h hb hm (by omega) (by omega)
  rw [hw1, hw2] at hT
  obtain ⟨g1, g2⟩ := two_six _ hl
  rw [ha] at g1
  rw [hbb] at g2
  generalize num (cut (restL bs t) 2 12) = y at *
  have q1 : (y : Int) / 64 = (l : Int) := by omega
  have q2 : (y : Int) % 64 = (b : Int) := by omega
  have q3 : (b : Int) + 1 = (k : Int) := by omega
  have hl64 : l < 64 := by have := num_cut_lt (restL bs t) 2 6; omega
  have hk64 : k ≤ 64 := by have := num_cut_lt (restL bs t) 8 6; omega
  clear hw1 hw2 e g1 g2 h0 h1 ha hbb hk
  have hb0 := two_below w (.cells #[.int .u64 (p : Int), .int .i64 (a : Int), .int .i64 (n : Int)] 24) (.cells #[.int .u64 0, .int .i64 0, .int .i64 0] 24)
  go_enter Tryd.func33, Tryd.ntmps33
  go_wp2_with fail
  refine (hT _ (h.below (hb0.mono hB))).mono ?_
  rintro e w1 ⟨rfl, rfl⟩
  go_wp2
  go_returns
  exact ⟨rfl, hb0.alloc (by simp; omega) _⟩

/-- four boxes of a state, the last two by number -/
structure NewB (w W : World) (p a n l k g : Nat) : Prop where
  b3 : Box3 W w.heap.size (.int .u64 (p : Int)) (.int .i64 (a : Int)) (.int .i64 (n : Int))
  b6 : Box3 W (w.heap.size + 1) (.int .u64 0) (.int .i64 0) (.int .i64 0)
  b11 : Box3 W g (.int .u64 0) (.int .i64 (l : Int)) (.int .i64 (k : Int))
  bel : Below w.heap.size w W
theorem NewB.below {w W W' : World} {p a n l k g : Nat} (h : NewB w W p a n l k g) (hb : Below W.heap.size W W') : NewB w W' p a n l k g :=
  ⟨h.b3.below hb, h.b6.below hb, h.b11.below hb, h.bel.trans (hb.mono h.bel.size)⟩
theorem NewB.new (w : World) (p a n l k : Nat) : NewB w (((w.alloc (.cells #[.int .u64 (p : Int), .int .i64 (a : Int), .int .i64 (n : Int)] 24)).alloc (.cells #[.int .u64 0, .int .i64 0, .int .i64 0] 24)).alloc (.cells #[.int .u64 0, .int .i64 (l : Int), .int .i64 (k : Int)] 24)) p a n l k (w.heap.size + 1 + 1) := by
  have b6 := (Box3.new (w.alloc (.cells #[.int .u64 (p : Int), .int .i64 (a : Int), .int .i64 (n : Int)] 24)) (.int .u64 0) (.int .i64 0) (.int .i64 0) 24).onA (.cells #[.int .u64 0, .int .i64 (l : Int), .int .i64 (k : Int)] 24)
  have b11 := Box3.new ((w.alloc (.cells #[.int .u64 (p : Int), .int .i64 (a : Int), .int .i64 (n : Int)] 24)).alloc (.cells #[.int .u64 0, .int .i64 0, .int .i64 0] 24)) (.int .u64 0) (.int .i64 (l : Int)) (.int .i64 (k : Int)) 24
  simp only [World.size_alloc] at b6 b11
  exact ⟨((Box3.new w _ _ _ _).onA _).onA _, b6, b11, (two_below w _ _).alloc (by simp; omega) _⟩

set_option maxHeartbeats 2000000 in
theorem bnew_in (A : Option Addr) (m c B : Nat) (bs : List Nat) (t p a n l b k : Nat) (w : World) (h : Rd w B A m c bs) (hB : B ≤ w.heap.size) (hb : ∀ x ∈ bs, x < 256) (hm : m ≤ 100000) (ht : t ≤ 8 * m) (hl : 14 ≤ (restL bs t).length)
    (hs : XS.May ⟨p, a, n⟩) (h0 : (restL bs t).getD 0 false = true) (h1 : (restL bs t).getD 1 false = true) (ha : num (cut (restL bs t) 2 6) = l) (hbb : num (cut (restL bs t) 8 6) = b) (hk : b + 1 = k) (hlk : l + k ≤ 64) (hR : TzW w) :
    Calls Tryd.prog 33 #[.agg #[.int .u64 (p : Int), .int .i64 (a : Int), .int .i64 (n : Int)], .slice A m c, .int .i64 (t : Int)] w (RetXB w (newA ⟨p, a, n⟩ (restL bs t))) := by
  have HE := Lib.hid (newA_is (s := ⟨p, a, n⟩) h0 h1 hl ha hbb hk)
  obtain ⟨hw1, hw2⟩ := take_rest (bs := bs) (a := t) (j := 2) (n := 12) (by have := h.len; omega) (by omega)
  rw [decide_eq_true (by omega)] at hw1
  replace hw2 := hw2 (by omega)
  have hT : ∀ w : World, Rd w B A m c bs → Calls Tryd.prog 31 #[.slice A m c, .int .i64 ((t + 2 : Nat) : Int), .int .i64 ((12 : Nat) : Int)] w fun e w' => e = .returned (.tuple #[.int .u64 ((takeN bs ((t + 2 : Nat) : Int) ((12 : Nat) : Int) : Nat) : Int), .bool (takeB bs ((t + 2 : Nat) : Int) ((12 : Nat) : Int))]) ∧ w = w' :=
    fun w h => take_all A m c B bs ((t + 2 : Nat) : Int) ((12 : Nat) : Int) w h hb hm (by omega) (by omega)
  rw [hw1, hw2] at hT
  obtain ⟨g1, g2⟩ := two_six _ hl
  rw [ha] at g1
  rw [hbb] at g2
  have hl64 : l < 64 := by have := num_cut_lt (restL bs t) 2 6; omega
  have hk64 : k ≤ 64 := by have := num_cut_lt (restL bs t) 8 6; omega
  generalize num (cut (restL bs t) 2 12) = y at *
  have q1 : (y : Int) / 64 = (l : Int) := by omega
  have q2 : (y : Int) % 64 = (b : Int) := by omega
  have q3 : (b : Int) + 1 = (k : Int) := by omega
  obtain ⟨v1, v2⟩ := win_rest (bs := bs) (t := t) (j := 14) (a := l) (n := k) (by have := h.len; omega) hlk
  have hwl := wordX_le (restL bs t) (h := 14) hlk
  have HV1 := Lib.hid v1
  have HV2 := Lib.hid v2
  have hW := fun (w : World) (h : Rd w B A m c bs) (hB : B ≤ w.heap.size) => takewin_any A m c B bs (t + 14) 0 l k w h hB hb hm (by omega) hlk
  clear hw1 hw2 g1 g2 h0 h1 ha hbb hk v1 v2
  generalize restL bs t = q at *
  generalize wordX q 14 l k = x at *
  have hb0 := two_below w (.cells #[.int .u64 (p : Int), .int .i64 (a : Int), .int .i64 (n : Int)] 24) (.cells #[.int .u64 0, .int .i64 0, .int .i64 0] 24)
  have hN := NewB.new w p a n l k
  by_cases hq : q.length < 14 + k
  · have e : newA ⟨p, a, n⟩ q = badX 2 := by rw [HE.out, if_neg (by omega), if_pos hq]
    rw [e]
    have H1 : Hid (takeB bs (t + 14 : Nat) k = false) := Lib.hid (HV1.out.trans (decide_eq_false (by omega)))
    rw [H1.out] at hW
    generalize takeN bs (t + 14 : Nat) k * 2 ^ (64 - l - k) = z at *
    clear HV1 HV2 H1 HE e
    go_enter Tryd.func33, Tryd.ntmps33
    go_wp2_with fail
    refine (hT _ (h.below (hb0.mono hB))).mono ?_
    rintro e w1 ⟨rfl, rfl⟩
    clear hT
    go_upto_region 7 with fail
    generalize ((w.alloc (.cells #[.int .u64 (p : Int), .int .i64 (a : Int), .int .i64 (n : Int)] 24)).alloc (.cells #[.int .u64 0, .int .i64 0, .int .i64 0] 24)).alloc (.cells #[.int .u64 0, .int .i64 (l : Int), .int .i64 (k : Int)] 24) = W at *
    obtain ⟨_, r0, r1, r2, _, _, _⟩ := hN.b11
    go_wp2_with fail
    refine (hW _ (h.below (hN.bel.mono hB)) (Nat.le_trans hB hN.bel.size)).mono ?_
    rintro e w2 ⟨rfl, hb2⟩
    replace hN := hN.below hb2
    clear r0 r1 r2
    obtain ⟨_, z0, z1, z2, zf0, zf1, zf2⟩ := hN.b6
    have bz := hN.b6.set (.int .u64 0) (.int .i64 0) (.int .i64 0)
    have hz := below_set3 hN.bel (g := w.heap.size + 1) (by omega) (.int .u64 0) (.int .i64 0) (.int .i64 0)
    go_wp2
    refine bodyPost_ret (v := .tuple #[.agg #[.int .u64 0, .int .i64 0, .int .i64 0], .int .i64 0, .iface 59 (.int .i64 2)]) ?_ rfl ⟨rfl, hz⟩
    simp [results, Tryd.results33, go_sem, bz.c0, bz.c1, bz.c2]
  · have H1 : Hid (takeB bs (t + 14 : Nat) k = true) := Lib.hid (HV1.out.trans (decide_eq_true (by omega)))
    rw [H1.out, HV2.out (by omega)] at hW
    clear HV1 HV2 H1
    have hp := hs.p
    have han : a + n ≤ 64 := hs.b
    have hnc := fun X h => anew_any p a n x X hp hwl h
    have hfc := fun X h => fits_any p a n x X han hwl h
    have hlx := lz_le x
    have HSZ : Hid (lzN x = l → 64 - ((lzN x : Nat) : Int) - ((tzN x : Nat) : Int) = ((szN x : Nat) : Int)) := Lib.hid (fun e => by
      have h0 : x ≠ 0 := by rintro rfl; rw [lz_zero] at e; omega
      have := sz_pos hwl h0
      omega)
    have HE2 : Hid (newA ⟨p, a, n⟩ q = if lzN x = l ∧ szN x = k ∧ ¬ fitsX ⟨p, a, n⟩ x then ⟨p ^^^ x, ⟨p ^^^ x, l, k⟩, 14 + k, 0⟩ else badX 3) := Lib.hid (by rw [HE.out, if_neg (by omega), if_neg hq])
    clear HE
    generalize p ^^^ x = v at *
    generalize 64 - ((lzN x : Nat) : Int) - ((tzN x : Nat) : Int) = zz at *
    generalize lzN x = lx at *
    generalize szN x = kx at *
    generalize newA ⟨p, a, n⟩ q = R at *
    go_enter Tryd.func33, Tryd.ntmps33
    go_wp2_with fail
    refine (hT _ (h.below (hb0.mono hB))).mono ?_
    rintro e w1 ⟨rfl, rfl⟩
    clear hT
    go_upto_region 7 with fail
    generalize ((w.alloc (.cells #[.int .u64 (p : Int), .int .i64 (a : Int), .int .i64 (n : Int)] 24)).alloc (.cells #[.int .u64 0, .int .i64 0, .int .i64 0] 24)).alloc (.cells #[.int .u64 0, .int .i64 (l : Int), .int .i64 (k : Int)] 24) = W at *
    obtain ⟨_, r0, r1, r2, _, _, _⟩ := hN.b11
    go_wp2_with fail
    refine (hW _ (h.below (hN.bel.mono hB)) (Nat.le_trans hB hN.bel.size)).mono ?_
    rintro e w2 ⟨rfl, hb2⟩
    replace hN := hN.below hb2
    clear r0 r1 r2 hb2 hW
    obtain ⟨_, r0, r1, r2, _, _, _⟩ := hN.b3
    go_wp2_with fail
    refine (hnc _ (hR.bel hN.bel)).mono ?_
    rintro e w3 ⟨rfl, hb3⟩
    replace hN := hN.below hb3
    clear r0 r1 r2 hb3 hnc
    go_upto_region 11 with fail
    have b13 := Box3.new w3 (.int .u64 (v : Int)) (.int .i64 (lx : Int)) (.int .i64 zz) 24
    have hg13 := hN.b11.lt
    replace hN := hN.below ((Below.refl _ _).alloc (Nat.le_refl _) (.cells #[.int .u64 (v : Int), .int .i64 (lx : Int), .int .i64 zz] 24))
    generalize w3.alloc (.cells #[.int .u64 (v : Int), .int .i64 (lx : Int), .int .i64 zz] 24) = W4 at *
    generalize w3.heap.size = g at *
    have b13t := b13
    obtain ⟨_, s0, s1, s2, _, _, _⟩ := b13t
    obtain ⟨_, q0', q1', q2', _, _, _⟩ := hN.b3
    obtain ⟨_, r0, r1, r2, _, _, _⟩ := hN.b11
    obtain ⟨_, z0, z1, z2, zf0, zf1, zf2⟩ := hN.b6
    have bz := hN.b6.set (.int .u64 0) (.int .i64 0) (.int .i64 0)
    have hz := below_set3 hN.bel (g := w.heap.size + 1) (by omega) (.int .u64 0) (.int .i64 0) (.int .i64 0)
    by_cases c1 : lx = l
    · have hzz := HSZ.out c1
      subst hzz
      clear HSZ
      have d1 : ((lx : Int) != (l : Int)) = false := by simp [c1]
      by_cases c2 : kx = k
      · have d2 : ((kx : Int) != (k : Int)) = false := by simp [c2]
        by_cases c3 : fitsX ⟨p, a, n⟩ x
        · have e : R = badX 3 := by rw [HE2.out, if_neg (fun h => h.2.2 c3)]
          rw [decide_eq_true c3] at hfc
          clear HE2 c1 c2 c3
          subst e
          go_wp2_with fail
          refine (hfc _ (hR.bel hN.bel)).mono ?_
          rintro e w5 ⟨rfl, hb5⟩
          replace hN := hN.below hb5
          clear z0 z1 z2 zf0 zf1 zf2 bz hz hfc s0 s1 s2 r0 r1 r2 q0' q1' q2'
          obtain ⟨_, z0, z1, z2, zf0, zf1, zf2⟩ := hN.b6
          have bz := hN.b6.set (.int .u64 0) (.int .i64 0) (.int .i64 0)
          have hz := below_set3 hN.bel (g := w.heap.size + 1) (by omega) (.int .u64 0) (.int .i64 0) (.int .i64 0)
          go_wp2
          refine bodyPost_ret (v := .tuple #[.agg #[.int .u64 0, .int .i64 0, .int .i64 0], .int .i64 0, .iface 59 (.int .i64 3)]) ?_ rfl ⟨rfl, hz⟩
          simp [results, Tryd.results33, go_sem, bz.c0, bz.c1, bz.c2]
        · have e : R = ⟨v, ⟨v, l, k⟩, 14 + k, 0⟩ := by rw [HE2.out, if_pos ⟨c1, c2, c3⟩]
          rw [decide_eq_false c3] at hfc
          clear HE2 c3
          subst e c1 c2
          go_wp2_with fail
          refine (hfc _ (hR.bel hN.bel)).mono ?_
          rintro e w5 ⟨rfl, hb5⟩
          replace hN := hN.below hb5
          replace b13 := b13.below hb5
          clear z0 z1 z2 zf0 zf1 zf2 bz hz hfc s0 s1 s2 r0 r1 r2 q0' q1' q2'
          go_upto_region 13 with fail
          obtain ⟨_, y0, y1, y2, yf0, yf1, yf2⟩ := hN.b6.drew
          obtain ⟨_, z0, z1, z2, zf0, zf1, zf2⟩ := hN.b6
          obtain ⟨_, r0, r1, r2, _, _, _⟩ := b13.drew
          obtain ⟨_, s0, s1, s2, _, _, _⟩ := b13
          have bz := (hN.b6.set (.int .u64 (v : Int)) (.int .i64 (lx : Int)) (.int .i64 (kx : Int))).drew
          have hz := (below_set3 hN.bel (g := w.heap.size + 1) (by omega) (.int .u64 (v : Int)) (.int .i64 (lx : Int)) (.int .i64 (kx : Int))).drew
          go_region
          all_goals
            go_wp2
            refine bodyPost_ret (v := .tuple #[.agg #[.int .u64 (v : Int), .int .i64 (lx : Int), .int .i64 (kx : Int)], .int .i64 ((14 + kx : Nat) : Int), .nilIface]) ?_ rfl ⟨rfl, hz⟩
            simp [results, Tryd.results33, go_sem, bz.c0, bz.c1, bz.c2]
      · have d2 : ((kx : Int) != (k : Int)) = true := by simp; omega
        have e : R = badX 3 := by rw [HE2.out, if_neg (fun h => c2 h.2.1)]
        clear HE2 c1 c2
        subst e
        go_wp2
        refine bodyPost_ret (v := .tuple #[.agg #[.int .u64 0, .int .i64 0, .int .i64 0], .int .i64 0, .iface 59 (.int .i64 3)]) ?_ rfl ⟨rfl, hz⟩
        simp [results, Tryd.results33, go_sem, bz.c0, bz.c1, bz.c2]
    · have d1 : ((lx : Int) != (l : Int)) = true := by simp; omega
      have e : R = badX 3 := by rw [HE2.out, if_neg (fun h => c1 h.1)]
      clear HE2 HSZ c1
      subst e
      go_wp2
      refine bodyPost_ret (v := .tuple #[.agg #[.int .u64 0, .int .i64 0, .int .i64 0], .int .i64 0, .iface 59 (.int .i64 3)]) ?_ rfl ⟨rfl, hz⟩
      simp [results, Tryd.results33, go_sem, bz.c0, bz.c1, bz.c2]

end Go.Proofs.YtfehlkilnghhiaaDoor
