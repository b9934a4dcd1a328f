/-
  The contracts of layer 7's behind, Get: what bits begin with in a state, from a place on.
-/
import Derived.Test.YtfehlkilnghhiaaDoorXorGet2
namespace Go.Proofs.YtfehlkilnghhiaaDoor
open Go.RowKit

theorem bnew_any (A : Option Addr) (m c B : Nat) (bs : List Nat) (t p a n : Nat) (w : World) (h : Rd w B A m c bs) (hB : B ≤ w.heap.size) (hb : ∀ x ∈ bs, x < 256) (hm : m ≤ 100000) (ht : t ≤ 8 * m)
    (hs : XS.May ⟨p, a, n⟩) (h0 : (restL bs t).getD 0 false = true) (h1 : (restL bs t).getD 1 false = true) (hR : TzW w) :
    Calls Tryd.prog 33 #[.agg #[.int .u64 (p : Int), .int .i64 (a : Int), .int .i64 (n : Int)], .slice A m c, .int .i64 (t : Int)] w (RetXB w (newA ⟨p, a, n⟩ (restL bs t))) := by
  by_cases hl : (restL bs t).length < 14
  · exact bnew_short A m c B bs t p a n w h hB hb hm ht hl
  · by_cases hw : 64 < num (cut (restL bs t) 2 6) + (num (cut (restL bs t) 8 6) + 1)
    · exact bnew_wide A m c B bs t p a n _ _ _ w h hB hb hm ht (by omega) h0 h1 rfl rfl rfl hw
    · exact bnew_in A m c B bs t p a n _ _ _ w h hB hb hm ht (by omega) hs h0 h1 rfl rfl rfl (by omega) hR

/-- one bit of bytes, told by Take -/
theorem take_bit {bs : List Nat} {t j : Nat} (h : t ≤ 8 * bs.length) (hj : j < (restL bs t).length) : takeB bs ((t + j : Nat) : Int) ((1 : Nat) : Int) = true ∧ takeN bs ((t + j : Nat) : Int) ((1 : Nat) : Int) = ((restL bs t).getD j false).toNat := by
  obtain ⟨h1, h2⟩ := take_rest (bs := bs) (a := t) (j := j) (n := 1) h (by omega)
  exact ⟨h1.trans (decide_eq_true (by omega)), (h2 (by omega)).trans (num_cut_one _ _ hj)⟩
theorem take_nobit {bs : List Nat} {t j : Nat} (h : t ≤ 8 * bs.length) (hj : (restL bs t).length ≤ j) : takeB bs ((t + j : Nat) : Int) ((1 : Nat) : Int) = false :=
  (take_rest (bs := bs) (a := t) (j := j) (n := 1) h (by omega)).1.trans (decide_eq_false (by omega))

set_option maxHeartbeats 1000000 in
theorem behind_none (A : Option Addr) (m c B : Nat) (bs : List Nat) (t : Int) (p a n : Nat) (w : World) (h : Rd w B A m c bs) (hB : B ≤ w.heap.size) (hb : ∀ x ∈ bs, x < 256) (hm : m ≤ 100000) (ht : -9223372036854775808 ≤ t ∧ t ≤ 9223372036854775807)
    (hno : takeB bs t 1 = false) (q : List Bool) (hq : q.length = 0) :
    Calls Tryd.prog 23 #[.agg #[.int .u64 (p : Int), .int .i64 (a : Int), .int .i64 (n : Int)], .slice A m c, .int .i64 t] w (RetXB w (getX ⟨p, a, n⟩ q)) := by
  have e : getX ⟨p, a, n⟩ q = badX 2 := by unfold getX; rw [if_pos hq]
  rw [e]
  have hT : ∀ w : World, Rd w B A m c bs → Calls Tryd.prog 31 #[.slice A m c, .int .i64 t, .int .i64 1] w fun e w' => e = .returned (.tuple #[.int .u64 ((takeN bs t 1 : Nat) : Int), .bool (takeB bs t 1)]) ∧ w = w' :=
    fun w h => take_all A m c B bs t 1 w h hb hm ht (by omega)
  rw [hno] at hT
  generalize takeN bs t 1 = y at *
  clear e
  have hb0 := two_below w (.cells #[.int .u64 (p : Int), .int .i64 (a : Int), .int .i64 (n : Int)] 24) (.cells #[.int .u64 0, .int .i64 0, .int .i64 0] 24)
  go_enter Tryd.func23, Tryd.ntmps23
  go_wp2_with fail
  refine (hT _ (h.below (hb0.mono hB))).mono ?_
  rintro e w1 ⟨rfl, rfl⟩
  go_wp2
  go_returns
  exact ⟨rfl, hb0⟩

set_option maxHeartbeats 2000000 in
theorem behind_some (A : Option Addr) (m c B : Nat) (bs : List Nat) (t p a n : Nat) (w : World) (h : Rd w B A m c bs) (hB : B ≤ w.heap.size) (hb : ∀ x ∈ bs, x < 256) (hm : m ≤ 100000) (ht : t ≤ 8 * m)
    (hs : XS.May ⟨p, a, n⟩) (hR : TzW w) (hq : 0 < (restL bs t).length) :
    Calls Tryd.prog 23 #[.agg #[.int .u64 (p : Int), .int .i64 (a : Int), .int .i64 (n : Int)], .slice A m c, .int .i64 (t : Int)] w (RetXB w (getX ⟨p, a, n⟩ (restL bs t))) := by
  have hl := h.len
  have hb0 := two_below w (.cells #[.int .u64 (p : Int), .int .i64 (a : Int), .int .i64 (n : Int)] 24) (.cells #[.int .u64 0, .int .i64 0, .int .i64 0] 24)
  have b3 := (Box3.new w (.int .u64 (p : Int)) (.int .i64 (a : Int)) (.int .i64 (n : Int)) 24).onA (.cells #[.int .u64 0, .int .i64 0, .int .i64 0] 24)
  have b6 := Box3.new (w.alloc (.cells #[.int .u64 (p : Int), .int .i64 (a : Int), .int .i64 (n : Int)] 24)) (.int .u64 0) (.int .i64 0) (.int .i64 0) 24
  simp only [World.size_alloc] at b6
  obtain ⟨i1, i2⟩ := take_bit (bs := bs) (t := t) (j := 0) (by omega) hq
  rw [Nat.add_zero] at i1 i2
  have hT1 : ∀ w : World, Rd w B A m c bs → Calls Tryd.prog 31 #[.slice A m c, .int .i64 (t : Int), .int .i64 ((1 : Nat) : Int)] w fun e w' => e = .returned (.tuple #[.int .u64 ((takeN bs (t : Int) ((1 : Nat) : Int) : Nat) : Int), .bool (takeB bs (t : Int) ((1 : Nat) : Int))]) ∧ w = w' :=
    fun w h => take_all A m c B bs (t : Int) ((1 : Nat) : Int) w h hb hm (by omega) (by omega)
  rw [i1, i2] at hT1
  have hT2 : ∀ w : World, Rd w B A m c bs → Calls Tryd.prog 31 #[.slice A m c, .int .i64 ((t + 1 : Nat) : Int), .int .i64 ((1 : Nat) : Int)] w fun e w' => e = .returned (.tuple #[.int .u64 ((takeN bs ((t + 1 : Nat) : Int) ((1 : Nat) : Int) : Nat) : Int), .bool (takeB bs ((t + 1 : Nat) : Int) ((1 : Nat) : Int))]) ∧ w = w' :=
    fun w h => take_all A m c B bs ((t + 1 : Nat) : Int) ((1 : Nat) : Int) w h hb hm (by omega) (by omega)
  clear i1 i2
  by_cases h0 : (restL bs t).getD 0 false = false
  · have e : getX ⟨p, a, n⟩ (restL bs t) = ⟨p, ⟨p, a, n⟩, 1, 0⟩ := by unfold getX; rw [if_neg (by omega), if_pos h0]
    rw [e]
    rw [h0] at hT1
    clear e hT2 hq h0
    go_enter Tryd.func23, Tryd.ntmps23
    go_wp2_with fail
    refine (hT1 _ (h.below (hb0.mono hB))).mono ?_
    rintro e w1 ⟨rfl, rfl⟩
    go_wp2
    go_returns
    exact ⟨rfl, two_below _ _ _⟩
  · have h0' : (restL bs t).getD 0 false = true := by simpa using h0
    rw [h0'] at hT1
    by_cases hq1 : (restL bs t).length = 1
    · have e : getX ⟨p, a, n⟩ (restL bs t) = badX 2 := by unfold getX; rw [if_neg (by omega), if_neg h0, if_pos hq1]
      rw [e]
      rw [take_nobit (by omega) (by omega)] at hT2
      generalize takeN bs ((t + 1 : Nat) : Int) ((1 : Nat) : Int) = y at *
      clear e hq h0 h0' hq1
      go_enter Tryd.func23, Tryd.ntmps23
      go_wp2_with fail
      refine (hT1 _ (h.below (hb0.mono hB))).mono ?_
      rintro e w1 ⟨rfl, rfl⟩
      go_wp2_with fail
      refine (hT2 _ (h.below (hb0.mono hB))).mono ?_
      rintro e w1 ⟨rfl, rfl⟩
      go_wp2
      go_returns
      exact ⟨rfl, two_below _ _ _⟩
    · obtain ⟨i1, i2⟩ := take_bit (bs := bs) (t := t) (j := 1) (by omega) (by omega)
      rw [i1, i2] at hT2
      clear i1 i2
      by_cases h1 : (restL bs t).getD 1 false = false
      · have e : getX ⟨p, a, n⟩ (restL bs t) = tailX ⟨p, a, n⟩ (restL bs t) 2 a n := by unfold getX; rw [if_neg (by omega), if_neg h0, if_neg hq1, if_pos h1]
        rw [e]
        have hO := fun X (h : Rd X B A m c bs) (hB : B ≤ X.heap.size) => bold_any A m c B bs t p a n X h hB hb hm ht hs h0' h1
        generalize tailX ⟨p, a, n⟩ (restL bs t) 2 a n = R at *
        rw [h1] at hT2
        clear e hq h0 h0' hq1 h1
        go_enter Tryd.func23, Tryd.ntmps23
        go_wp2_with fail
        refine (hT1 _ (h.below (hb0.mono hB))).mono ?_
        rintro e w1 ⟨rfl, rfl⟩
        go_wp2_with fail
        refine (hT2 _ (h.below (hb0.mono hB))).mono ?_
        rintro e w1 ⟨rfl, rfl⟩
        go_wp2_with fail
        refine (hO _ (h.below (hb0.mono hB)) (Nat.le_trans hB hb0.size)).mono ?_
        rintro e w2 ⟨rfl, hb2⟩
        obtain ⟨_, z0, z1, z2, zf0, zf1, zf2⟩ := b6.below hb2
        have bz := (b6.below hb2).set (.int .u64 (R.s.prev : Int)) (.int .i64 (R.s.lead : Int)) (.int .i64 (R.s.len : Int))
        have hz := below_set3 (hb0.trans (hb2.mono hb0.size)) (g := w.heap.size + 1) (by omega) (.int .u64 (R.s.prev : Int)) (.int .i64 (R.s.lead : Int)) (.int .i64 (R.s.len : Int))
        clear hT1 hT2 hO
        go_wp2
        refine bodyPost_ret (v := .tuple #[.agg #[.int .u64 (R.s.prev : Int), .int .i64 (R.s.lead : Int), .int .i64 (R.s.len : Int)], .int .i64 (R.n : Int), errV R.e]) ?_ rfl ⟨rfl, hz⟩
        simp [results, Tryd.results23, go_sem, bz.c0, bz.c1, bz.c2]
      · have h1' : (restL bs t).getD 1 false = true := by simpa using h1
        have e : getX ⟨p, a, n⟩ (restL bs t) = newA ⟨p, a, n⟩ (restL bs t) := by unfold getX newA; rw [if_neg (by omega), if_neg h0, if_neg hq1, if_neg h1]
        rw [e]
        have hO := fun X (h : Rd X B A m c bs) (hB : B ≤ X.heap.size) hR => bnew_any A m c B bs t p a n X h hB hb hm ht hs h0' h1' hR
        generalize newA ⟨p, a, n⟩ (restL bs t) = R at *
        rw [h1'] at hT2
        clear e hq h0 h0' hq1 h1 h1'
        go_enter Tryd.func23, Tryd.ntmps23
        go_wp2_with fail
        refine (hT1 _ (h.below (hb0.mono hB))).mono ?_
        rintro e w1 ⟨rfl, rfl⟩
        go_wp2_with fail
        refine (hT2 _ (h.below (hb0.mono hB))).mono ?_
        rintro e w1 ⟨rfl, rfl⟩
        go_wp2_with fail
        refine (hO _ (h.below (hb0.mono hB)) (Nat.le_trans hB hb0.size) (hR.bel hb0)).mono ?_
        rintro e w2 ⟨rfl, hb2⟩
        obtain ⟨_, z0, z1, z2, zf0, zf1, zf2⟩ := b6.below hb2
        have bz := (b6.below hb2).set (.int .u64 (R.s.prev : Int)) (.int .i64 (R.s.lead : Int)) (.int .i64 (R.s.len : Int))
        have hz := below_set3 (hb0.trans (hb2.mono hb0.size)) (g := w.heap.size + 1) (by omega) (.int .u64 (R.s.prev : Int)) (.int .i64 (R.s.lead : Int)) (.int .i64 (R.s.len : Int))
        clear hT1 hT2 hO
        go_wp2
        refine bodyPost_ret (v := .tuple #[.agg #[.int .u64 (R.s.prev : Int), .int .i64 (R.s.lead : Int), .int .i64 (R.s.len : Int)], .int .i64 (R.n : Int), errV R.e]) ?_ rfl ⟨rfl, hz⟩
        simp [results, Tryd.results23, go_sem, bz.c0, bz.c1, bz.c2]

theorem behind_any (A : Option Addr) (m c B : Nat) (bs : List Nat) (t : Int) (p a n : Nat) (w : World) (h : Rd w B A m c bs) (hB : B ≤ w.heap.size) (hb : ∀ x ∈ bs, x < 256) (hm : m ≤ 100000) (ht : -9223372036854775808 ≤ t ∧ t ≤ 9223372036854775807)
    (hs : XS.May ⟨p, a, n⟩) (hR : TzW w) :
    Calls Tryd.prog 23 #[.agg #[.int .u64 (p : Int), .int .i64 (a : Int), .int .i64 (n : Int)], .slice A m c, .int .i64 t] w (RetXB w (getX ⟨p, a, n⟩ (restL bs t))) := by
  have hl := h.len
  by_cases hy : 0 ≤ t ∧ t ≤ 8 * (m : Int)
  · obtain ⟨t', rfl⟩ := Int.eq_ofNat_of_zero_le hy.1
    by_cases hq : (restL bs t').length = 0
    · have := take_nobit (bs := bs) (t := t') (j := 0) (by omega) (by omega)
      rw [Nat.add_zero] at this
      exact behind_none A m c B bs t' p a n w h hB hb hm ht this _ hq
    · exact behind_some A m c B bs t' p a n w h hB hb hm (by omega) hs hR (by omega)
  · have := (takeB_no (bs := bs) (a := t) (n := 1) (by omega)).1
    exact behind_none A m c B bs t p a n w h hB hb hm ht this _ (by rw [restL_no (by omega)]; rfl)

theorem testX_v (s : XS) (p : List Bool) (h n x : Nat) : (testX s p h n x).v = (testX s p h n x).s.prev := by
  unfold testX
  split
  · unfold nextOf
    split <;> rfl
  · rfl
theorem tailX_v (s : XS) (p : List Bool) (h a n : Nat) : (tailX s p h a n).v = (tailX s p h a n).s.prev := by
  unfold tailX
  split
  · rfl
  · split
    · rfl
    · exact testX_v _ _ _ _ _
theorem getX_v (s : XS) (p : List Bool) : (getX s p).v = (getX s p).s.prev := by
  unfold getX
  split
  · rfl
  · split
    · rfl
    · split
      · rfl
      · split
        · exact tailX_v _ _ _ _ _
        · split
          · rfl
          · exact tailX_v _ _ _ _ _

/-- what Get comes to -/
def RetXG (w : World) (r : XA) (e : Ending) (w' : World) : Prop :=
  e = .returned (.tuple #[.int .u64 (r.v : Int), .agg #[.int .u64 (r.s.prev : Int), .int .i64 (r.s.lead : Int), .int .i64 (r.s.len : Int)], .int .i64 (r.n : Int), errV r.e]) ∧ Below w.heap.size w w'

set_option maxHeartbeats 1000000 in
theorem xget_any (A : Option Addr) (m c B : Nat) (bs : List Nat) (t : Int) (p a n : Nat) (w : World) (h : Rd w B A m c bs) (hB : B ≤ w.heap.size) (hb : ∀ x ∈ bs, x < 256) (hm : m ≤ 100000) (ht : -9223372036854775808 ≤ t ∧ t ≤ 9223372036854775807)
    (hs : XS.May ⟨p, a, n⟩) (hR : TzW w) :
    Calls Tryd.prog 10 #[.agg #[.int .u64 (p : Int), .int .i64 (a : Int), .int .i64 (n : Int)], .slice A m c, .int .i64 t] w (RetXG w (getX ⟨p, a, n⟩ (restL bs t))) := by
  have hb0 := two_below w (.cells #[.int .u64 (p : Int), .int .i64 (a : Int), .int .i64 (n : Int)] 24) (.cells #[.int .u64 0, .int .i64 0, .int .i64 0] 24)
  have b7 := Box3.new (w.alloc (.cells #[.int .u64 (p : Int), .int .i64 (a : Int), .int .i64 (n : Int)] 24)) (.int .u64 0) (.int .i64 0) (.int .i64 0) 24
  simp only [World.size_alloc] at b7
  have hO := fun X (h : Rd X B A m c bs) (hB : B ≤ X.heap.size) hR => behind_any A m c B bs t p a n X h hB hb hm ht hs hR
  have hv := getX_v ⟨p, a, n⟩ (restL bs t)
  unfold RetXG
  rw [hv]
  clear hv
  generalize getX ⟨p, a, n⟩ (restL bs t) = R at *
  go_enter Tryd.func10, Tryd.ntmps10
  go_wp2_with fail
  refine (hO _ (h.below (hb0.mono hB)) (Nat.le_trans hB hb0.size) (hR.bel hb0)).mono ?_
  rintro e w2 ⟨rfl, hb2⟩
  replace b7 := b7.below hb2
  have hz := hb0.trans (hb2.mono hb0.size)
  clear hO
  go_upto_region 2 with fail
  have b10 := Box3.new w2 (.int .u64 (R.s.prev : Int)) (.int .i64 (R.s.lead : Int)) (.int .i64 (R.s.len : Int)) 24
  have hlt := b7.lt
  replace b7 := b7.onA (.cells #[.int .u64 (R.s.prev : Int), .int .i64 (R.s.lead : Int), .int .i64 (R.s.len : Int)] 24)
  replace hz := hz.alloc hz.size (.cells #[.int .u64 (R.s.prev : Int), .int .i64 (R.s.lead : Int), .int .i64 (R.s.len : Int)] 24)
  generalize w2.alloc (.cells #[.int .u64 (R.s.prev : Int), .int .i64 (R.s.lead : Int), .int .i64 (R.s.len : Int)] 24) = W at *
  generalize w2.heap.size = g at *
  have bz := (b7.set (.int .u64 (R.s.prev : Int)) (.int .i64 (R.s.lead : Int)) (.int .i64 (R.s.len : Int))).drew
  have hzz := (below_set3 hz (g := w.heap.size + 1) (by omega) (.int .u64 (R.s.prev : Int)) (.int .i64 (R.s.lead : Int)) (.int .i64 (R.s.len : Int))).drew
  obtain ⟨_, y0, y1, y2, yf0, yf1, yf2⟩ := b7.drew
  obtain ⟨_, z0, z1, z2, zf0, zf1, zf2⟩ := b7
  obtain ⟨_, r0, r1, r2, _, _, _⟩ := b10.drew
  obtain ⟨_, s0, s1, s2, _, _, _⟩ := b10
  go_region
  all_goals
    go_wp2
    refine bodyPost_ret (v := .tuple #[.int .u64 (R.s.prev : Int), .agg #[.int .u64 (R.s.prev : Int), .int .i64 (R.s.lead : Int), .int .i64 (R.s.len : Int)], .int .i64 (R.n : Int), errV R.e]) ?_ rfl ⟨rfl, hzz⟩
    simp [results, Tryd.results10, go_sem, bz.c0, bz.c1, bz.c2]

end Go.Proofs.YtfehlkilnghhiaaDoor
