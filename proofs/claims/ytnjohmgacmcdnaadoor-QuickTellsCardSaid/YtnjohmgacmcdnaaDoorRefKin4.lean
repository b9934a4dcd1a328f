/-
  The contract of the reference's GetSample behind the first sample; and for any state.
-/
import Derived.Test.YtnjohmgacmcdnaaDoorRefKin3
namespace Go.Proofs.YtnjohmgacmcdnaaDoor
open Go.RowKit

theorem rd_tail_end {w : World} {B m c n : Nat} {A : Option Addr} {bs : List Nat} (h : Rd w B A m c bs) (hk : n ≤ m) (he : c = n) : Rd w B A (m - n) (c - n) (bs.drop n) := by
  subst he
  rw [Nat.sub_self]
  exact h.tailEnd hk
theorem GY.onA {w X : World} {s : KS} {g16 g18 : Nat} {l8 l9 l16 l18 : List Value} (h : GY w X s g16 g18 l8 l9 l16 l18) (o : Obj) : GY w (X.alloc o) s g16 g18 l8 l9 l16 l18 := h.below ((Below.refl _ _).alloc (Nat.le_refl _) o)
theorem GY.oth3 {w X : World} {s : KS} {g16 g18 d : Nat} {l8 l9 l16 l18 : List Value} (h : GY w X s g16 g18 l8 l9 l16 l18) (h1 : d ≠ g16) (h2 : d ≠ g18) (h3 : w.heap.size + 1 + 1 < d) (u0 u1 u2 : Value) : GY w (((X.setCell ⟨d, 0, none⟩ (u0)).setCell ⟨d, 1, none⟩ (u1)).setCell ⟨d, 2, none⟩ (u2)) s g16 g18 l8 l9 l16 l18 :=
  ⟨⟨below_set3' h.gx.bel (by omega) _ _ _, ((h.gx.b5.oth (by omega) _ _).oth (by omega) _ _).oth (by omega) _ _, ((h.gx.b8.oth (by omega) _ _).oth (by omega) _ _).oth (by omega) _ _, ((h.gx.b9.oth (by omega) _ _).oth (by omega) _ _).oth (by omega) _ _⟩,
    ((h.b16.oth (Ne.symm h1) _ _).oth (Ne.symm h1) _ _).oth (Ne.symm h1) _ _, ((h.b18.oth (Ne.symm h2) _ _).oth (Ne.symm h2) _ _).oth (Ne.symm h2) _ _, h.h16, h.h18⟩
theorem GY.setV {w X : World} {s : KS} {g16 g18 : Nat} {l8 l9 l16 : List Value} {a b : Value} (h : GY w X s g16 g18 l8 l9 l16 [a, b]) (hne : g16 ≠ g18) (u : Value) : GY w (X.setCell ⟨g18, 1, none⟩ u) s g16 g18 l8 l9 l16 [a, u] :=
  have := h.h18
  ⟨⟨below_set h.gx.bel (by omega) _ _, h.gx.b5.oth (by omega) _ _, h.gx.b8.oth (by omega) _ _, h.gx.b9.oth (by omega) _ _⟩, h.b16.oth hne _ _, h.b18.put 1 _, h.h16, h.h18⟩
theorem GY.set16 {w X : World} {s : KS} {g16 g18 : Nat} {l8 l9 l18 : List Value} {a b c : Value} (h : GY w X s g16 g18 l8 l9 [a, b, c] l18) (hne : g18 ≠ g16) (u0 u1 u2 : Value) : GY w (((X.setCell ⟨g16, 0, none⟩ (u0)).setCell ⟨g16, 1, none⟩ (u1)).setCell ⟨g16, 2, none⟩ (u2)) s g16 g18 l8 l9 [u0, u1, u2] l18 :=
  have := h.h16
  ⟨⟨below_set3' h.gx.bel (by omega) _ _ _, ((h.gx.b5.oth (by omega) _ _).oth (by omega) _ _).oth (by omega) _ _, ((h.gx.b8.oth (by omega) _ _).oth (by omega) _ _).oth (by omega) _ _, ((h.gx.b9.oth (by omega) _ _).oth (by omega) _ _).oth (by omega) _ _⟩,
    h.b16.all3 _ _ _, ((h.b18.oth hne _ _).oth hne _ _).oth hne _ _, h.h16, h.h18⟩
theorem refS_wrap (a b c : Int) : wrap64 (IntKind.u64.wrap (IntKind.u64.wrap (IntKind.u64.wrap a + IntKind.u64.wrap b) + IntKind.u64.wrap c)) = w64 (a + b + c) := by
  rw [w64_wrap, u64_mod, u64_mod, u64_mod, u64_mod, u64_mod]
  unfold w64
  omega

set_option maxRecDepth 20000 in
set_option maxHeartbeats 2000000 in
theorem rget_terr (k : Nat) (s : KS) (A : Option Addr) (m c : Nat) (p : List Bool) (w : World) (hk : k = 1 ∨ k = 2) (h0 : s.n ≠ 0) (h : Rd w w.heap.size A m c (enc p)) (hm : m ≤ 100000) (st : Int) (n e : Nat) (hd : DGets p st n e) (he : e ≠ 0) :
    Calls Tryd.prog 18 #[.int .i64 (k : Int), (.agg #[.int .i64 (s.n : Int), .int .i64 s.t, .int .i64 s.d, .int .u64 (s.v : Int), .int .u64 (s.e : Int), .int .u64 (s.x.prev : Int), .int .i64 (s.x.lead : Int), .int .i64 (s.x.len : Int)]), .slice A m c] w fun f w' => f = .returned (.tuple #[.agg #[.int .i64 0, .int .u64 0], (.agg #[.int .i64 0, .int .i64 0, .int .i64 0, .int .u64 0, .int .u64 0, .int .u64 0, .int .i64 0, .int .i64 0]), .int .i64 0, .int .i64 (e : Int)]) ∧ Below w.heap.size w w' := by
  have hX := sworld_is w s
  have h1 : ((s.n : Int) == 0) = false := by simp [h0]
  have hne : ((e : Int) != 0) = true := by simp [he]
  have hG : ∀ X, Rd X X.heap.size A m c (enc p) → Calls Tryd.prog 30 #[.slice A m c] X fun f X' => f = .returned (.tuple #[.int .i64 st, .int .i64 (n : Int), .int .i64 (e : Int)]) ∧ Below X.heap.size X X' := fun X hX =>
    (rgetdod_any A m c p X hX hm).mono fun f X' ⟨v', n', k', h1, h2, h3⟩ => by
      obtain ⟨rfl, rfl, rfl⟩ := hd.same h1
      exact ⟨h2, h3⟩
  have hr := (h.below hX.bel).more hX.bel.size
  clear h0 he hd h
  rcases kind_tests hk with ⟨k1, k2, k3⟩ | ⟨k1, k2, k3, k4⟩
  all_goals
    clear hk
    go_enter Tryd.func18, Tryd.ntmps18
    go_wp2_with fail
    change Calls _ _ _ (sworld w s) _
    generalize sworld w s = W at *
    refine (hG _ hr).mono ?_
    rintro e' w1 ⟨rfl, hb1⟩
    replace hX := hX.below hb1
    clear hb1 hG hr
    obtain ⟨a0, a1⟩ := hX.b8.get2
    obtain ⟨af0, af1⟩ := hX.b8.free2
    obtain ⟨d0, d1, d2, d3, d4, d5, d6, d7⟩ := hX.b9.get8
    obtain ⟨df0, df1, df2, df3, df4, df5, df6, df7⟩ := hX.b9.free8
    go_wp2
    have hY := hX.zero (.int .i64 0) (.int .u64 0) (.int .i64 0) (.int .i64 0) (.int .i64 0) (.int .u64 0) (.int .u64 0) (.int .u64 0) (.int .i64 0) (.int .i64 0)
    clear a0 a1 af0 af1 d0 d1 d2 d3 d4 d5 d6 d7 df0 df1 df2 df3 df4 df5 df6 df7 hX
    generalize ((((((((((w1.setCell ⟨w.heap.size + 1, 0, none⟩ (.int .i64 0)).setCell ⟨w.heap.size + 1, 1, none⟩ (.int .u64 0)).setCell ⟨w.heap.size + 1 + 1, 0, none⟩ (.int .i64 0)).setCell ⟨w.heap.size + 1 + 1, 1, none⟩ (.int .i64 0)).setCell ⟨w.heap.size + 1 + 1, 2, none⟩ (.int .i64 0)).setCell ⟨w.heap.size + 1 + 1, 3, none⟩ (.int .u64 0)).setCell ⟨w.heap.size + 1 + 1, 4, none⟩ (.int .u64 0)).setCell ⟨w.heap.size + 1 + 1, 5, none⟩ (.int .u64 0)).setCell ⟨w.heap.size + 1 + 1, 6, none⟩ (.int .i64 0)).setCell ⟨w.heap.size + 1 + 1, 7, none⟩ (.int .i64 0)) = X at *
    obtain ⟨a0, a1⟩ := hY.b8.get2
    obtain ⟨d0, d1, d2, d3, d4, d5, d6, d7⟩ := hY.b9.get8
    refine bodyPost_ret (v := .tuple #[.agg #[.int .i64 0, .int .u64 0], (.agg #[.int .i64 0, .int .i64 0, .int .i64 0, .int .u64 0, .int .u64 0, .int .u64 0, .int .i64 0, .int .i64 0]), .int .i64 0, .int .i64 (e : Int)]) ?_ rfl ⟨rfl, hY.bel⟩
    simp [results, Tryd.results18, go_sem, a0, a1, d0, d1, d2, d3, d4, d5, d6, d7]

set_option maxRecDepth 20000 in
set_option maxHeartbeats 8000000 in
theorem rget_later (k : Nat) (s : KS) (A : Option Addr) (m c : Nat) (p : List Bool) (w : World) (hk : k = 1 ∨ k = 2) (hs : s.May) (hn : s.n ≤ 1000000) (h0 : s.n ≠ 0) (h : Rd w w.heap.size A m c (enc p)) (hm : m ≤ 100000) (st : Int) (n : Nat) (hd : DGets p st n 0)
    (v : Nat) (y : XS) (j e : Nat) (hv : VGets k s (p.drop n) v y j e) :
    Calls Tryd.prog 18 #[.int .i64 (k : Int), (.agg #[.int .i64 (s.n : Int), .int .i64 s.t, .int .i64 s.d, .int .u64 (s.v : Int), .int .u64 (s.e : Int), .int .u64 (s.x.prev : Int), .int .i64 (s.x.lead : Int), .int .i64 (s.x.len : Int)]), .slice A m c] w fun f w' => f = .returned (.tuple #[(.agg #[.int .i64 (laterK k s st n 0 v y j e).t, .int .u64 ((laterK k s st n 0 v y j e).v : Int)]), (.agg #[.int .i64 ((laterK k s st n 0 v y j e).s.n : Int), .int .i64 (laterK k s st n 0 v y j e).s.t, .int .i64 (laterK k s st n 0 v y j e).s.d, .int .u64 ((laterK k s st n 0 v y j e).s.v : Int), .int .u64 ((laterK k s st n 0 v y j e).s.e : Int), .int .u64 ((laterK k s st n 0 v y j e).s.x.prev : Int), .int .i64 ((laterK k s st n 0 v y j e).s.x.lead : Int), .int .i64 ((laterK k s st n 0 v y j e).s.x.len : Int)]), .int .i64 ((laterK k s st n 0 v y j e).n : Int), .int .i64 ((laterK k s st n 0 v y j e).e : Int)]) ∧ Below w.heap.size w w' := by
  have hl : p.length = m := by have := h.len; rwa [enc_length] at this
  have hX := sworld_is w s
  have h1 : ((s.n : Int) == 0) = false := by simp [h0]
  have hG : ∀ X, Rd X X.heap.size A m c (enc p) → Calls Tryd.prog 30 #[.slice A m c] X fun f X' => f = .returned (.tuple #[.int .i64 st, .int .i64 (n : Int), .int .i64 0]) ∧ Below X.heap.size X X' := fun X hX =>
    (rgetdod_any A m c p X hX hm).mono fun f X' ⟨v', n', k', h1, h2, h3⟩ => by
      obtain ⟨rfl, rfl, rfl⟩ := hd.same h1
      exact ⟨h2, h3⟩
  have hr := (h.below hX.bel).more hX.bel.size
  have hnm : n ≤ m := by rw [← hl]; exact (dgets_back hd).2
  have i1 := (gets_in hd).2.1
  have i2 := vgets_in hs hv
  have hS := refS_wrap s.t s.d st
  have HV := Lib.hid hv
  have HL : Hid (laterK k s st n 0 v y j e = if e ≠ 0 then badK e else if w64 (s.t + s.d + st) ≤ s.t then badK 4 else ⟨w64 (s.t + s.d + st), v, afterK k s (w64 (s.t + s.d + st)) v y, n + j, 0⟩) := Lib.hid (by unfold laterK; rw [if_neg (by omega)])
  have hAF := fun X => refafter_any k s (w64 (s.t + s.d + st)) v y X hk hn
  generalize laterK k s st n 0 v y j e = R at *
  generalize w64 (s.t + s.d + st) = t at *
  generalize afterK k s t v y = s' at *
  have hc := h.cap
  have hn0 : (0 : Int) ≤ (n : Int) := by omega
  have hnm' : (n : Int) ≤ (m : Int) := by omega
  have hmc' : (m : Int) ≤ (c : Int) := by omega
  clear h0 hd hv h
  have HK : Hid (k = 1 ∨ k = 2) := Lib.hid hk
  rcases hk with hk | hk
  · -- by what is other than ahead
    have k1 : ((k : Int) != 1) = false := by simp [hk]
    have k2 : ((k : Int) == 2) = false := by simp [hk]
    have HK1 := Lib.hid hk
    clear hk
    go_enter Tryd.func18, Tryd.ntmps18
    go_wp2_with fail
    change Calls _ _ _ (sworld w s) _
    generalize sworld w s = W at *
    refine (hG _ hr).mono ?_
    rintro e' w1 ⟨rfl, hb1⟩
    replace hX := hX.below hb1
    replace hr := (hr.below hb1).more hb1.size
    clear hb1 hG
    obtain ⟨q0, q1, q2, q3, q4, q5, q6, q7⟩ := hX.b5.get8
    go_upto_region 14 with fail
    have b14 := (BoxL.new w1 [.int .i64 t, .int .u64 0] 41).onA (.cells #[.int .u64 0, .int .i64 0, .int .i64 0] 53)
    have b15 := BoxL.new (w1.alloc (.cells #[.int .i64 t, .int .u64 0] 41)) [.int .u64 0, .int .i64 0, .int .i64 0] 53
    simp only [World.size_alloc] at b15
    have hal : Below w1.heap.size w1 ((w1.alloc (.cells #[.int .i64 t, .int .u64 0] 41)).alloc (.cells #[.int .u64 0, .int .i64 0, .int .i64 0] 53)) := by repeat (first | with_reducible exact Below.refl _ _ | assumption | with_reducible refine Below.drew ?_ | with_reducible refine Below.alloc ?_ (by (first | assumption | omega | (simp; done) | (simp; omega))) _)
    have hlt9 := hX.b9.lt
    have gy : GY w _ s (w1.heap.size + 1) w1.heap.size _ _ _ _ := GY.mk (hX.below hal) b15 b14 (by omega) (by omega)
    replace hr := (hr.below hal).more hal.size
    clear b14 b15 hal q0 q1 q2 q3 q4 q5 q6 q7 hX
    generalize (w1.alloc (.cells #[.int .i64 t, .int .u64 0] 41)).alloc (.cells #[.int .u64 0, .int .i64 0, .int .i64 0] 53) = W2 at *
    generalize w1.heap.size = g at *
    go_upto_if 78 with fail
    go_cut [13, 16] (fun x13 x16 wx => x13 = .int .i64 (e : Int) ∧ x16 = .int .i64 (j : Int) ∧ GY w wx s (g + 1) g [.int .i64 0, .int .u64 0] [.int .i64 0, .int .i64 0, .int .i64 0, .int .u64 0, .int .u64 0, .int .u64 0, .int .i64 0, .int .i64 0] [.int .u64 (y.prev : Int), .int .i64 (y.lead : Int), .int .i64 (y.len : Int)] [.int .i64 t, .int .u64 (v : Int)])
    case first =>
      obtain ⟨q0, q1, q2, q3, q4, q5, q6, q7⟩ := gy.gx.b5.get8
      have hv := HV.out
      unfold VGets at hv
      rw [if_pos HK1.out] at hv
      have hG2 : ∀ X A' m' c', Rd X X.heap.size A' m' c' (enc (p.drop n)) → m' ≤ 100000 → Calls Tryd.prog 31 #[(.agg #[.int .u64 (s.x.prev : Int), .int .i64 (s.x.lead : Int), .int .i64 (s.x.len : Int)]), .slice A' m' c'] X fun f X' => f = .returned (.tuple #[.int .u64 (v : Int), (.agg #[.int .u64 (y.prev : Int), .int .i64 (y.lead : Int), .int .i64 (y.len : Int)]), .int .i64 (j : Int), .int .i64 (e : Int)]) ∧ Below X.heap.size X X' := fun X A' m' c' hX hm' => by
        obtain ⟨rfl, rfl, rfl, rfl⟩ := hv
        exact rgetx_any A' m' c' _ s.x.prev s.x.lead s.x.len X hX hm' hs.x
      clear HV hv HL hAF
      by_cases hce : c = n
      · have hr2 := rd_tail_end hr hnm hce
        rw [enc_drop] at hr2
        have hce' : (c = n) = True := eq_true hce
        clear hce
        go_upto_region 19 with fail
        go_cut [20, 21, 22, 23] (fun x20 x21 x22 x23 wx => ∃ g21, x20 = .int .u64 (v : Int) ∧ x21 = .pointer (some ⟨g21, 0, none⟩) ∧ x22 = .int .i64 (j : Int) ∧ x23 = .int .i64 (e : Int) ∧ GY w wx s (g + 1) g [.int .i64 0, .int .u64 0] [.int .i64 0, .int .i64 0, .int .i64 0, .int .u64 0, .int .u64 0, .int .u64 0, .int .i64 0, .int .i64 0] [.int .u64 0, .int .i64 0, .int .i64 0] [.int .i64 t, .int .u64 0] ∧ BoxL wx g21 [.int .u64 (y.prev : Int), .int .i64 (y.lead : Int), .int .i64 (y.len : Int)] ∧ g21 ≠ g + 1 ∧ g21 ≠ g)
        case first =>
          have px := gy.drew
          have hrd := hr2.drew
          have hn0 := World.new_ne W2 ⟨w.heap.size, 5, none⟩ q5
          have hn1 := World.new_ne W2 ⟨w.heap.size, 6, none⟩ q6
          have hn2 := World.new_ne W2 ⟨w.heap.size, 7, none⟩ q7
          have hlg := gy.b16.lt
          have h16 := gy.h16
          have h18 := gy.h18
          have hd1 : W2.heap.size ≠ g + 1 := by omega
          have hd2 : W2.heap.size ≠ g := by omega
          have hd3 : w.heap.size + 1 + 1 < W2.heap.size := by omega
          clear q0 q1 q2 q3 q4 q5 q6 q7
          obtain ⟨q0, q1, q2, q3, q4, q5, q6, q7⟩ := gy.gx.b5.get8
          go_region_held3 (fun w' => (w'.cell? ⟨w.heap.size, 0, none⟩ = some (.int .i64 (s.n : Int)) ∧ w'.cell? ⟨w.heap.size, 1, none⟩ = some (.int .i64 s.t) ∧ w'.cell? ⟨w.heap.size, 2, none⟩ = some (.int .i64 s.d) ∧ w'.cell? ⟨w.heap.size, 3, none⟩ = some (.int .u64 (s.v : Int)) ∧ w'.cell? ⟨w.heap.size, 4, none⟩ = some (.int .u64 (s.e : Int)) ∧ w'.cell? ⟨w.heap.size, 5, none⟩ = some (.int .u64 (s.x.prev : Int)) ∧ w'.cell? ⟨w.heap.size, 6, none⟩ = some (.int .i64 (s.x.lead : Int)) ∧ w'.cell? ⟨w.heap.size, 7, none⟩ = some (.int .i64 (s.x.len : Int))))
            (with_reducible first | exact px.gx.b5.get8 | exact (px.onA _).gx.b5.get8 | exact ((gy.onA _).drew).gx.b5.get8 | exact (px.oth3 hd1 hd2 hd3 _ _ _).gx.b5.get8) (first
            | (go_at_call 31; (with_reducible refine (hG2 _ _ _ _ hrd (by omega)).mono ?_); rintro e' w3 ⟨rfl, HB⟩; replace px := px.below HB; clear HB hrd)
            | (go_at_call 31; have hrd2 := (hr2.onA (.cells #[.int .u64 0, .int .i64 0, .int .i64 0] 53)).drew; have b21 := (BoxL.new W2 [.int .u64 0, .int .i64 0, .int .i64 0] 53).drew; replace px := (gy.onA (.cells #[.int .u64 0, .int .i64 0, .int .i64 0] 53)).drew; (with_reducible refine (hG2 _ _ _ _ hrd2 (by omega)).mono ?_); rintro e' w3 ⟨rfl, HB⟩; replace px := px.below HB; replace b21 := b21.below HB; obtain ⟨u0, u1, u2⟩ := b21.get3; obtain ⟨f0, f1, f2⟩ := b21.free3; clear HB hrd hrd2))
          all_goals
            go_wp2_with fail
            go_meet
            with_reducible first
              | exact ⟨_, rfl, rfl, rfl, rfl, px.onA _, BoxL.new _ _ _, Nat.ne_of_gt px.b16.lt, Nat.ne_of_gt px.b18.lt⟩
              | exact ⟨_, rfl, rfl, rfl, rfl, px.oth3 hd1 hd2 hd3 _ _ _, b21.all3 _ _ _, hd1, hd2⟩
        case rest =>
          obtain ⟨g21, rfl, rfl, rfl, rfl, gy, b21, hng, hng2⟩ := hcut
          have hng3 := Ne.symm hng2
          have hng4 := Ne.symm hng
          obtain ⟨z0, z1⟩ := gy.b18.get2
          obtain ⟨f0, f1⟩ := gy.b18.free2
          obtain ⟨y0, y1, y2⟩ := b21.get3
          obtain ⟨u0, u1, u2⟩ := gy.b16.get3
          obtain ⟨uf0, uf1, uf2⟩ := gy.b16.free3
          clear q0 q1 q2 q3 q4 q5 q6 q7
          go_wp2_with fail
          go_meet
          exact ⟨rfl, rfl, (gy.setV (by omega) _).set16 (by omega) _ _ _⟩
      · have hr2 := hr.tail (a := n) hnm
        rw [enc_drop] at hr2
        go_upto_region 19 with fail
        go_cut [20, 21, 22, 23] (fun x20 x21 x22 x23 wx => ∃ g21, x20 = .int .u64 (v : Int) ∧ x21 = .pointer (some ⟨g21, 0, none⟩) ∧ x22 = .int .i64 (j : Int) ∧ x23 = .int .i64 (e : Int) ∧ GY w wx s (g + 1) g [.int .i64 0, .int .u64 0] [.int .i64 0, .int .i64 0, .int .i64 0, .int .u64 0, .int .u64 0, .int .u64 0, .int .i64 0, .int .i64 0] [.int .u64 0, .int .i64 0, .int .i64 0] [.int .i64 t, .int .u64 0] ∧ BoxL wx g21 [.int .u64 (y.prev : Int), .int .i64 (y.lead : Int), .int .i64 (y.len : Int)] ∧ g21 ≠ g + 1 ∧ g21 ≠ g)
        case first =>
          have px := gy.drew
          have hrd := hr2.drew
          have hn0 := World.new_ne W2 ⟨w.heap.size, 5, none⟩ q5
          have hn1 := World.new_ne W2 ⟨w.heap.size, 6, none⟩ q6
          have hn2 := World.new_ne W2 ⟨w.heap.size, 7, none⟩ q7
          have hlg := gy.b16.lt
          have h16 := gy.h16
          have h18 := gy.h18
          have hd1 : W2.heap.size ≠ g + 1 := by omega
          have hd2 : W2.heap.size ≠ g := by omega
          have hd3 : w.heap.size + 1 + 1 < W2.heap.size := by omega
          clear q0 q1 q2 q3 q4 q5 q6 q7
          obtain ⟨q0, q1, q2, q3, q4, q5, q6, q7⟩ := gy.gx.b5.get8
          go_region_held3 (fun w' => (w'.cell? ⟨w.heap.size, 0, none⟩ = some (.int .i64 (s.n : Int)) ∧ w'.cell? ⟨w.heap.size, 1, none⟩ = some (.int .i64 s.t) ∧ w'.cell? ⟨w.heap.size, 2, none⟩ = some (.int .i64 s.d) ∧ w'.cell? ⟨w.heap.size, 3, none⟩ = some (.int .u64 (s.v : Int)) ∧ w'.cell? ⟨w.heap.size, 4, none⟩ = some (.int .u64 (s.e : Int)) ∧ w'.cell? ⟨w.heap.size, 5, none⟩ = some (.int .u64 (s.x.prev : Int)) ∧ w'.cell? ⟨w.heap.size, 6, none⟩ = some (.int .i64 (s.x.lead : Int)) ∧ w'.cell? ⟨w.heap.size, 7, none⟩ = some (.int .i64 (s.x.len : Int))))
            (with_reducible first | exact px.gx.b5.get8 | exact (px.onA _).gx.b5.get8 | exact ((gy.onA _).drew).gx.b5.get8 | exact (px.oth3 hd1 hd2 hd3 _ _ _).gx.b5.get8) (first
            | (go_at_call 31; (with_reducible refine (hG2 _ _ _ _ hrd (by omega)).mono ?_); rintro e' w3 ⟨rfl, HB⟩; replace px := px.below HB; clear HB hrd)
            | (go_at_call 31; have hrd2 := (hr2.onA (.cells #[.int .u64 0, .int .i64 0, .int .i64 0] 53)).drew; have b21 := (BoxL.new W2 [.int .u64 0, .int .i64 0, .int .i64 0] 53).drew; replace px := (gy.onA (.cells #[.int .u64 0, .int .i64 0, .int .i64 0] 53)).drew; (with_reducible refine (hG2 _ _ _ _ hrd2 (by omega)).mono ?_); rintro e' w3 ⟨rfl, HB⟩; replace px := px.below HB; replace b21 := b21.below HB; obtain ⟨u0, u1, u2⟩ := b21.get3; obtain ⟨f0, f1, f2⟩ := b21.free3; clear HB hrd hrd2))
          all_goals
            go_wp2_with fail
            go_meet
            with_reducible first
              | exact ⟨_, rfl, rfl, rfl, rfl, px.onA _, BoxL.new _ _ _, Nat.ne_of_gt px.b16.lt, Nat.ne_of_gt px.b18.lt⟩
              | exact ⟨_, rfl, rfl, rfl, rfl, px.oth3 hd1 hd2 hd3 _ _ _, b21.all3 _ _ _, hd1, hd2⟩
        case rest =>
          obtain ⟨g21, rfl, rfl, rfl, rfl, gy, b21, hng, hng2⟩ := hcut
          have hng3 := Ne.symm hng2
          have hng4 := Ne.symm hng
          obtain ⟨z0, z1⟩ := gy.b18.get2
          obtain ⟨f0, f1⟩ := gy.b18.free2
          obtain ⟨y0, y1, y2⟩ := b21.get3
          obtain ⟨u0, u1, u2⟩ := gy.b16.get3
          obtain ⟨uf0, uf1, uf2⟩ := gy.b16.free3
          clear q0 q1 q2 q3 q4 q5 q6 q7
          go_wp2_with fail
          go_meet
          exact ⟨rfl, rfl, (gy.setV (by omega) _).set16 (by omega) _ _ _⟩
    case rest =>
      obtain ⟨rfl, rfl, gy⟩ := hcut
      by_cases he : e = 0
      · have he1 : ((e : Int) != 0) = false := by simp [he]
        by_cases ht : t ≤ s.t
        · obtain rfl : R = badK 4 := by rw [HL.out, if_neg (by omega), if_pos ht]
          clear he HV HL hAF
          obtain ⟨q0, q1, q2, q3, q4, q5, q6, q7⟩ := gy.gx.b5.get8
          obtain ⟨z0, z1⟩ := gy.b18.get2
          obtain ⟨a0, a1⟩ := gy.gx.b8.get2
          obtain ⟨af0, af1⟩ := gy.gx.b8.free2
          obtain ⟨d0, d1, d2, d3, d4, d5, d6, d7⟩ := gy.gx.b9.get8
          obtain ⟨df0, df1, df2, df3, df4, df5, df6, df7⟩ := gy.gx.b9.free8
          go_wp2
          have hY := gy.gx.zero (.int .i64 0) (.int .u64 0) (.int .i64 0) (.int .i64 0) (.int .i64 0) (.int .u64 0) (.int .u64 0) (.int .u64 0) (.int .i64 0) (.int .i64 0)
          clear a0 a1 af0 af1 d0 d1 d2 d3 d4 d5 d6 d7 df0 df1 df2 df3 df4 df5 df6 df7 gy
          generalize ((((((((((wc.setCell ⟨w.heap.size + 1, 0, none⟩ (.int .i64 0)).setCell ⟨w.heap.size + 1, 1, none⟩ (.int .u64 0)).setCell ⟨w.heap.size + 1 + 1, 0, none⟩ (.int .i64 0)).setCell ⟨w.heap.size + 1 + 1, 1, none⟩ (.int .i64 0)).setCell ⟨w.heap.size + 1 + 1, 2, none⟩ (.int .i64 0)).setCell ⟨w.heap.size + 1 + 1, 3, none⟩ (.int .u64 0)).setCell ⟨w.heap.size + 1 + 1, 4, none⟩ (.int .u64 0)).setCell ⟨w.heap.size + 1 + 1, 5, none⟩ (.int .u64 0)).setCell ⟨w.heap.size + 1 + 1, 6, none⟩ (.int .i64 0)).setCell ⟨w.heap.size + 1 + 1, 7, none⟩ (.int .i64 0)) = X at *
          obtain ⟨a0, a1⟩ := hY.b8.get2
          obtain ⟨d0, d1, d2, d3, d4, d5, d6, d7⟩ := hY.b9.get8
          refine bodyPost_ret (v := .tuple #[.agg #[.int .i64 0, .int .u64 0], (.agg #[.int .i64 0, .int .i64 0, .int .i64 0, .int .u64 0, .int .u64 0, .int .u64 0, .int .i64 0, .int .i64 0]), .int .i64 0, .int .i64 4]) ?_ rfl ⟨rfl, hY.bel⟩
          simp [results, Tryd.results18, go_sem, a0, a1, d0, d1, d2, d3, d4, d5, d6, d7]
        · obtain rfl : R = ⟨t, v, s', n + j, 0⟩ := by rw [HL.out, if_neg (by omega), if_neg ht]
          have hj : IntKind.i64.wrap ((n : Int) + (j : Int)) = ((n + j : Nat) : Int) := by rw [IntKind.wrap_i64]; omega
          clear he HV HL
          obtain ⟨q0, q1, q2, q3, q4, q5, q6, q7⟩ := gy.gx.b5.get8
          obtain ⟨z0, z1⟩ := gy.b18.get2
          go_upto_region 28 with fail
          clear q0 q1 q2 q3 q4 q5 q6 q7 z0 z1
          replace gy := gy.drew
          go_cut [8, 9] (fun x8 x9 wx => x8 = .int .i64 ((n + j : Nat) : Int) ∧ x9 = .int .i64 0 ∧ GX w wx s [.int .i64 t, .int .u64 (v : Int)] [.int .i64 (s'.n : Int), .int .i64 s'.t, .int .i64 s'.d, .int .u64 (s'.v : Int), .int .u64 (s'.e : Int), .int .u64 (s'.x.prev : Int), .int .i64 (s'.x.lead : Int), .int .i64 (s'.x.len : Int)])
          case first =>
            have px := gy
            clear gy
            have q0 := px.cells
            obtain ⟨u60, u61⟩ := px.gx.b8.get2
            obtain ⟨v60, v61⟩ := px.gx.b8.free2
            obtain ⟨u70, u71, u72, u73, u74, u75, u76, u77⟩ := px.gx.b9.get8
            obtain ⟨v70, v71, v72, v73, v74, v75, v76, v77⟩ := px.gx.b9.free8
            go_region_held3 (fun w' => (w'.cell? ⟨w.heap.size, 0, none⟩ = some (.int .i64 (s.n : Int)) ∧ w'.cell? ⟨w.heap.size, 1, none⟩ = some (.int .i64 s.t) ∧ w'.cell? ⟨w.heap.size, 2, none⟩ = some (.int .i64 s.d) ∧ w'.cell? ⟨w.heap.size, 3, none⟩ = some (.int .u64 (s.v : Int)) ∧ w'.cell? ⟨w.heap.size, 4, none⟩ = some (.int .u64 (s.e : Int)) ∧ w'.cell? ⟨w.heap.size, 5, none⟩ = some (.int .u64 (s.x.prev : Int)) ∧ w'.cell? ⟨w.heap.size, 6, none⟩ = some (.int .i64 (s.x.lead : Int)) ∧ w'.cell? ⟨w.heap.size, 7, none⟩ = some (.int .i64 (s.x.len : Int))) ∧ (w'.cell? ⟨g + 1, 0, none⟩ = some (.int .u64 (y.prev : Int)) ∧ w'.cell? ⟨g + 1, 1, none⟩ = some (.int .i64 (y.lead : Int)) ∧ w'.cell? ⟨g + 1, 2, none⟩ = some (.int .i64 (y.len : Int))) ∧ (w'.cell? ⟨g, 0, none⟩ = some (.int .i64 t) ∧ w'.cell? ⟨g, 1, none⟩ = some (.int .u64 (v : Int))))
              (with_reducible first | exact px.cells | exact (px.set8 _ _).cells | exact (px.set9 _ _ _ _ _ _ _ _).cells | exact ((px.set8 _ _).set9 _ _ _ _ _ _ _ _).cells | exact ((px.set9 _ _ _ _ _ _ _ _).set8 _ _).cells) (first
              | (go_at_call 29; (with_reducible refine (hAF _).mono ?_); rintro e w7 ⟨rfl, HB⟩; (with_reducible first | replace px := px.below HB | replace px := (px.set8 _ _).below HB); clear HB u60 u61 v60 v61 u70 u71 u72 u73 u74 u75 u76 u77 v70 v71 v72 v73 v74 v75 v76 v77; obtain ⟨u60, u61⟩ := px.gx.b8.get2; obtain ⟨v60, v61⟩ := px.gx.b8.free2; obtain ⟨u70, u71, u72, u73, u74, u75, u76, u77⟩ := px.gx.b9.get8; obtain ⟨v70, v71, v72, v73, v74, v75, v76, v77⟩ := px.gx.b9.free8))
            all_goals
              clear q0 u60 u61 v60 v61 u70 u71 u72 u73 u74 u75 u76 u77 v70 v71 v72 v73 v74 v75 v76 v77 hAF
              go_wp2_with fail
              go_meet
              with_reducible first
                | exact ⟨rfl, rfl, (px.set9 _ _ _ _ _ _ _ _).gx⟩
                | exact ⟨rfl, rfl, ((px.set8 _ _).set9 _ _ _ _ _ _ _ _).gx⟩
                | exact ⟨rfl, rfl, ((px.set9 _ _ _ _ _ _ _ _).set8 _ _).gx⟩
          case rest =>
            obtain ⟨rfl, rfl, hY⟩ := hcut
            obtain ⟨a0, a1⟩ := hY.b8.get2
            obtain ⟨d0, d1, d2, d3, d4, d5, d6, d7⟩ := hY.b9.get8
            clear gy
            go_wp2
            refine bodyPost_ret (v := .tuple #[(.agg #[.int .i64 t, .int .u64 (v : Int)]), (.agg #[.int .i64 (s'.n : Int), .int .i64 s'.t, .int .i64 s'.d, .int .u64 (s'.v : Int), .int .u64 (s'.e : Int), .int .u64 (s'.x.prev : Int), .int .i64 (s'.x.lead : Int), .int .i64 (s'.x.len : Int)]), .int .i64 ((n + j : Nat) : Int), .int .i64 0]) ?_ rfl ⟨rfl, hY.bel⟩
            simp [results, Tryd.results18, go_sem, a0, a1, d0, d1, d2, d3, d4, d5, d6, d7]
      · have he1 : ((e : Int) != 0) = true := by simp [he]
        obtain rfl : R = badK e := by rw [HL.out, if_pos he]
        clear he HV HL hAF
        obtain ⟨a0, a1⟩ := gy.gx.b8.get2
        obtain ⟨af0, af1⟩ := gy.gx.b8.free2
        obtain ⟨d0, d1, d2, d3, d4, d5, d6, d7⟩ := gy.gx.b9.get8
        obtain ⟨df0, df1, df2, df3, df4, df5, df6, df7⟩ := gy.gx.b9.free8
        go_wp2
        have hY := gy.gx.zero (.int .i64 0) (.int .u64 0) (.int .i64 0) (.int .i64 0) (.int .i64 0) (.int .u64 0) (.int .u64 0) (.int .u64 0) (.int .i64 0) (.int .i64 0)
        clear a0 a1 af0 af1 d0 d1 d2 d3 d4 d5 d6 d7 df0 df1 df2 df3 df4 df5 df6 df7 gy
        generalize ((((((((((wc.setCell ⟨w.heap.size + 1, 0, none⟩ (.int .i64 0)).setCell ⟨w.heap.size + 1, 1, none⟩ (.int .u64 0)).setCell ⟨w.heap.size + 1 + 1, 0, none⟩ (.int .i64 0)).setCell ⟨w.heap.size + 1 + 1, 1, none⟩ (.int .i64 0)).setCell ⟨w.heap.size + 1 + 1, 2, none⟩ (.int .i64 0)).setCell ⟨w.heap.size + 1 + 1, 3, none⟩ (.int .u64 0)).setCell ⟨w.heap.size + 1 + 1, 4, none⟩ (.int .u64 0)).setCell ⟨w.heap.size + 1 + 1, 5, none⟩ (.int .u64 0)).setCell ⟨w.heap.size + 1 + 1, 6, none⟩ (.int .i64 0)).setCell ⟨w.heap.size + 1 + 1, 7, none⟩ (.int .i64 0)) = X at *
        obtain ⟨a0, a1⟩ := hY.b8.get2
        obtain ⟨d0, d1, d2, d3, d4, d5, d6, d7⟩ := hY.b9.get8
        refine bodyPost_ret (v := .tuple #[.agg #[.int .i64 0, .int .u64 0], (.agg #[.int .i64 0, .int .i64 0, .int .i64 0, .int .u64 0, .int .u64 0, .int .u64 0, .int .i64 0, .int .i64 0]), .int .i64 0, .int .i64 (e : Int)]) ?_ rfl ⟨rfl, hY.bel⟩
        simp [results, Tryd.results18, go_sem, a0, a1, d0, d1, d2, d3, d4, d5, d6, d7]
  · -- by how the steps change
    have k1 : ((k : Int) != 1) = true := by simp [hk]
    have k2 : ((k : Int) != 2) = false := by simp [hk]
    have k3 : ((k : Int) == 2) = true := by simp [hk]
    have HK2 := Lib.hid hk
    clear hk
    go_enter Tryd.func18, Tryd.ntmps18
    go_wp2_with fail
    change Calls _ _ _ (sworld w s) _
    generalize sworld w s = W at *
    refine (hG _ hr).mono ?_
    rintro e' w1 ⟨rfl, hb1⟩
    replace hX := hX.below hb1
    replace hr := (hr.below hb1).more hb1.size
    clear hb1 hG
    obtain ⟨q0, q1, q2, q3, q4, q5, q6, q7⟩ := hX.b5.get8
    go_upto_region 14 with fail
    have b14 := (BoxL.new w1 [.int .i64 t, .int .u64 0] 41).onA (.cells #[.int .u64 0, .int .i64 0, .int .i64 0] 53)
    have b15 := BoxL.new (w1.alloc (.cells #[.int .i64 t, .int .u64 0] 41)) [.int .u64 0, .int .i64 0, .int .i64 0] 53
    simp only [World.size_alloc] at b15
    have hal : Below w1.heap.size w1 ((w1.alloc (.cells #[.int .i64 t, .int .u64 0] 41)).alloc (.cells #[.int .u64 0, .int .i64 0, .int .i64 0] 53)) := by repeat (first | with_reducible exact Below.refl _ _ | assumption | with_reducible refine Below.drew ?_ | with_reducible refine Below.alloc ?_ (by (first | assumption | omega | (simp; done) | (simp; omega))) _)
    have hlt9 := hX.b9.lt
    have gy : GY w _ s (w1.heap.size + 1) w1.heap.size _ _ _ _ := GY.mk (hX.below hal) b15 b14 (by omega) (by omega)
    replace hr := (hr.below hal).more hal.size
    clear b14 b15 hal q0 q1 q2 q3 q4 q5 q6 q7 hX
    generalize (w1.alloc (.cells #[.int .i64 t, .int .u64 0] 41)).alloc (.cells #[.int .u64 0, .int .i64 0, .int .i64 0] 53) = W2 at *
    generalize w1.heap.size = g at *
    go_upto_if 78 with fail
    go_cut [13, 16] (fun x13 x16 wx => x13 = .int .i64 (e : Int) ∧ x16 = .int .i64 (j : Int) ∧ GY w wx s (g + 1) g [.int .i64 0, .int .u64 0] [.int .i64 0, .int .i64 0, .int .i64 0, .int .u64 0, .int .u64 0, .int .u64 0, .int .i64 0, .int .i64 0] [.int .u64 (y.prev : Int), .int .i64 (y.lead : Int), .int .i64 (y.len : Int)] [.int .i64 t, .int .u64 (v : Int)])
    case first =>
      obtain ⟨q0, q1, q2, q3, q4, q5, q6, q7⟩ := gy.gx.b5.get8
      have hv := HV.out
      unfold VGets at hv
      rw [if_neg (by rw [HK2.out]; omega)] at hv
      obtain ⟨st2, hd2, hve, hye⟩ := hv
      have hu := sumE_wrap s.v s.e st2
      rw [← hve] at hu
      have hG2 : ∀ X A' m' c', Rd X X.heap.size A' m' c' (enc (p.drop n)) → m' ≤ 100000 → Calls Tryd.prog 30 #[.slice A' m' c'] X fun f X' => f = .returned (.tuple #[.int .i64 st2, .int .i64 (j : Int), .int .i64 (e : Int)]) ∧ Below X.heap.size X X' := fun X A' m' c' hX hm' =>
        (rgetdod_any A' m' c' _ X hX hm').mono fun f X' ⟨v', n', k', h1, h2, h3⟩ => by
          obtain ⟨rfl, rfl, rfl⟩ := hd2.same h1
          exact ⟨h2, h3⟩
      clear HV hd2 hve HL hAF
      subst hye
      by_cases hce : c = n
      · have hr2 := rd_tail_end hr hnm hce
        rw [enc_drop] at hr2
        have hce' : (c = n) = True := eq_true hce
        clear hce
        go_wp2_with fail
        refine (hG2 _ _ _ _ hr2 (by omega)).mono ?_
        rintro e' w3 ⟨rfl, hb3⟩
        replace gy := gy.below hb3
        clear q0 q1 q2 q3 q4 q5 q6 q7
        obtain ⟨q0, q1, q2, q3, q4, q5, q6, q7⟩ := gy.gx.b5.get8
        obtain ⟨z0, z1⟩ := gy.b18.get2
        obtain ⟨f0, f1⟩ := gy.b18.free2
        go_wp2_with fail
        go_meet
        exact ⟨rfl, rfl, ⟨gy.gx.bel.setCell (by have := gy.h18; simp only; omega) _, gy.gx.b5.oth (by have := gy.h18; omega) _ _, gy.gx.b8.oth (by have := gy.h18; omega) _ _, gy.gx.b9.oth (by have := gy.h18; omega) _ _⟩, gy.b16.oth (by omega) _ _, gy.b18.put 1 _, gy.h16, gy.h18⟩
      · have hr2 := hr.tail (a := n) hnm
        rw [enc_drop] at hr2
        go_wp2_with fail
        refine (hG2 _ _ _ _ hr2 (by omega)).mono ?_
        rintro e' w3 ⟨rfl, hb3⟩
        replace gy := gy.below hb3
        clear q0 q1 q2 q3 q4 q5 q6 q7
        obtain ⟨q0, q1, q2, q3, q4, q5, q6, q7⟩ := gy.gx.b5.get8
        obtain ⟨z0, z1⟩ := gy.b18.get2
        obtain ⟨f0, f1⟩ := gy.b18.free2
        go_wp2_with fail
        go_meet
        exact ⟨rfl, rfl, ⟨gy.gx.bel.setCell (by have := gy.h18; simp only; omega) _, gy.gx.b5.oth (by have := gy.h18; omega) _ _, gy.gx.b8.oth (by have := gy.h18; omega) _ _, gy.gx.b9.oth (by have := gy.h18; omega) _ _⟩, gy.b16.oth (by omega) _ _, gy.b18.put 1 _, gy.h16, gy.h18⟩
    case rest =>
      obtain ⟨rfl, rfl, gy⟩ := hcut
      by_cases he : e = 0
      · have he1 : ((e : Int) != 0) = false := by simp [he]
        by_cases ht : t ≤ s.t
        · obtain rfl : R = badK 4 := by rw [HL.out, if_neg (by omega), if_pos ht]
          clear he HV HL hAF
          obtain ⟨q0, q1, q2, q3, q4, q5, q6, q7⟩ := gy.gx.b5.get8
          obtain ⟨z0, z1⟩ := gy.b18.get2
          obtain ⟨a0, a1⟩ := gy.gx.b8.get2
          obtain ⟨af0, af1⟩ := gy.gx.b8.free2
          obtain ⟨d0, d1, d2, d3, d4, d5, d6, d7⟩ := gy.gx.b9.get8
          obtain ⟨df0, df1, df2, df3, df4, df5, df6, df7⟩ := gy.gx.b9.free8
          go_wp2
          have hY := gy.gx.zero (.int .i64 0) (.int .u64 0) (.int .i64 0) (.int .i64 0) (.int .i64 0) (.int .u64 0) (.int .u64 0) (.int .u64 0) (.int .i64 0) (.int .i64 0)
          clear a0 a1 af0 af1 d0 d1 d2 d3 d4 d5 d6 d7 df0 df1 df2 df3 df4 df5 df6 df7 gy
          generalize ((((((((((wc.setCell ⟨w.heap.size + 1, 0, none⟩ (.int .i64 0)).setCell ⟨w.heap.size + 1, 1, none⟩ (.int .u64 0)).setCell ⟨w.heap.size + 1 + 1, 0, none⟩ (.int .i64 0)).setCell ⟨w.heap.size + 1 + 1, 1, none⟩ (.int .i64 0)).setCell ⟨w.heap.size + 1 + 1, 2, none⟩ (.int .i64 0)).setCell ⟨w.heap.size + 1 + 1, 3, none⟩ (.int .u64 0)).setCell ⟨w.heap.size + 1 + 1, 4, none⟩ (.int .u64 0)).setCell ⟨w.heap.size + 1 + 1, 5, none⟩ (.int .u64 0)).setCell ⟨w.heap.size + 1 + 1, 6, none⟩ (.int .i64 0)).setCell ⟨w.heap.size + 1 + 1, 7, none⟩ (.int .i64 0)) = X at *
          obtain ⟨a0, a1⟩ := hY.b8.get2
          obtain ⟨d0, d1, d2, d3, d4, d5, d6, d7⟩ := hY.b9.get8
          refine bodyPost_ret (v := .tuple #[.agg #[.int .i64 0, .int .u64 0], (.agg #[.int .i64 0, .int .i64 0, .int .i64 0, .int .u64 0, .int .u64 0, .int .u64 0, .int .i64 0, .int .i64 0]), .int .i64 0, .int .i64 4]) ?_ rfl ⟨rfl, hY.bel⟩
          simp [results, Tryd.results18, go_sem, a0, a1, d0, d1, d2, d3, d4, d5, d6, d7]
        · obtain rfl : R = ⟨t, v, s', n + j, 0⟩ := by rw [HL.out, if_neg (by omega), if_neg ht]
          have hj : IntKind.i64.wrap ((n : Int) + (j : Int)) = ((n + j : Nat) : Int) := by rw [IntKind.wrap_i64]; omega
          clear he HV HL
          obtain ⟨q0, q1, q2, q3, q4, q5, q6, q7⟩ := gy.gx.b5.get8
          obtain ⟨z0, z1⟩ := gy.b18.get2
          go_upto_region 28 with fail
          clear q0 q1 q2 q3 q4 q5 q6 q7 z0 z1
          replace gy := gy.drew
          go_cut [8, 9] (fun x8 x9 wx => x8 = .int .i64 ((n + j : Nat) : Int) ∧ x9 = .int .i64 0 ∧ GX w wx s [.int .i64 t, .int .u64 (v : Int)] [.int .i64 (s'.n : Int), .int .i64 s'.t, .int .i64 s'.d, .int .u64 (s'.v : Int), .int .u64 (s'.e : Int), .int .u64 (s'.x.prev : Int), .int .i64 (s'.x.lead : Int), .int .i64 (s'.x.len : Int)])
          case first =>
            have px := gy
            clear gy
            have q0 := px.cells
            obtain ⟨u60, u61⟩ := px.gx.b8.get2
            obtain ⟨v60, v61⟩ := px.gx.b8.free2
            obtain ⟨u70, u71, u72, u73, u74, u75, u76, u77⟩ := px.gx.b9.get8
            obtain ⟨v70, v71, v72, v73, v74, v75, v76, v77⟩ := px.gx.b9.free8
            go_region_held3 (fun w' => (w'.cell? ⟨w.heap.size, 0, none⟩ = some (.int .i64 (s.n : Int)) ∧ w'.cell? ⟨w.heap.size, 1, none⟩ = some (.int .i64 s.t) ∧ w'.cell? ⟨w.heap.size, 2, none⟩ = some (.int .i64 s.d) ∧ w'.cell? ⟨w.heap.size, 3, none⟩ = some (.int .u64 (s.v : Int)) ∧ w'.cell? ⟨w.heap.size, 4, none⟩ = some (.int .u64 (s.e : Int)) ∧ w'.cell? ⟨w.heap.size, 5, none⟩ = some (.int .u64 (s.x.prev : Int)) ∧ w'.cell? ⟨w.heap.size, 6, none⟩ = some (.int .i64 (s.x.lead : Int)) ∧ w'.cell? ⟨w.heap.size, 7, none⟩ = some (.int .i64 (s.x.len : Int))) ∧ (w'.cell? ⟨g + 1, 0, none⟩ = some (.int .u64 (y.prev : Int)) ∧ w'.cell? ⟨g + 1, 1, none⟩ = some (.int .i64 (y.lead : Int)) ∧ w'.cell? ⟨g + 1, 2, none⟩ = some (.int .i64 (y.len : Int))) ∧ (w'.cell? ⟨g, 0, none⟩ = some (.int .i64 t) ∧ w'.cell? ⟨g, 1, none⟩ = some (.int .u64 (v : Int))))
              (with_reducible first | exact px.cells | exact (px.set8 _ _).cells | exact (px.set9 _ _ _ _ _ _ _ _).cells | exact ((px.set8 _ _).set9 _ _ _ _ _ _ _ _).cells | exact ((px.set9 _ _ _ _ _ _ _ _).set8 _ _).cells) (first
              | (go_at_call 29; (with_reducible refine (hAF _).mono ?_); rintro e w7 ⟨rfl, HB⟩; (with_reducible first | replace px := px.below HB | replace px := (px.set8 _ _).below HB); clear HB u60 u61 v60 v61 u70 u71 u72 u73 u74 u75 u76 u77 v70 v71 v72 v73 v74 v75 v76 v77; obtain ⟨u60, u61⟩ := px.gx.b8.get2; obtain ⟨v60, v61⟩ := px.gx.b8.free2; obtain ⟨u70, u71, u72, u73, u74, u75, u76, u77⟩ := px.gx.b9.get8; obtain ⟨v70, v71, v72, v73, v74, v75, v76, v77⟩ := px.gx.b9.free8))
            all_goals
              clear q0 u60 u61 v60 v61 u70 u71 u72 u73 u74 u75 u76 u77 v70 v71 v72 v73 v74 v75 v76 v77 hAF
              go_wp2_with fail
              go_meet
              with_reducible first
                | exact ⟨rfl, rfl, (px.set9 _ _ _ _ _ _ _ _).gx⟩
                | exact ⟨rfl, rfl, ((px.set8 _ _).set9 _ _ _ _ _ _ _ _).gx⟩
                | exact ⟨rfl, rfl, ((px.set9 _ _ _ _ _ _ _ _).set8 _ _).gx⟩
          case rest =>
            obtain ⟨rfl, rfl, hY⟩ := hcut
            obtain ⟨a0, a1⟩ := hY.b8.get2
            obtain ⟨d0, d1, d2, d3, d4, d5, d6, d7⟩ := hY.b9.get8
            clear gy
            go_wp2
            refine bodyPost_ret (v := .tuple #[(.agg #[.int .i64 t, .int .u64 (v : Int)]), (.agg #[.int .i64 (s'.n : Int), .int .i64 s'.t, .int .i64 s'.d, .int .u64 (s'.v : Int), .int .u64 (s'.e : Int), .int .u64 (s'.x.prev : Int), .int .i64 (s'.x.lead : Int), .int .i64 (s'.x.len : Int)]), .int .i64 ((n + j : Nat) : Int), .int .i64 0]) ?_ rfl ⟨rfl, hY.bel⟩
            simp [results, Tryd.results18, go_sem, a0, a1, d0, d1, d2, d3, d4, d5, d6, d7]
      · have he1 : ((e : Int) != 0) = true := by simp [he]
        obtain rfl : R = badK e := by rw [HL.out, if_pos he]
        clear he HV HL hAF
        obtain ⟨a0, a1⟩ := gy.gx.b8.get2
        obtain ⟨af0, af1⟩ := gy.gx.b8.free2
        obtain ⟨d0, d1, d2, d3, d4, d5, d6, d7⟩ := gy.gx.b9.get8
        obtain ⟨df0, df1, df2, df3, df4, df5, df6, df7⟩ := gy.gx.b9.free8
        go_wp2
        have hY := gy.gx.zero (.int .i64 0) (.int .u64 0) (.int .i64 0) (.int .i64 0) (.int .i64 0) (.int .u64 0) (.int .u64 0) (.int .u64 0) (.int .i64 0) (.int .i64 0)
        clear a0 a1 af0 af1 d0 d1 d2 d3 d4 d5 d6 d7 df0 df1 df2 df3 df4 df5 df6 df7 gy
        generalize ((((((((((wc.setCell ⟨w.heap.size + 1, 0, none⟩ (.int .i64 0)).setCell ⟨w.heap.size + 1, 1, none⟩ (.int .u64 0)).setCell ⟨w.heap.size + 1 + 1, 0, none⟩ (.int .i64 0)).setCell ⟨w.heap.size + 1 + 1, 1, none⟩ (.int .i64 0)).setCell ⟨w.heap.size + 1 + 1, 2, none⟩ (.int .i64 0)).setCell ⟨w.heap.size + 1 + 1, 3, none⟩ (.int .u64 0)).setCell ⟨w.heap.size + 1 + 1, 4, none⟩ (.int .u64 0)).setCell ⟨w.heap.size + 1 + 1, 5, none⟩ (.int .u64 0)).setCell ⟨w.heap.size + 1 + 1, 6, none⟩ (.int .i64 0)).setCell ⟨w.heap.size + 1 + 1, 7, none⟩ (.int .i64 0)) = X at *
        obtain ⟨a0, a1⟩ := hY.b8.get2
        obtain ⟨d0, d1, d2, d3, d4, d5, d6, d7⟩ := hY.b9.get8
        refine bodyPost_ret (v := .tuple #[.agg #[.int .i64 0, .int .u64 0], (.agg #[.int .i64 0, .int .i64 0, .int .i64 0, .int .u64 0, .int .u64 0, .int .u64 0, .int .i64 0, .int .i64 0]), .int .i64 0, .int .i64 (e : Int)]) ?_ rfl ⟨rfl, hY.bel⟩
        simp [results, Tryd.results18, go_sem, a0, a1, d0, d1, d2, d3, d4, d5, d6, d7]

/-- for any state of a kind -/
theorem rget_any (k : Nat) (s : KS) (A : Option Addr) (m c : Nat) (p : List Bool) (w : World) (hk : k = 1 ∨ k = 2) (hs : s.May) (hn : s.n ≤ 1000000) (h : Rd w w.heap.size A m c (enc p)) (hm : m ≤ 100000) :
    Calls Tryd.prog 18 #[.int .i64 (k : Int), (.agg #[.int .i64 (s.n : Int), .int .i64 s.t, .int .i64 s.d, .int .u64 (s.v : Int), .int .u64 (s.e : Int), .int .u64 (s.x.prev : Int), .int .i64 (s.x.lead : Int), .int .i64 (s.x.len : Int)]), .slice A m c] w (RetRG8 w k s p) := by
  have hl : p.length = m := by have := h.len; rwa [enc_length] at this
  by_cases h0 : s.n = 0
  · have hK : KGets k s p (firstK k s p) := .inl ⟨h0, rfl⟩
    by_cases h1 : m < 128
    · have e : firstK k s p = badK 2 := by unfold firstK; rw [if_pos (by omega)]
      exact (rget_short k s A m c w hk h0 h1).mono fun f w' ⟨h2, h3⟩ => ⟨_, hK, by rw [e]; exact h2, h3⟩
    · have e1 : (firstK k s p).n = 128 := by unfold firstK; rw [if_neg (by omega)]
      have e2 : (firstK k s p).e = 0 := by unfold firstK; rw [if_neg (by omega)]
      exact (rget_first k s A m c p w hk h0 h (by omega) hm).mono fun f w' ⟨h2, h3⟩ => ⟨_, hK, by rw [e1, e2]; exact h2, h3⟩
  · obtain ⟨st, n, e, hd⟩ := dgets_is p
    obtain ⟨v, y, j, e2, hv⟩ := vgets_is k s (p.drop n)
    have hK : KGets k s p (laterK k s st n e v y j e2) := .inr ⟨h0, st, n, e, v, y, j, e2, hd, hv, rfl⟩
    by_cases he : e = 0
    · subst he
      exact (rget_later k s A m c p w hk hs hn h0 h hm st n hd v y j e2 hv).mono fun f w' ⟨h2, h3⟩ => ⟨_, hK, h2, h3⟩
    · have e1 : laterK k s st n e v y j e2 = badK e := by unfold laterK; rw [if_pos he]
      exact (rget_terr k s A m c p w hk h0 h hm st n e hd he).mono fun f w' ⟨h2, h3⟩ => ⟨_, hK, by rw [e1]; exact h2, h3⟩

end Go.Proofs.YtnjohmgacmcdnaaDoor
