/-
  XorTells, walked: it returns true, whatever the arguments.
-/
import Derived.Test.YtfehlkilnghhiaaDoorXorUp
import Derived.Test.YtfehlkilnghhiaaDoorRefGetX
import Derived.Test.YtfehlkilnghhiaaDoorRest
import Derived.Test.YtfehlkilnghhiaaDoorIs
import Derived.Test.YtfehlkilnghhiaaDoorLaw
import Derived.Deep.RegionHeld3
namespace Go.Proofs.YtfehlkilnghhiaaDoor
open Go.RowKit

set_option maxHeartbeats 1000000 in
theorem xtells_out (A : Option Addr) (m c : Nat) (p v : Nat) (a n t : Int) (w : World) (_hl : m ≤ 9223372036854775807) (ha : -9223372036854775808 ≤ a ∧ a ≤ 9223372036854775807) (hn : -9223372036854775808 ≤ n ∧ n ≤ 9223372036854775807)
    (h : mayI a n = false ∨ (mayI a n = true ∧ 500 < m)) (hR : TzW w) :
    Calls Tryd.prog 3 #[.agg #[.int .u64 (p : Int), .int .i64 a, .int .i64 n], .int .u64 (v : Int), .slice A m c, .int .i64 t] w (RetTrue w) := by
  rcases h with h | ⟨h, hm⟩
  all_goals
    have hM := fun w => mayxor_any (p : Int) a n w ha hn
    rw [h] at hM
    have hb1 := (Below.refl w.heap.size w).alloc (Nat.le_refl _) (.cells #[.int .u64 (p : Int), .int .i64 a, .int .i64 n] 24)
    have b4 := Box3.new w (.int .u64 (p : Int)) (.int .i64 a) (.int .i64 n) 24
    go_enter Tryd.func3, Tryd.ntmps3
    go_wp2_with fail
    refine (up7_any _ (hR.bel hb1)).mono ?_
    rintro e w1 ⟨rfl, hb2⟩
    replace b4 := b4.below hb2
    replace hb1 := hb1.trans (hb2.mono hb1.size)
    have b4t := b4
    obtain ⟨_, q0, q1, q2, _, _, _⟩ := b4t
    go_wp2_with fail
    refine (lawxor_any _ _ _ _).mono ?_
    rintro e w2 ⟨rfl, hb3⟩
    replace hb1 := hb1.trans (hb3.mono hb1.size)
    go_wp2_with fail
    refine (hM _).mono ?_
    rintro e w3 ⟨rfl, hb4⟩
    replace hb1 := hb1.alloc hb1.size (.cells #[.int .u64 (p : Int), .int .i64 a, .int .i64 n] 27)
    replace hb1 := hb1.trans (hb4.mono hb1.size)
    go_wp2
    go_ret
    exact ⟨rfl, hb1⟩

set_option maxRecDepth 20000 in
set_option maxHeartbeats 8000000 in
theorem xtells_in (A : Option Addr) (m c : Nat) (bs : List Nat) (p a n v : Nat) (t : Int) (w : World) (h : Rd w w.heap.size A m c bs) (hb : ∀ x ∈ bs, x < 256) (hm : m ≤ 500)
    (hs : XS.May ⟨p, a, n⟩) (hv : v ≤ 18446744073709551615) (ht : -9223372036854775808 ≤ t ∧ t ≤ 9223372036854775807) (hR : TzW w) :
    Calls Tryd.prog 3 #[.agg #[.int .u64 (p : Int), .int .i64 (a : Int), .int .i64 (n : Int)], .int .u64 (v : Int), .slice A m c, .int .i64 t] w (RetTrue w) := by
  have hp := hs.p
  have hmay : mayI (a : Int) (n : Int) = true := decide_eq_true (by have h1 := hs.a; have h2 := hs.b; have h3 := hs.c; simp only at h1 h2 h3; omega)
  have hM := fun w => mayxor_any (p : Int) (a : Int) (n : Int) w (by have h1 := hs.a; simp only at h1; omega) (by have h1 := hs.b; simp only at h1; omega)
  rw [hmay] at hM
  have hC := fun w h => xcode_any p a n v w hs hv h
  have hRC := fun w => rcode_loop p a n v _ w hs hv rfl
  have hcl := (codeX_pos hs hv).2
  unfold RetX at hC
  unfold RetRX at hRC
  have hG := fun w (h : Rd w w.heap.size A m c bs) hR => xget_any A m c _ bs t p a n w h (Nat.le_refl _) hb (by omega) ht hs hR
  have hRG := fun A' m' c' w (h : Rd w w.heap.size A' m' c' (enc (restL bs t))) (hm' : m' ≤ 100000) => rgetx_any A' m' c' (restL bs t) p a n w h hm' hs
  have hI := getX_in (restL bs t) hs
  unfold RetXG at hG
  unfold RetRG at hRG
  obtain ⟨q, HQ⟩ : ∃ q, Hid (restL bs t = q) := ⟨_, Lib.hid rfl⟩
  rw [HQ.out] at hG hI
  rw [HQ.out] at hRG
  generalize codeX ⟨p, a, n⟩ v = cd at *
  generalize nextX ⟨p, a, n⟩ v = nx at *
  obtain ⟨M, HM⟩ : ∃ M, Hid (cd.length = M) := ⟨_, Lib.hid rfl⟩
  rw [HM.out] at hC hRC hcl
  generalize getX ⟨p, a, n⟩ q = R at *
  obtain ⟨ev, HE⟩ : ∃ ev, Hid (errV R.e = ev) := ⟨_, Lib.hid rfl⟩
  rw [HE.out] at hG
  have he3 := hI.2.2.2
  clear hI hmay
  have hb1 := (Below.refl w.heap.size w).alloc (Nat.le_refl _) (.cells #[.int .u64 (p : Int), .int .i64 (a : Int), .int .i64 (n : Int)] 24)
  have b4 := Box3.new w (.int .u64 (p : Int)) (.int .i64 (a : Int)) (.int .i64 (n : Int)) 24
  go_enter Tryd.func3, Tryd.ntmps3
  go_wp2_with fail
  refine (up7_any _ (hR.bel hb1)).mono ?_
  rintro e w1 ⟨rfl, hb2⟩
  replace b4 := b4.below hb2
  replace hb1 := hb1.trans (hb2.mono hb1.size)
  have b4t := b4
  obtain ⟨_, q0, q1, q2, _, _, _⟩ := b4t
  go_wp2_with fail
  refine (lawxor_any _ _ _ _).mono ?_
  rintro e w2 ⟨rfl, hb3⟩
  replace hb1 := hb1.trans (hb3.mono hb1.size)
  have b10 := Box3.new w2 (.int .u64 (p : Int)) (.int .i64 (a : Int)) (.int .i64 (n : Int)) 27
  replace b4 := (b4.below hb3).onA (.cells #[.int .u64 (p : Int), .int .i64 (a : Int), .int .i64 (n : Int)] 27)
  replace hb1 := hb1.alloc hb1.size (.cells #[.int .u64 (p : Int), .int .i64 (a : Int), .int .i64 (n : Int)] 27)
  clear hb2 hb3 q0 q1 q2
  go_wp2_with fail
  refine (hM _).mono ?_
  rintro e w3 ⟨rfl, hb4⟩
  replace b4 := b4.below hb4
  replace b10 := b10.below hb4
  replace hb1 := hb1.trans (hb4.mono hb1.size)
  clear hM hb4
  generalize w2.heap.size = g10 at *
  have b4t := b4
  obtain ⟨_, q0, q1, q2, _, _, _⟩ := b4t
  go_wp2_with fail
  refine (hC _ (hR.bel hb1)).mono ?_
  rintro e w4 ⟨A4, c4, rfl, ho4⟩
  -- behind the program's Code: two boxes
  have b12 := (BoxAt.new w4 (.slice A4 (pack cd).length c4) (.int .i64 (M : Int)) 31).onA (.cells #[.int .u64 (v : Int), .int .i64 (nx.lead : Int), .int .i64 (nx.len : Int)] 24)
  have b13 := Box3.new (w4.alloc (.cells #[.slice A4 (pack cd).length c4, .int .i64 (M : Int)] 31)) (.int .u64 (v : Int)) (.int .i64 (nx.lead : Int)) (.int .i64 (nx.len : Int)) 24
  simp only [World.size_alloc] at b13
  have hal := two_below w4 (.cells #[.slice A4 (pack cd).length c4, .int .i64 (M : Int)] 31) (.cells #[.int .u64 (v : Int), .int .i64 (nx.lead : Int), .int .i64 (nx.len : Int)] 24)
  have hr4 := (ho4.rd.below hal).more hal.size
  replace b4 := (b4.below ho4.bel).below hal
  replace b10 := (b10.below ho4.bel).below hal
  replace hb1 := (hb1.trans (ho4.bel.mono hb1.size))
  replace hb1 := hb1.trans (hal.mono hb1.size)
  clear ho4 hal q0 q1 q2 hC
  go_upto_region 7 with fail
  generalize (w4.alloc (.cells #[.slice A4 (pack cd).length c4, .int .i64 (M : Int)] 31)).alloc (.cells #[.int .u64 (v : Int), .int .i64 (nx.lead : Int), .int .i64 (nx.len : Int)] 24) = W5 at *
  generalize w4.heap.size = g12 at *
  have b10t := b10
  obtain ⟨_, q0, q1, q2, _, _, _⟩ := b10t
  go_wp2_with fail
  refine (hRC _).mono ?_
  rintro e w6 ⟨A6, c6, rfl, ho6⟩
  have hal := (Below.refl w6.heap.size w6).alloc (Nat.le_refl _) (.cells #[.int .u64 (v : Int), .int .i64 (nx.lead : Int), .int .i64 (nx.len : Int)] 27)
  have hst := ho6.bel.trans (hal.mono ho6.bel.size)
  have b15 := Box3.new w6 (.int .u64 (v : Int)) (.int .i64 (nx.lead : Int)) (.int .i64 (nx.len : Int)) 27
  have hr6 := (ho6.rd.below hal).more hal.size
  replace hr4 := (hr4.below hst).more hst.size
  replace b4 := b4.below hst
  replace b10 := b10.below hst
  replace b12 := b12.below hst
  replace b13 := b13.below hst
  replace hb1 := hb1.trans (hst.mono hb1.size)
  clear ho6 hal hst q0 q1 q2 hRC
  go_upto_region 8 with fail
  generalize w6.alloc (.cells #[.int .u64 (v : Int), .int .i64 (nx.lead : Int), .int .i64 (nx.len : Int)] 27) = W7 at *
  generalize w6.heap.size = g15 at *
  have b4t := b4
  obtain ⟨_, q0, q1, q2, _, _, _⟩ := b4t
  go_wp2_with fail
  refine (hG _ ((h.below hb1).more hb1.size) (hR.bel hb1)).mono ?_
  rintro e w8 ⟨rfl, hb8⟩
  have hal := (Below.refl w8.heap.size w8).alloc (Nat.le_refl _) (.cells #[.int .u64 (R.s.prev : Int), .int .i64 (R.s.lead : Int), .int .i64 (R.s.len : Int)] 24)
  have hst := hb8.trans (hal.mono hb8.size)
  have b17 := Box3.new w8 (.int .u64 (R.s.prev : Int)) (.int .i64 (R.s.lead : Int)) (.int .i64 (R.s.len : Int)) 24
  replace hr4 := (hr4.below hst).more hst.size
  replace hr6 := (hr6.below hst).more hst.size
  replace b10 := b10.below hst
  replace b12 := b12.below hst
  replace b13 := b13.below hst
  replace b15 := b15.below hst
  replace hb1 := hb1.trans (hst.mono hb1.size)
  clear b4 hb8 hal hst q0 q1 q2 hG
  go_upto_region 9 with fail
  generalize w8.alloc (.cells #[.int .u64 (R.s.prev : Int), .int .i64 (R.s.lead : Int), .int .i64 (R.s.len : Int)] 24) = W9 at *
  generalize w8.heap.size = g17 at *
  have HQL : Hid (q.length ≤ 4000) := Lib.hid (by
    rw [← HQ.out]
    unfold restL
    split
    · rw [List.length_drop, flat_length, h.len]; omega
    · simp)
  have hRest : ∀ X : World, Rd X X.heap.size A m c bs → Calls Tryd.prog 12 #[.slice A m c, .int .i64 t] X (RetP X q) := fun X hX => by
    rw [← HQ.out]; exact rest_any A m c bs t X hX hb (by omega) ht
  unfold RetP at hRest
  go_cut [20, 21, 22, 23] (fun x20 x21 x22 x23 wx => ∃ g, x20 = .int .u64 (R.v : Int) ∧ x21 = .pointer (some ⟨g, 0, none⟩) ∧ x22 = .int .i64 (R.n : Int) ∧ x23 = .int .i64 (R.e : Int) ∧ Box3 wx g (.int .u64 (R.s.prev : Int)) (.int .i64 (R.s.lead : Int)) (.int .i64 (R.s.len : Int)) ∧ Below W9.heap.size W9 wx)
  case first =>
    have hrA : Rd W9.drew W9.drew.heap.size A m c bs := ((h.below hb1).more hb1.size).drew
    have hrA0 : Rd W9 W9.heap.size A m c bs := (h.below hb1).more hb1.size
    have hbw : Below W9.heap.size W9 W9.drew := (Below.refl _ _).drew
    have b10' := b10.drew
    obtain ⟨_, q0, q1, q2, _, _, _⟩ := b10.drew
    have hn0 := World.new_ne W9 ⟨g10, 0, none⟩ q0
    have hn1 := World.new_ne W9 ⟨g10, 1, none⟩ q1
    have hn2 := World.new_ne W9 ⟨g10, 2, none⟩ q2
    clear b12 b13 b15 b17 hr4 hr6
    go_region_held3 (fun w' => w'.cell? ⟨g10, 0, none⟩ = some (.int .u64 (p : Int)) ∧ w'.cell? ⟨g10, 1, none⟩ = some (.int .i64 (a : Int)) ∧ w'.cell? ⟨g10, 2, none⟩ = some (.int .i64 (n : Int))) (first | exact ⟨q0, q1, q2⟩ | exact ⟨(b10'.onA _).c0, (b10'.onA _).c1, (b10'.onA _).c2⟩ | exact ⟨(b10.onA _).drew.c0, (b10.onA _).drew.c1, (b10.onA _).drew.c2⟩ | exact ⟨(((b10'.other hgl 0 _).other hgl 1 _).other hgl 2 _).c0, (((b10'.other hgl 0 _).other hgl 1 _).other hgl 2 _).c1, (((b10'.other hgl 0 _).other hgl 1 _).other hgl 2 _).c2⟩ | go_keep) (first
      | (go_at_call 12; (with_reducible refine (hRest _ hrA).mono ?_); rintro e w10 ⟨A10, n10, c10, rfl, hrq, hb10⟩; have hn10 : n10 ≤ 4000 := (by have e1 := hrq.len; rw [enc_length] at e1; rw [← e1]; exact HQL.out); replace hbw := hbw.trans (hb10.mono hbw.size); clear q0 q1 q2 hrA; replace b10' := b10'.below hb10; (try replace xb := xb.below hb10); clear hb10; have b10t := b10'; obtain ⟨_, q0, q1, q2, _, _, _⟩ := b10t)
      | (go_at_call 11; (with_reducible refine (hRG _ _ _ _ hrq (by omega)).mono ?_); rintro e w11 ⟨rfl, hb11⟩; replace hbw := hbw.trans (hb11.mono hbw.size); clear q0 q1 q2 hrq; replace b10' := b10'.below hb11; (try replace xb := xb.below hb11); clear hb11; have b10t := b10'; obtain ⟨_, q0, q1, q2, _, _, _⟩ := b10t; (try (have xbt := xb; obtain ⟨_, z0, z1, z2, zf0, zf1, zf2⟩ := xbt)))
      | (go_at_call 12; have hgl := Nat.ne_of_lt b10.lt; have hge := Nat.le_refl W9.heap.size; have xb := (Box3.new W9 (.int .u64 0) (.int .i64 0) (.int .i64 0) 27).drew; replace hbw := ((Below.refl W9.heap.size W9).alloc (Nat.le_refl _) (.cells #[.int .u64 0, .int .i64 0, .int .i64 0] 27)).drew; replace hrA : Rd (W9.alloc (.cells #[.int .u64 0, .int .i64 0, .int .i64 0] 27)).drew (W9.alloc (.cells #[.int .u64 0, .int .i64 0, .int .i64 0] 27)).drew.heap.size A m c bs := (hrA0.onA (.cells #[.int .u64 0, .int .i64 0, .int .i64 0] 27)).drew; replace b10' := (b10.onA (.cells #[.int .u64 0, .int .i64 0, .int .i64 0] 27)).drew; (with_reducible refine (hRest _ hrA).mono ?_); rintro e w10 ⟨A10, n10, c10, rfl, hrq, hb10⟩; have hn10 : n10 ≤ 4000 := (by have e1 := hrq.len; rw [enc_length] at e1; rw [← e1]; exact HQL.out); replace hbw := hbw.trans (hb10.mono hbw.size); clear q0 q1 q2 hrA; replace b10' := b10'.below hb10; (try replace xb := xb.below hb10); clear hb10; have b10t := b10'; obtain ⟨_, q0, q1, q2, _, _, _⟩ := b10t)
      | (go_at_call 11; have hgl := Nat.ne_of_lt b10'.lt; have hge := hbw.size; have xb := Box3.new w10 (.int .u64 0) (.int .i64 0) (.int .i64 0) 27; replace hbw := hbw.alloc hbw.size (.cells #[.int .u64 0, .int .i64 0, .int .i64 0] 27); replace hrq := hrq.onA (.cells #[.int .u64 0, .int .i64 0, .int .i64 0] 27); replace b10' := b10'.onA (.cells #[.int .u64 0, .int .i64 0, .int .i64 0] 27); (with_reducible refine (hRG _ _ _ _ hrq (by omega)).mono ?_); rintro e w11 ⟨rfl, hb11⟩; replace hbw := hbw.trans (hb11.mono hbw.size); clear q0 q1 q2 hrq; replace b10' := b10'.below hb11; (try replace xb := xb.below hb11); clear hb11; have b10t := b10'; obtain ⟨_, q0, q1, q2, _, _, _⟩ := b10t; (try (have xbt := xb; obtain ⟨_, z0, z1, z2, zf0, zf1, zf2⟩ := xbt))))
    all_goals
      clear q0 q1 q2 b10'
      go_wp2_with fail
      go_meet
      first
        | exact ⟨_, rfl, rfl, rfl, rfl, xb.set _ _ _, ((hbw.setCell hge _).setCell hge _).setCell hge _⟩
        | exact ⟨_, rfl, rfl, rfl, rfl, Box3.new _ _ _ _ _, hbw.alloc hbw.size _⟩
  case rest =>
    obtain ⟨g21, rfl, rfl, rfl, rfl, b21, hst⟩ := hcut
    have hr4' := (hr4.below hst).more hst.size
    have hr6' := (hr6.below hst).more hst.size
    have c12 := b12.below hst
    have c13 := b13.below hst
    have c15 := b15.below hst
    have c17 := b17.below hst
    have hbz := hb1.trans (hst.mono hb1.size)
    clear hr4 hr6 b10 b12 b13 b15 b17 hst hb1 hRest hRG
    have qs := fun w a b c => run_eql_refx w a b c
    have sg := refx_guard
    have hCd := fun X => code_any R.e X (by omega)
    rw [HE.out] at hCd
    have hIs := is_yes A4 A6 _ c4 M c6 cd wc.drew hr4'.drew hr6'.drew (by omega)
    rw [HM.out] at hIs
    replace c12 := c12.drew
    replace c13 := c13.drew
    replace c15 := c15.drew
    replace c17 := c17.drew
    have c21 := b21.drew
    replace hbz := hbz.drew
    clear hr4' hr6' b21 he3
    go_upto_region 10 with fail
    go_region_held3 (fun w' => w'.cell? ⟨g12, 0, none⟩ = some (.slice A4 (pack cd).length c4) ∧ w'.cell? ⟨g12, 1, none⟩ = some (.int .i64 (M : Int)) ∧ w'.cell? ⟨g12 + 1, 0, none⟩ = some (.int .u64 (v : Int)) ∧ w'.cell? ⟨g12 + 1, 1, none⟩ = some (.int .i64 (nx.lead : Int)) ∧ w'.cell? ⟨g12 + 1, 2, none⟩ = some (.int .i64 (nx.len : Int)) ∧ w'.cell? ⟨g15, 0, none⟩ = some (.int .u64 (v : Int)) ∧ w'.cell? ⟨g15, 1, none⟩ = some (.int .i64 (nx.lead : Int)) ∧ w'.cell? ⟨g15, 2, none⟩ = some (.int .i64 (nx.len : Int)) ∧ w'.cell? ⟨g17, 0, none⟩ = some (.int .u64 (R.s.prev : Int)) ∧ w'.cell? ⟨g17, 1, none⟩ = some (.int .i64 (R.s.lead : Int)) ∧ w'.cell? ⟨g17, 2, none⟩ = some (.int .i64 (R.s.len : Int)) ∧ w'.cell? ⟨g21, 0, none⟩ = some (.int .u64 (R.s.prev : Int)) ∧ w'.cell? ⟨g21, 1, none⟩ = some (.int .i64 (R.s.lead : Int)) ∧ w'.cell? ⟨g21, 2, none⟩ = some (.int .i64 (R.s.len : Int)))
      (exact ⟨c12.c0, c12.c1, c13.c0, c13.c1, c13.c2, c15.c0, c15.c1, c15.c2, c17.c0, c17.c1, c17.c2, c21.c0, c21.c1, c21.c2⟩) (first
      | (go_at_call 13; (with_reducible refine hIs.mono ?_); rintro e w20 ⟨rfl, HB⟩; replace c12 := c12.below HB; replace c13 := c13.below HB; replace c15 := c15.below HB; replace c17 := c17.below HB; replace c21 := c21.below HB; replace hbz := hbz.trans (HB.mono hbz.size); clear HB hIs)
      | (go_at_call 6; (with_reducible refine (lawxor_any _ _ _ _).mono ?_); rintro e w20 ⟨rfl, HB⟩; replace c12 := c12.below HB; replace c13 := c13.below HB; replace c15 := c15.below HB; replace c17 := c17.below HB; replace c21 := c21.below HB; replace hbz := hbz.trans (HB.mono hbz.size); clear HB)
      | (go_at_call 14; (with_reducible refine (hCd _).mono ?_); rintro e w20 ⟨rfl, rfl⟩))
    all_goals
      clear c12 c13 c15 c17 c21
      go_wp2
      go_ret
      exact ⟨rfl, hbz⟩

theorem xtells_all (A : Option Addr) (m c : Nat) (bs : List Nat) (p v : Nat) (a n t : Int) (w : World) (h : Rd w w.heap.size A m c bs) (hb : ∀ x ∈ bs, x < 256) (hm : m ≤ 9223372036854775807)
    (hp : p ≤ 18446744073709551615) (hv : v ≤ 18446744073709551615) (ha : -9223372036854775808 ≤ a ∧ a ≤ 9223372036854775807) (hn : -9223372036854775808 ≤ n ∧ n ≤ 9223372036854775807) (ht : -9223372036854775808 ≤ t ∧ t ≤ 9223372036854775807) (hR : TzW w) :
    Calls Tryd.prog 3 #[.agg #[.int .u64 (p : Int), .int .i64 a, .int .i64 n], .int .u64 (v : Int), .slice A m c, .int .i64 t] w (RetTrue w) := by
  cases hmay : mayI a n
  · exact xtells_out A m c p v a n t w hm ha hn (.inl hmay) hR
  · by_cases h5 : m ≤ 500
    · have hx := of_decide_eq_true hmay
      obtain ⟨a', rfl⟩ := Int.eq_ofNat_of_zero_le hx.1
      obtain ⟨n', rfl⟩ := Int.eq_ofNat_of_zero_le hx.2.2.1
      exact xtells_in A m c bs p a' n' v t w h hb h5 ⟨hp, by simp only; omega, by simp only; omega, fun e => by simp only at e; simp only; omega⟩ hv ht hR
    · exact xtells_out A m c p v a n t w hm ha hn (.inr ⟨hmay, by omega⟩) hR

end Go.Proofs.YtfehlkilnghhiaaDoor
