/-
  BitsTells, walked: it returns true, whatever the arguments.
-/
import Derived.Test.YtanikfgagdncaaaUp
import Derived.Test.YtanikfgagdncaaaIs
import Derived.Test.YtanikfgagdncaaaLow
import Derived.Test.YtanikfgagdncaaaLaw
import Derived.Deep.DeepCutAuto
import Derived.Deep.RegionHeld3
namespace Go.Proofs.Ytanikfgagdncaaa
open Go.RowKit

theorem own_ne {w0 w : World} {A : Option Addr} {n c g : Nat} {bs : List Nat} (h : Own w0 w (.slice A n c) bs) (hg : g < w0.heap.size) : ∀ ad, A = some ad → ad.block ≠ g := by
  rintro ad rfl e
  have := (h.row.lt ad.block rfl).1
  omega

set_option maxHeartbeats 400000 in
theorem tells_big (A1 A2 A3 : Option Addr) (m1 c1 m2 c2 m3 c3 : Nat) (v : Int) (n a : Int) (w : World) (hl : m1 ≤ 9223372036854775807 ∧ m2 ≤ 9223372036854775807 ∧ m3 ≤ 9223372036854775807)
    (h : 500 < m1 ∨ (m1 ≤ 500 ∧ 500 < m2) ∨ (m1 ≤ 500 ∧ m2 ≤ 500 ∧ 500 < m3)) :
    Calls Try.prog 3 #[.slice A1 m1 c1, .slice A2 m2 c2, .int .u64 v, .int .i64 n, .slice A3 m3 c3, .int .i64 a] w (RetTrue w) := by
  rcases h with h | h | h
  all_goals
    go_enter Try.func3, Try.ntmps3
    go_wp2_with (go_at_call 5; refine (up_any _).mono ?_; rintro e w1 ⟨rfl, hb1⟩)
    go_ret
    exact ⟨rfl, hb1⟩

set_option maxRecDepth 100000 in
set_option maxHeartbeats 1000000 in
theorem tells_in (A1 A2 A3 : Option Addr) (m1 c1 m2 c2 m3 c3 : Nat) (l m b : List Nat) (v n : Nat) (a : Int) (w : World)
    (h1 : Rd w w.heap.size A1 m1 c1 l) (h2 : Rd w w.heap.size A2 m2 c2 m) (h3 : Rd w w.heap.size A3 m3 c3 b) (hb1 : ∀ x ∈ l, x < 256) (hb2 : ∀ x ∈ m, x < 256) (hb3 : ∀ x ∈ b, x < 256)
    (hl1 : m1 ≤ 500) (hl2 : m2 ≤ 500) (hl3 : m3 ≤ 500) (hv : v ≤ 18446744073709551615) (hn : n ≤ 64) (ha : -9223372036854775808 ≤ a ∧ a ≤ 9223372036854775807) :
    Calls Try.prog 3 #[.slice A1 m1 c1, .slice A2 m2 c2, .int .u64 (v : Int), .int .i64 (n : Int), .slice A3 m3 c3, .int .i64 a] w (RetTrue w) := by
  go_enter Try.func3, Try.ntmps3
  go_upto_region 4 with (go_at_call 5; refine (up_any _).mono ?_; rintro e w1 ⟨rfl, hu1⟩)
  go_wp2_with fail
  refine (lawbits_any _ _ _ l _ ((h1.below hu1).more hu1.size) hb1 (by omega)).mono ?_
  rintro e w2 ⟨B1, d1, rfl, ho1⟩
  have HP : Hid ((odd l).length = m1) := Lib.hid (by rw [odd_length, h1.len])
  generalize odd l = p at *
  go_wp2_with fail
  have hu2 := hu1.trans (ho1.bel.mono hu1.size)
  have hu3 := hu2.alloc hu2.size (.cells #[.slice B1 (pack p).length d1, .int .i64 ((p.length : Nat) : Int)] 26)
  refine (lawbits_any _ _ _ m _ ((h2.below hu3).more hu3.size) hb2 (by omega)).mono ?_
  rintro e w3 ⟨B2, d2, rfl, ho2⟩
  have HQ : Hid ((odd m).length = m2) := Lib.hid (by rw [odd_length, h2.len])
  generalize odd m = q at *
  obtain ⟨s, HS⟩ : ∃ s, Hid (s = p ++ q) := ⟨_, Lib.hid rfl⟩
  go_upto_region 6 with fail
  have hx3 : Below (w2.alloc (.cells #[.slice B1 (pack p).length d1, .int .i64 ((p.length : Nat) : Int)] 26)).heap.size (w2.alloc (.cells #[.slice B1 (pack p).length d1, .int .i64 ((p.length : Nat) : Int)] 26)) (w3.alloc (.cells #[.slice B2 (pack q).length d2, .int .i64 ((q.length : Nat) : Int)] 26)) := ho2.bel.alloc ho2.bel.size _
  have hr1 : Rd (w3.alloc (.cells #[.slice B2 (pack q).length d2, .int .i64 ((q.length : Nat) : Int)] 26)) (w3.alloc (.cells #[.slice B2 (pack q).length d2, .int .i64 ((q.length : Nat) : Int)] 26)).heap.size B1 (pack p).length d1 (pack p) := ((ho1.alloc _).keep hx3).rd
  have hr2 : Rd (w3.alloc (.cells #[.slice B2 (pack q).length d2, .int .i64 ((q.length : Nat) : Int)] 26)) (w3.alloc (.cells #[.slice B2 (pack q).length d2, .int .i64 ((q.length : Nat) : Int)] 26)).heap.size B2 (pack q).length d2 (pack q) := (ho2.alloc _).rd
  go_cut [16] (fun s wx => ∃ A c, s = .slice A p.length c ∧ Rd wx wx.heap.size A p.length c (enc p) ∧ Below (w3.alloc (.cells #[.slice B2 (pack q).length d2, .int .i64 ((q.length : Nat) : Int)] 26)).heap.size (w3.alloc (.cells #[.slice B2 (pack q).length d2, .int .i64 ((q.length : Nat) : Int)] 26)) wx)
  case first =>
    obtain ⟨cx0, cx1, _, _⟩ := two_new hx3
    go_region_with (first
      | (go_at_call 7; refine (flat_any _ _ _ (pack p) _ (by exact hr1.drew) (pack_lt p) (by rw [pack_length]; have := HP.out; omega)).mono ?_; rintro e w4 ⟨A4, c4, rfl, ho4⟩; have hb4 : Below (w3.alloc (.cells #[.slice B2 (pack q).length d2, .int .i64 ((q.length : Nat) : Int)] 26)).heap.size (w3.alloc (.cells #[.slice B2 (pack q).length d2, .int .i64 ((q.length : Nat) : Int)] 26)) w4 := undrew ho4.bel; clear cx0 cx1; obtain ⟨cx0, cx1, _, _⟩ := two_new (hx3.trans (hb4.mono hx3.size)); have hr4 := ho4.rd; have hcap : p.length ≤ c4 := by (have h5 := hr4.cap; rw [enc_length, flat_length, pack_length] at h5; omega)))
    all_goals
      have hw4 := hr4.cutHead (n := p.length) (by rw [enc_length, flat_length, pack_length]; omega)
      rw [enc_take, take_flat_pack] at hw4
      go_wp2_with fail
      go_meet
      exact ⟨A4, c4, rfl, hw4, hb4⟩
  case rest =>
    obtain ⟨A5, c5, rfl, hwant, hb5⟩ := hcut
    have hx5 := hx3.trans (hb5.mono hx3.size)
    replace hr1 := (hr1.below hb5).more hb5.size
    replace hr2 := (hr2.below hb5).more hb5.size
    go_upto_region 7 with fail
    go_cut [17] (fun sl wx => ∃ A c, sl = .slice A s.length c ∧ Rd wx wx.heap.size A s.length c (enc s) ∧ Below wc.heap.size wc wx)
    case first =>
      obtain ⟨cy0, cy1, _, _⟩ := two_new hb5
      have hq1 : q.length ≤ 500 := by have := HQ.out; omega
      have hp1 : p.length ≤ 500 := by have := HP.out; omega
      clear hx3 hx5 ho1 ho2 hu1 hu2 hu3 h1 h2 h3 hb1 hb2 hb3 hr1
      go_region_held3 (fun w' => w'.cell? ⟨w3.heap.size, 0, none⟩ = some (.slice B2 (pack q).length d2) ∧ w'.cell? ⟨w3.heap.size, 1, none⟩ = some (.int .i64 ((q.length : Nat) : Int))) (go_keep)
        (first
          | (refine step_app (by rfl) (.tmp 48) (.tmp 49) (by rfl) (by rfl) (by rfl) (Own.lit0 ((Below.refl _ wc).drew)) (hwant.below ((Below.refl _ wc).drew.alloc (Nat.le_refl _) _)) (by simp; omega) ?_; intro v6 w6 ho6 hg6; replace ho6 : Own wc w6 v6 (enc p) := (by simpa using ho6); clear cy0 cy1; obtain ⟨cy0, cy1, _, _⟩ := two_new (hb5.trans (ho6.bel.mono hb5.size)))
          | (refine step_app (by rfl) (.tmp 48) (.tmp 49) (by rfl) (by rfl) (by rfl) ((Own.lit0 ((Below.refl _ wc).drew)).keep ho4.bel) (hwant.below hb4) (by simp; omega) ?_; intro v6 w6 ho6 hg6; replace ho6 : Own wc w6 v6 (enc p) := (by simpa using ho6); clear cy0 cy1; obtain ⟨cy0, cy1, _, _⟩ := two_new (hb5.trans (ho6.bel.mono hb5.size)); have hq6 := hq4.far hg6 (Nat.le_refl _) (own_ne ho4 (by simp)))
          | (refine step_app (by rfl) (.tmp 48) (.tmp 49) (by rfl) (by rfl) (by rfl) (Own.lit0 hb4) (hwant.below (hb4.alloc hb4.size _)) (by simp; omega) ?_; intro v6 w6 ho6 hg6; replace ho6 : Own wc w6 v6 (enc p) := (by simpa using ho6); clear cy0 cy1; obtain ⟨cy0, cy1, _, _⟩ := two_new (hb5.trans (ho6.bel.mono hb5.size)); have hq6 := (hq4.below ((Below.refl _ _).alloc (Nat.le_refl _) (.cells #[] 5))).grown hg6 (by simp) (fun g hg => by (injection hg with hg; subst hg; exact Nat.le_refl _)))
          | (go_at_call 7; refine (flat_any _ _ _ (pack q) _ (by first | exact hr2.drew | exact (hr2.below ((Below.refl _ wc).drew.alloc (Nat.le_refl _) _)).more (by simp) | exact (hr2.below ho6.bel).more ho6.bel.size) (pack_lt q) (by rw [pack_length]; omega)).mono ?_; rintro e w4 ⟨A4, c4, rfl, ho4⟩; have hb4 : Below wc.heap.size wc w4 := (by first | exact undrew ho4.bel | exact ((Below.refl _ wc).drew.alloc (Nat.le_refl _) _).trans (ho4.bel.mono (by simp)) | exact ho6.bel.trans (ho4.bel.mono ho6.bel.size)); clear cy0 cy1; obtain ⟨cy0, cy1, _, _⟩ := two_new (hb5.trans (hb4.mono hb5.size)); have hr4 := ho4.rd; have hcap : q.length ≤ c4 := (by (have h5 := hr4.cap; rw [enc_length, flat_length, pack_length] at h5; omega)); have hq4 : Rd w4 w4.heap.size A4 q.length c4 (enc q) := (by (have h6 := hr4.cutHead (n := q.length) (by rw [enc_length, flat_length, pack_length]; omega); rw [enc_take, take_flat_pack] at h6; exact h6)))
          | (refine step_app (by rfl) (.tmp 50) (.tmp 56) (by rfl) (by rfl) (by rfl) (ho6.keep ho4.bel) hq4 (by rw [enc_length]; omega) ?_; intro v7 w7 ho7 _; clear cy0 cy1; obtain ⟨cy0, cy1, _, _⟩ := two_new (hb5.trans (ho7.bel.mono hb5.size)))
          | (refine step_app (by rfl) (.tmp 50) (.tmp 56) (by rfl) (by rfl) (by rfl) ho6 hq6 (by rw [enc_length]; omega) ?_; intro v7 w7 ho7 _; clear cy0 cy1; obtain ⟨cy0, cy1, _, _⟩ := two_new (hb5.trans (ho7.bel.mono hb5.size))))
      all_goals
        clear cy0 cy1
        rw [← enc_app, ← HS.out] at ho7
        obtain ⟨A7, c7, rfl, hr7⟩ := ho7.form
        rw [enc_length s] at hr7 ⊢
        go_wp2_with fail
        go_meet
        exact ⟨A7, c7, rfl, hr7, ho7.bel⟩
    case rest =>
      obtain ⟨A7, c7, rfl, hboth, hb7⟩ := hcut
      have hw5 := hu3.trans (hx5.mono hu3.size)
      have hw7 := hw5.trans (hb7.mono hw5.size)
      have hx7 := hx5.trans (hb7.mono hx5.size)
      have hy7 := hb5.trans (hb7.mono hb5.size)
      replace hr1 := (hr1.below hb7).more hb7.size
      replace hr2 := (hr2.below hb7).more hb7.size
      replace hwant := (hwant.below hb7).more hb7.size
      clear hb7 hb5 hx5 hx3 hw5 hu3 hu2 hu1 ho1 ho2 h1 h2 hb1 hb2
      have hp1 : p.length ≤ 500 := by have := HP.out; omega
      have hq1 : q.length ≤ 500 := by have := HQ.out; omega
      go_wp2_with (at_builtin; (refine wpList_app rfl (.tmp 58) (.tmp 59) rfl rfl rfl (Own.lit0 (Below.refl _ wc)) (hwant.below ((Below.refl _ wc).alloc (Nat.le_refl _) _)) (by simp; omega) ?_; intro v8 w8 ho8; rw [List.nil_append] at ho8))
      obtain ⟨r, HR⟩ : ∃ r, Hid (r = p ++ low v n) := ⟨_, Lib.hid rfl⟩
      refine (low_any v n _ hv hn).mono ?_
      rintro e w9 ⟨A9, c9, rfl, ho9⟩
      have HLL : Hid ((enc (low v n)).length = n) := Lib.hid (by rw [enc_length, low_length])
      go_wp2_with (at_builtin; (refine wpList_app rfl (.tmp 67) (.tmp 70) rfl rfl rfl (ho8.keep ho9.bel) ho9.rd (by rw [enc_length, HLL.out]; omega) ?_; intro v10 w10 ho10; rw [← enc_app, ← HR.out] at ho10; obtain ⟨A10, c10, rfl, hmore⟩ := ho10.form; rw [enc_length r] at hmore ⊢))
      have hb10 := ho10.bel
      have hw10 := hw7.trans (hb10.mono hw7.size)
      refine (take_all A3 m3 c3 _ b a _ _ (h3.below hw10) hb3 (by omega) ha (by omega)).mono ?_
      rintro e w11 ⟨rfl, rfl⟩
      go_wp2_with fail
      refine (reftake_all A3 m3 c3 b a _ _ ((h3.below hw10).more hw10.size) hb3 (by omega) ha (by omega)).mono ?_
      rintro e w12 ⟨rfl, hb12⟩
      have hd12 := hb10.trans (hb12.mono hb10.size)
      obtain ⟨cx0, cx1, _, _⟩ := two_new (hx7.trans (hd12.mono hx7.size))
      generalize takeN b a (n : Int) = tn at *
      generalize takeB b a (n : Int) = tb at *
      go_wp2_with fail
      refine (put_yes _ _ _ p v n _ ((hr1.below hd12).more hd12.size) (by omega) hn).mono ?_
      rw [← HR.out]
      rintro e w13 ⟨A13, c13, rfl, ho13⟩
      have hd13 := hd12.trans (ho13.bel.mono hd12.size)
      clear cx0 cx1
      go_wp2_with fail
      refine (is_yes _ _ _ _ _ _ r _ ho13.rd ((hmore.below (hb12.trans (ho13.bel.mono hb12.size))).more (hb12.trans (ho13.bel.mono hb12.size)).size) (by rw [HR.out, List.length_append, low_length]; omega)).mono ?_
      rintro e w14 ⟨rfl, hb14⟩
      have hd14 := hd13.trans (hb14.mono hd13.size)
      obtain ⟨cx0, cx1, _, _⟩ := two_new (hx7.trans (hd14.mono hx7.size))
      obtain ⟨cy0, cy1, _, _⟩ := two_new (hy7.trans (hd14.mono hy7.size))
      go_wp2_with fail
      refine (join_any _ _ _ _ _ _ p q _ ((hr1.below hd14).more hd14.size) ((hr2.below hd14).more hd14.size) (by omega) (by omega)).mono ?_
      rw [← HS.out]
      rintro e w15 ⟨A15, c15, rfl, ho15⟩
      have hd15 := hd14.trans (ho15.bel.mono hd14.size)
      clear cx0 cx1 cy0 cy1
      go_wp2_with fail
      refine (is_yes _ _ _ _ _ _ s _ ho15.rd ((hboth.below hd15).more hd15.size) (by rw [HS.out, List.length_append]; omega)).mono ?_
      rintro e w16 ⟨rfl, hb16⟩
      have hd16 := hd15.trans (hb16.mono hd15.size)
      go_wp2
      go_ret
      exact ⟨rfl, hw7.trans (hd16.mono hw7.size)⟩

end Go.Proofs.Ytanikfgagdncaaa
