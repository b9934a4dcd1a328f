/-
  DodBack, walked: it returns true, whatever the arguments.
-/
import Derived.Test.YtbhinhonidbilaaDoorDodBits
import Derived.Deep.DeepCutAuto
import Derived.Deep.RegionHeld3
namespace Go.Proofs.YtbhinhonidbilaaDoor
open Go.RowKit

set_option maxRecDepth 100000 in
set_option maxHeartbeats 4000000 in
theorem dback_in (A1 A2 A3 : Option Addr) (m1 c1 m2 c2 m3 c3 : Nat) (l rest b : List Nat) (v a : Int) (w : World) (h1 : Rd w w.heap.size A1 m1 c1 l) (h2 : Rd w w.heap.size A2 m2 c2 rest) (h3 : Rd w w.heap.size A3 m3 c3 b)
    (hb1 : ∀ x ∈ l, x < 256) (hb2 : ∀ x ∈ rest, x < 256) (hb3 : ∀ x ∈ b, x < 256) (hm1 : m1 ≤ 300) (hm2 : m2 ≤ 300) (hm3 : m3 ≤ 300)
    (hv : -9223372036854775808 ≤ v ∧ v ≤ 9223372036854775807) (hR : RoomW w) :
    Calls Tryd.prog 4 #[.slice A1 m1 c1, .int .i64 v, .slice A2 m2 c2, .slice A3 m3 c3, .int .i64 a] w (RetTrue w) := by
  obtain ⟨cd, HCD⟩ : ∃ cd, Hid (codeD v = cd) := ⟨_, Lib.hid rfl⟩
  obtain ⟨L, HL⟩ : ∃ L, Hid (cd.length = L) := ⟨_, Lib.hid rfl⟩
  have hL : 1 ≤ L ∧ L ≤ 68 := by rw [← HL.out, ← HCD.out]; exact codeD_pos v
  go_enter Tryd.func4, Tryd.ntmps4
  go_wp2_with fail
  refine (up5_any w hR).mono ?_
  rintro e w1 ⟨rfl, hw1⟩
  go_wp2_with fail
  refine (dcode_any v w1 hv (hR.bel hw1)).mono ?_
  rw [HCD.out]
  rintro e w2 ⟨Ac, cc, rfl, hown2⟩
  rw [HL.out]
  go_upto_region 7 with fail
  have hcx := BoxAt.new w2 (.slice Ac (pack cd).length cc) (.int .i64 (L : Int)) 33
  have hWW : Below w.heap.size w (w2.alloc (.cells #[.slice Ac (pack cd).length cc, .int .i64 (L : Int)] 33)) := (hw1.trans (hown2.bel.mono hw1.size)).alloc (hw1.trans (hown2.bel.mono hw1.size)).size _
  have hrc := (hown2.alloc (.cells #[.slice Ac (pack cd).length cc, .int .i64 (L : Int)] 33)).rd
  clear hown2 hw1
  generalize w2.alloc (.cells #[.slice Ac (pack cd).length cc, .int .i64 (L : Int)] 33) = W at *
  generalize w2.heap.size = gc at *
  replace h1 := (h1.below hWW).more hWW.size
  replace h2 := (h2.below hWW).more hWW.size
  replace h3 := (h3.below hWW).more hWW.size
  have hRW := hR.bel hWW
  obtain ⟨p, HP⟩ : ∃ p, Hid (p = odd l) := ⟨_, Lib.hid rfl⟩
  obtain ⟨q, HQ⟩ : ∃ q, Hid (q = odd rest) := ⟨_, Lib.hid rfl⟩
  obtain ⟨s, HS⟩ : ∃ s, Hid (s = p ++ cd) := ⟨_, Lib.hid rfl⟩
  obtain ⟨r, HRR⟩ : ∃ r, Hid (r = s ++ q) := ⟨_, Lib.hid rfl⟩
  have HPL : Hid (p.length = m1) := Lib.hid (by rw [HP.out, odd_length, h1.len])
  have HQL : Hid (q.length = m2) := Lib.hid (by rw [HQ.out, odd_length, h2.len])
  have HSL : Hid (s.length = m1 + L) := Lib.hid (by rw [HS.out, List.length_append, HPL.out, HL.out])
  have HRL : Hid (r.length = m1 + L + m2) := Lib.hid (by rw [HRR.out, List.length_append, HSL.out, HQL.out])
  obtain ⟨SL, HSL2⟩ : ∃ SL, Hid (s.length = SL) := ⟨_, Lib.hid rfl⟩
  obtain ⟨RL, HRL2⟩ : ∃ RL, Hid (r.length = RL) := ⟨_, Lib.hid rfl⟩
  go_cut [13] (fun x wx => ∃ g A c, x = .pointer (some ⟨g, 0, none⟩) ∧ Own W wx (.slice A (pack r).length c) (pack r) ∧ BoxAt wx g (.slice A (pack r).length c) (.int .i64 (RL : Int)))
  case first =>
    have hL1 : Rd W.drew W.drew.heap.size A1 m1 c1 l := h1.drew
    have hL2 : Rd W.drew W.drew.heap.size A2 m2 c2 rest := h2.drew
    have hLc : Rd W.drew W.drew.heap.size Ac (pack cd).length cc (pack cd) := hrc.drew
    obtain ⟨_, xc0, xc1, _, _⟩ := hcx.drew
    have hbw : Below W.heap.size W W.drew := (Below.refl _ _).drew
    have hbx := hcx.drew
    have hn0 := World.new_ne W ⟨gc, 0, none⟩ xc0
    have hn1 := World.new_ne W ⟨gc, 1, none⟩ xc1
    clear h3 hR hRW hWW
    go_region_held3 (fun w' => w'.cell? ⟨gc, 0, none⟩ = some (.slice Ac (pack cd).length cc) ∧ w'.cell? ⟨gc, 1, none⟩ = some (.int .i64 (L : Int))) (first | exact ⟨xc0, xc1⟩ | exact ⟨hcx.c0, hcx.c1⟩ | exact ⟨(hbx.onA _).c0, (hbx.onA _).c1⟩ | exact ⟨(hcx.onA _).c0, (hcx.onA _).c1⟩ | exact ⟨(hbx.other hgl _ _).c0, (hbx.other hgl _ _).c1⟩ | go_keep) (first
      | (go_at_call 14; (with_reducible refine (bits_as A1 m1 c1 l p _ hL1 hb1 (by omega) HP.out).mono ?_); rintro e w5 ⟨B1, d1, rfl, ho1⟩; have hlp := ho1.rd; have hb5 := ho1.bel; clear ho1 xc0 xc1; replace hbx := hbx.below hb5; have hbx2 := hbx; obtain ⟨_, xc0, xc1, _, _⟩ := hbx2; (try replace hxb := hxb.below hb5); replace hL2 := (hL2.below hb5).more hb5.size; replace hLc := (hLc.below hb5).more hb5.size; replace hbw := hbw.trans (hb5.mono hbw.size); clear hb5; clear hL1)
      | (go_at_call 13; (with_reducible refine (join_as _ _ _ _ _ _ p cd s _ _ SL _ hlp hLc (by rw [HPL.out]) (by rw [HL.out]) HS.out HSL2.out (by rw [HPL.out]; omega) (by rw [HL.out]; omega)).mono ?_); rintro e w6 ⟨B3, d3, rfl, ho1⟩; have hls := ho1.rd; have hb5 := ho1.bel; clear ho1 xc0 xc1; replace hbx := hbx.below hb5; have hbx2 := hbx; obtain ⟨_, xc0, xc1, _, _⟩ := hbx2; (try replace hxb := hxb.below hb5); replace hL2 := (hL2.below hb5).more hb5.size; replace hbw := hbw.trans (hb5.mono hbw.size); clear hb5; clear hlp hLc)
      | (go_at_call 14; (with_reducible refine (bits_as A2 m2 c2 rest q _ hL2 hb2 (by omega) HQ.out).mono ?_); rintro e w7 ⟨B2, d2, rfl, ho1⟩; have hlq := ho1.rd; have hb5 := ho1.bel; clear ho1 xc0 xc1; replace hbx := hbx.below hb5; have hbx2 := hbx; obtain ⟨_, xc0, xc1, _, _⟩ := hbx2; (try replace hxb := hxb.below hb5); replace hls := (hls.below hb5).more hb5.size; replace hbw := hbw.trans (hb5.mono hbw.size); clear hb5; clear hL2)
      | (go_at_call 13; (with_reducible refine (join_as _ _ _ _ _ _ s q r _ _ RL _ hls hlq (by rw [HSL2.out]) (by rw [HQL.out]) HRR.out HRL2.out (by rw [HSL.out]; omega) (by rw [HQL.out]; omega)).mono ?_); rintro e w8 ⟨B4, d4, rfl, ho1⟩; have hlr := ho1; have hbX := hbw; (try have hgx := hxb.lt); have hb5 := ho1.bel; clear ho1 xc0 xc1; replace hbx := hbx.below hb5; have hbx2 := hbx; obtain ⟨_, xc0, xc1, _, _⟩ := hbx2; (try replace hxb := hxb.below hb5); replace hbw := hbw.trans (hb5.mono hbw.size); clear hb5; clear hls hlq; (try obtain ⟨ylt, yc0, yc1, yf0, yf1⟩ := hxb))
      | (go_at_call 14; have hgl := Nat.ne_of_lt hcx.lt; have hgw := Nat.le_refl W.heap.size; have hxb := (hcx.then_ (.slice none 0 0) (.int .i64 0) 33).drew; replace hbx := (hcx.onA (.cells #[.slice none 0 0, .int .i64 0] 33)).drew; replace hbw := ((Below.refl W.heap.size W).alloc (Nat.le_refl _) (.cells #[.slice none 0 0, .int .i64 0] 33)).drew; replace hL1 : Rd (W.alloc (.cells #[.slice none 0 0, .int .i64 0] 33)).drew (W.alloc (.cells #[.slice none 0 0, .int .i64 0] 33)).drew.heap.size A1 m1 c1 l := (h1.onA (.cells #[.slice none 0 0, .int .i64 0] 33)).drew; replace hL2 : Rd (W.alloc (.cells #[.slice none 0 0, .int .i64 0] 33)).drew (W.alloc (.cells #[.slice none 0 0, .int .i64 0] 33)).drew.heap.size A2 m2 c2 rest := (h2.onA (.cells #[.slice none 0 0, .int .i64 0] 33)).drew; replace hLc : Rd (W.alloc (.cells #[.slice none 0 0, .int .i64 0] 33)).drew (W.alloc (.cells #[.slice none 0 0, .int .i64 0] 33)).drew.heap.size Ac (pack cd).length cc (pack cd) := (hrc.onA (.cells #[.slice none 0 0, .int .i64 0] 33)).drew; (with_reducible refine (bits_as A1 m1 c1 l p _ hL1 hb1 (by omega) HP.out).mono ?_); rintro e w5 ⟨B1, d1, rfl, ho1⟩; have hlp := ho1.rd; have hb5 := ho1.bel; clear ho1 xc0 xc1; replace hbx := hbx.below hb5; have hbx2 := hbx; obtain ⟨_, xc0, xc1, _, _⟩ := hbx2; (try replace hxb := hxb.below hb5); replace hL2 := (hL2.below hb5).more hb5.size; replace hLc := (hLc.below hb5).more hb5.size; replace hbw := hbw.trans (hb5.mono hbw.size); clear hb5; clear hL1)
      | (go_at_call 13; have hgl := Nat.ne_of_lt hbx.lt; have hgw := hbw.size; have hxb := hbx.then_ (.slice none 0 0) (.int .i64 0) 33; replace hbx := hbx.onA (.cells #[.slice none 0 0, .int .i64 0] 33); replace hbw := hbw.alloc hbw.size (.cells #[.slice none 0 0, .int .i64 0] 33); replace hL2 := hL2.onA (.cells #[.slice none 0 0, .int .i64 0] 33); replace hLc := hLc.onA (.cells #[.slice none 0 0, .int .i64 0] 33); replace hlp := hlp.onA (.cells #[.slice none 0 0, .int .i64 0] 33); (with_reducible refine (join_as _ _ _ _ _ _ p cd s _ _ SL _ hlp hLc (by rw [HPL.out]) (by rw [HL.out]) HS.out HSL2.out (by rw [HPL.out]; omega) (by rw [HL.out]; omega)).mono ?_); rintro e w6 ⟨B3, d3, rfl, ho1⟩; have hls := ho1.rd; have hb5 := ho1.bel; clear ho1 xc0 xc1; replace hbx := hbx.below hb5; have hbx2 := hbx; obtain ⟨_, xc0, xc1, _, _⟩ := hbx2; (try replace hxb := hxb.below hb5); replace hL2 := (hL2.below hb5).more hb5.size; replace hbw := hbw.trans (hb5.mono hbw.size); clear hb5; clear hlp hLc)
      | (go_at_call 14; have hgl := Nat.ne_of_lt hbx.lt; have hgw := hbw.size; have hxb := hbx.then_ (.slice none 0 0) (.int .i64 0) 33; replace hbx := hbx.onA (.cells #[.slice none 0 0, .int .i64 0] 33); replace hbw := hbw.alloc hbw.size (.cells #[.slice none 0 0, .int .i64 0] 33); replace hL2 := hL2.onA (.cells #[.slice none 0 0, .int .i64 0] 33); replace hls := hls.onA (.cells #[.slice none 0 0, .int .i64 0] 33); (with_reducible refine (bits_as A2 m2 c2 rest q _ hL2 hb2 (by omega) HQ.out).mono ?_); rintro e w7 ⟨B2, d2, rfl, ho1⟩; have hlq := ho1.rd; have hb5 := ho1.bel; clear ho1 xc0 xc1; replace hbx := hbx.below hb5; have hbx2 := hbx; obtain ⟨_, xc0, xc1, _, _⟩ := hbx2; (try replace hxb := hxb.below hb5); replace hls := (hls.below hb5).more hb5.size; replace hbw := hbw.trans (hb5.mono hbw.size); clear hb5; clear hL2)
      | (go_at_call 13; have hgl := Nat.ne_of_lt hbx.lt; have hgw := hbw.size; have hxb := hbx.then_ (.slice none 0 0) (.int .i64 0) 33; replace hbx := hbx.onA (.cells #[.slice none 0 0, .int .i64 0] 33); replace hbw := hbw.alloc hbw.size (.cells #[.slice none 0 0, .int .i64 0] 33); replace hls := hls.onA (.cells #[.slice none 0 0, .int .i64 0] 33); replace hlq := hlq.onA (.cells #[.slice none 0 0, .int .i64 0] 33); (with_reducible refine (join_as _ _ _ _ _ _ s q r _ _ RL _ hls hlq (by rw [HSL2.out]) (by rw [HQL.out]) HRR.out HRL2.out (by rw [HSL.out]; omega) (by rw [HQL.out]; omega)).mono ?_); rintro e w8 ⟨B4, d4, rfl, ho1⟩; have hlr := ho1; have hbX := hbw; (try have hgx := hxb.lt); have hb5 := ho1.bel; clear ho1 xc0 xc1; replace hbx := hbx.below hb5; have hbx2 := hbx; obtain ⟨_, xc0, xc1, _, _⟩ := hbx2; (try replace hxb := hxb.below hb5); replace hbw := hbw.trans (hb5.mono hbw.size); clear hb5; clear hls hlq; (try obtain ⟨ylt, yc0, yc1, yf0, yf1⟩ := hxb)))
    all_goals
      clear xc0 xc1 hbx
      go_wp2_with fail
      go_meet
      first
        | exact ⟨_, B4, d4, rfl, hlr.past2 hbX hgw hgx hgw hgx _ _, (BoxAt.mk ylt yc0 yc1 yf0 yf1).set _ _⟩
        | exact ⟨_, B4, d4, rfl, (hlr.weak hbX).alloc _, BoxAt.new _ _ _ _⟩
  case rest =>
    obtain ⟨g, A, c, rfl, hown, hgx⟩ := hcut
    have hwc := hWW.trans (hown.bel.mono hWW.size)
    have hrr := hown.rd
    replace hcx := hcx.below hown.bel
    replace hrc := (hrc.below hown.bel).more hown.bel.size
    replace h3 := (h3.below hown.bel).more hown.bel.size
    have hRc := hR.bel hwc
    clear hown hRW hWW h1 h2
    have hG : Hid (DGets (restL (pack r) (m1 : Int)) v L 0) := Lib.hid (by
      have := back_got hv p q r m1 (by rw [HRR.out, HS.out, HCD.out]) HPL.out
      rwa [HCD.out, HL.out] at this)
    obtain ⟨_, gc0, gc1, _, _⟩ := hgx
    go_wp2_with fail
    refine (back_get _ _ _ _ (pack r) m1 v L _ hrr (pack_lt r) (by rw [pack_length, HRL.out]; omega) (by omega) hRc hG.out).mono ?_
    rintro e w3 ⟨rfl, hb4⟩
    clear gc0 gc1 hrr hG
    have hcx2 := hcx.below hb4
    replace hrc := (hrc.below hb4).more hb4.size
    replace h3 := (h3.below hb4).more hb4.size
    replace hwc := hwc.trans (hb4.mono hwc.size)
    replace hRc := hRc.bel hb4
    clear hb4 hcx
    obtain ⟨xlt, xc0, xc1, xf0, xf1⟩ := hcx2
    obtain ⟨k, hk, hkL⟩ := back_pick a L hL.1
    have HK := Lib.hid hk
    clear hk
    have hd0 : ((L : Int) == 0) = false := beq_eq_false_iff_ne.mpr (by omega)
    go_wp2_with fail
    refine (pick_any a L w3 (by omega) (by omega)).mono ?_
    rw [HK.out]
    rintro e w' ⟨rfl, rfl⟩
    clear hd0
    obtain ⟨z, t, hz8, hzt, hz⟩ := back_pad k
    obtain ⟨zl, HZL⟩ : ∃ zl, Hid (zl = [] ++ low 0 z) := ⟨_, Lib.hid rfl⟩
    have HZLL : Hid (zl.length = z) := Lib.hid (by rw [HZL.out, List.nil_append, low_length])
    obtain ⟨sh, HSH⟩ : ∃ sh, Hid (sh = zl ++ cd) := ⟨_, Lib.hid rfl⟩
    obtain ⟨NL, HNL⟩ : ∃ NL, Hid (sh.length = NL) := ⟨_, Lib.hid rfl⟩
    have hNL : NL = z + L := by rw [← HNL.out, HSH.out, List.length_append, HZLL.out, HL.out]
    have HNL2 := Lib.hid hNL
    clear hNL
    have hcx := BoxAt.mk xlt xc0 xc1 xf0 xf1
    go_upto_region 12 with fail
    go_cut [18] (fun x wx => ∃ g A c, x = .pointer (some ⟨g, 0, none⟩) ∧ Own w3 wx (.slice A (pack sh).length c) (pack sh) ∧ BoxAt wx g (.slice A (pack sh).length c) (.int .i64 (NL : Int)))
    case first =>
      have hLc : Rd w3.drew w3.drew.heap.size Ac (pack cd).length cc (pack cd) := hrc.drew
      have hbw : Below w3.heap.size w3 w3.drew := (Below.refl _ _).drew
      have hbx := hcx.drew
      have hn0 := World.new_ne w3 ⟨gc, 0, none⟩ xc0
      have hn1 := World.new_ne w3 ⟨gc, 1, none⟩ xc1
      have HPut := fun (X : World) x hx => put_as none 0 0 [] zl 0 z x (z : Int) 0 z X (Rd.nil_ (w := X) (B := X.heap.size)) rfl hx rfl HZL.out HZLL.out (by simp) (by omega)
      clear h3 hR hRc hwc
      go_region_held3 (fun w' => w'.cell? ⟨gc, 0, none⟩ = some (.slice Ac (pack cd).length cc) ∧ w'.cell? ⟨gc, 1, none⟩ = some (.int .i64 (L : Int))) (first | exact ⟨xc0, xc1⟩ | exact ⟨hcx.c0, hcx.c1⟩ | exact ⟨(hbx.onA _).c0, (hbx.onA _).c1⟩ | exact ⟨(hcx.onA _).c0, (hcx.onA _).c1⟩ | exact ⟨(hbx.other hgl _ _).c0, (hbx.other hgl _ _).c1⟩ | go_keep) (first
        | (go_at_call 16; (with_reducible refine (HPut _ 0 rfl).mono ?_); rintro e w5 ⟨B1, d1, rfl, ho1⟩; have hlp := ho1.rd; have hb5 := ho1.bel; clear ho1 xc0 xc1; replace hbx := hbx.below hb5; have hbx2 := hbx; obtain ⟨_, xc0, xc1, _, _⟩ := hbx2; (try replace hxb := hxb.below hb5); replace hLc := (hLc.below hb5).more hb5.size; replace hbw := hbw.trans (hb5.mono hbw.size); clear hb5)
        | (go_at_call 13; (with_reducible refine (join_as _ _ _ _ _ _ zl cd sh _ _ NL _ hlp hLc (by rw [HZLL.out]) (by rw [HL.out]) HSH.out HNL.out (by rw [HZLL.out]; omega) (by rw [HL.out]; omega)).mono ?_); rintro e w6 ⟨B3, d3, rfl, ho1⟩; have hlr := ho1; have hbX := hbw; (try have hgx := hxb.lt); have hb5 := ho1.bel; clear ho1 xc0 xc1; replace hbx := hbx.below hb5; have hbx2 := hbx; obtain ⟨_, xc0, xc1, _, _⟩ := hbx2; (try replace hxb := hxb.below hb5); replace hbw := hbw.trans (hb5.mono hbw.size); clear hb5; clear hlp hLc; (try obtain ⟨ylt, yc0, yc1, yf0, yf1⟩ := hxb))
        | (go_at_call 16; have hgl := Nat.ne_of_lt hcx.lt; have hgw := Nat.le_refl w3.heap.size; have hxb := (hcx.then_ (.slice none 0 0) (.int .i64 0) 33).drew; replace hbx := (hcx.onA (.cells #[.slice none 0 0, .int .i64 0] 33)).drew; replace hbw := ((Below.refl w3.heap.size w3).alloc (Nat.le_refl _) (.cells #[.slice none 0 0, .int .i64 0] 33)).drew; replace hLc : Rd (w3.alloc (.cells #[.slice none 0 0, .int .i64 0] 33)).drew (w3.alloc (.cells #[.slice none 0 0, .int .i64 0] 33)).drew.heap.size Ac (pack cd).length cc (pack cd) := (hrc.onA (.cells #[.slice none 0 0, .int .i64 0] 33)).drew; (with_reducible refine (HPut _ 0 rfl).mono ?_); rintro e w5 ⟨B1, d1, rfl, ho1⟩; have hlp := ho1.rd; have hb5 := ho1.bel; clear ho1 xc0 xc1; replace hbx := hbx.below hb5; have hbx2 := hbx; obtain ⟨_, xc0, xc1, _, _⟩ := hbx2; (try replace hxb := hxb.below hb5); replace hLc := (hLc.below hb5).more hb5.size; replace hbw := hbw.trans (hb5.mono hbw.size); clear hb5)
        | (go_at_call 13; have hgl := Nat.ne_of_lt hbx.lt; have hgw := hbw.size; have hxb := hbx.then_ (.slice none 0 0) (.int .i64 0) 33; replace hbx := hbx.onA (.cells #[.slice none 0 0, .int .i64 0] 33); replace hbw := hbw.alloc hbw.size (.cells #[.slice none 0 0, .int .i64 0] 33); replace hLc := hLc.onA (.cells #[.slice none 0 0, .int .i64 0] 33); replace hlp := hlp.onA (.cells #[.slice none 0 0, .int .i64 0] 33); (with_reducible refine (join_as _ _ _ _ _ _ zl cd sh _ _ NL _ hlp hLc (by rw [HZLL.out]) (by rw [HL.out]) HSH.out HNL.out (by rw [HZLL.out]; omega) (by rw [HL.out]; omega)).mono ?_); rintro e w6 ⟨B3, d3, rfl, ho1⟩; have hlr := ho1; have hbX := hbw; (try have hgx := hxb.lt); have hb5 := ho1.bel; clear ho1 xc0 xc1; replace hbx := hbx.below hb5; have hbx2 := hbx; obtain ⟨_, xc0, xc1, _, _⟩ := hbx2; (try replace hxb := hxb.below hb5); replace hbw := hbw.trans (hb5.mono hbw.size); clear hb5; clear hlp hLc; (try obtain ⟨ylt, yc0, yc1, yf0, yf1⟩ := hxb)))
      all_goals
        clear xc0 xc1 hbx HPut
        go_wp2_with fail
        go_meet
        first
          | exact ⟨_, B3, d3, rfl, hlr.past2 hbX hgw hgx hgw hgx _ _, (BoxAt.mk ylt yc0 yc1 yf0 yf1).set _ _⟩
          | exact ⟨_, B3, d3, rfl, (hlr.weak hbX).alloc _, BoxAt.new _ _ _ _⟩
    case rest =>
      obtain ⟨g2, A2', c2', rfl, hown, hgx⟩ := hcut
      have hG : Hid (DGets (restL ((pack sh).take t) (z : Int)) 0 0 2) := Lib.hid (back_short z k t sh (by rw [HSH.out, HZL.out, HCD.out]; simp) (by rw [HCD.out, HL.out]; exact hkL) hzt)
      have HPK : Hid ((pack sh).length = (NL + 7) / 8) := Lib.hid (by rw [pack_length, HNL.out])
      obtain ⟨PL, HPLn⟩ : ∃ PL, Hid ((pack sh).length = PL) := ⟨_, Lib.hid rfl⟩
      have htl : t ≤ PL := by rw [← HPLn.out, HPK.out, HNL2.out]; omega
      have hrs := hown.rd
      have hb4 := hown.bel
      have HPT : Hid (∀ x ∈ (pack sh).take t, x < 256) := Lib.hid fun x hx => pack_lt sh x (List.mem_of_mem_take hx)
      rw [HPLn.out] at hrs hgx
      have hrt := hrs.cutHead htl
      generalize (pack sh).take t = bt at *
      have hPL : PL ≤ 20 := by rw [← HPLn.out, HPK.out, HNL2.out]; omega
      replace h3 := (h3.below hb4).more hb4.size
      replace hwc := hwc.trans (hb4.mono hwc.size)
      replace hRc := hRc.bel hb4
      have hcp := hrs.cap
      clear hown hb4 hrs hrc xlt xc0 xc1 xf0 xf1 hcx
      obtain ⟨_, gc0, gc1, _, _⟩ := hgx
      have hz2 : (64 - (k : Int)) % 8 = (z : Int) := by omega
      have ht2 : ((z : Int) + (k : Int)) / 8 = (t : Int) := by omega
      have hmin : (if t < PL then (t : Int) else (PL : Int)) = (t : Int) := by split <;> omega
      go_wp2_with fail
      refine (back_none _ _ _ _ bt z _ hrt HPT.out (by omega) (by omega) hRc hG.out).mono ?_
      rintro e w4 ⟨rfl, hb4⟩
      clear gc0 gc1 hrt hG hz hz2 ht2 hmin
      replace h3 := (h3.below hb4).more hb4.size
      replace hwc := hwc.trans (hb4.mono hwc.size)
      replace hRc := hRc.bel hb4
      clear hb4
      go_wp2_with fail
      refine (code_some 2 w4 (by omega) (by omega)).mono ?_
      rintro e w' ⟨rfl, rfl⟩
      go_wp2_with fail
      refine (dget_all A3 m3 c3 _ b 0 w4 h3 hb3 (by omega) (by omega) hRc).mono ?_
      rintro e w5 ⟨y, n, j, hu, rfl, hb4⟩
      rw [restL_zero] at hu
      have hin := gets_in hu
      have HU := Lib.hid hu
      clear hu
      replace h3 := (h3.below hb4).more hb4.size
      replace hwc := hwc.trans (hb4.mono hwc.size)
      replace hRc := hRc.bel hb4
      clear hb4
      by_cases hj : j = 0
      · subst hj
        obtain ⟨hcy, hny⟩ := dgets_back HU.out
        have HCY := Lib.hid hcy
        rw [flat_length, h3.len] at hny
        clear hcy
        have he : errV 0 = .nilIface := rfl
        rw [he]
        clear he
        have hy := hin.1
        clear hin
        go_wp2_with fail
        refine (dcode_any y w5 hy hRc).mono ?_
        rintro e w6 ⟨A6, c6, rfl, hown6⟩
        replace h3 := (h3.below hown6.bel).more hown6.bel.size
        replace hwc := hwc.trans (hown6.bel.mono hwc.size)
        go_wp2_with fail
        refine (flat_any A3 m3 c3 b w6 h3 hb3 (by omega)).mono ?_
        rintro e w7 ⟨A7, c7, rfl, hown7⟩
        have hr6 := (hown6.keep hown7.bel).rd
        have hFL : Hid ((enc (flat b)).length = 8 * m3) := Lib.hid (by rw [enc_length, flat_length, h3.len])
        have hr7 := hown7.rd
        rw [hFL.out] at hr7 ⊢
        have hc7 := hr7.cap
        have hr8 := hr7.cutHead (n := n) hny
        rw [enc_take, ← HCY.out] at hr8
        replace hwc := hwc.trans (hown7.bel.mono hwc.size)
        clear hown6 hown7 hr7
        have hnc : n ≤ c7 := by omega
        go_wp2_with fail
        refine (is_yes _ _ _ _ _ _ (codeD y) w7 hr6 hr8 (by omega)).mono ?_
        rintro e w8 ⟨rfl, hb8⟩
        go_wp2
        go_ret
        exact ⟨rfl, hwc.trans (hb8.mono hwc.size)⟩
      · have he : errV j = .iface 47 (.int .i64 (j : Int)) := if_neg hj
        rw [he]
        clear he
        go_wp2
        go_ret
        exact ⟨rfl, hwc⟩

theorem dback_all (A1 A2 A3 : Option Addr) (m1 c1 m2 c2 m3 c3 : Nat) (l rest b : List Nat) (v a : Int) (w : World) (h1 : Rd w w.heap.size A1 m1 c1 l) (h2 : Rd w w.heap.size A2 m2 c2 rest) (h3 : Rd w w.heap.size A3 m3 c3 b)
    (hb1 : ∀ x ∈ l, x < 256) (hb2 : ∀ x ∈ rest, x < 256) (hb3 : ∀ x ∈ b, x < 256) (hl : m1 ≤ 9223372036854775807 ∧ m2 ≤ 9223372036854775807 ∧ m3 ≤ 9223372036854775807)
    (hv : -9223372036854775808 ≤ v ∧ v ≤ 9223372036854775807) (hR : RoomW w) :
    Calls Tryd.prog 4 #[.slice A1 m1 c1, .int .i64 v, .slice A2 m2 c2, .slice A3 m3 c3, .int .i64 a] w (RetTrue w) := by
  by_cases hs : m1 ≤ 300 ∧ m2 ≤ 300 ∧ m3 ≤ 300
  · exact dback_in A1 A2 A3 m1 c1 m2 c2 m3 c3 l rest b v a w h1 h2 h3 hb1 hb2 hb3 hs.1 hs.2.1 hs.2.2 hv hR
  · exact dback_big A1 A2 A3 m1 c1 m2 c2 m3 c3 v a w hl (by omega) hR

end Go.Proofs.YtbhinhonidbilaaDoor
