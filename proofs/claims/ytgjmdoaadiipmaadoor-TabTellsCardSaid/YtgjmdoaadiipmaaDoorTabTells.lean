/-
  TabTells, walked: it returns true, whatever the arguments.
-/
import Derived.Test.YtgjmdoaadiipmaaDoorTabUp
import Derived.Test.YtgjmdoaadiipmaaDoorRefGetDod
import Derived.Test.YtgjmdoaadiipmaaDoorPick
import Derived.Test.YtgjmdoaadiipmaaDoorFlat
import Derived.Test.YtgjmdoaadiipmaaDoorLaw
import Derived.Test.YtgjmdoaadiipmaaDoorLow
import Derived.Deep.CutBlock
import Derived.BigRegion
import Derived.Deep.DeepCutAuto
import Derived.Deep.RegionHeld3
namespace Go.Proofs.YtgjmdoaadiipmaaDoor
open Go.RowKit

theorem Rd.tail6 {w : World} {B m c a : Nat} {A : Option Addr} {bs : List Nat} (h : Rd w B A m c bs) (hk : a ≤ m) : Rd w B (A.map (fun x => x.add a)) (m - a) (c - a) (bs.drop a) := by
  have := h.cutTo (a := a) (n := m - a) (by omega)
  rwa [List.take_of_length_le (by rw [List.length_drop, h.len]; omega)] at this
theorem Rd.tailEnd6 {w : World} {B m a : Nat} {A : Option Addr} {bs : List Nat} (h : Rd w B A m a bs) (hk : a ≤ m) : Rd w B A (m - a) 0 (bs.drop a) := by
  have := h.cutEnd (n := m - a) (by omega)
  rwa [List.take_of_length_le (by rw [List.length_drop, h.len]; omega)] at this
theorem drewN_below (B : Nat) (w : World) (n : Nat) : Below B w (w.drewN n) := ⟨rfl, rfl, rfl, Nat.le_refl _, fun _ _ => rfl⟩
theorem enc_drop6 (p : List Bool) (a : Nat) : (enc p).drop a = enc (p.drop a) := by simp [enc]

set_option maxHeartbeats 400000 in
theorem ttells_big (A : Option Addr) (m c : Nat) (i s : Int) (w : World) (_hl : m ≤ 9223372036854775807) (h : 500 < m) (hR : RoomW w) (hT : RowsW w) :
    Calls Tryd.prog 3 #[.int .i64 i, .slice A m c, .int .i64 s] w (RetTrue w) := by
  go_enter Tryd.func3, Tryd.ntmps3
  go_wp2_with (go_at_call 5; refine (up6_any _ hR hT).mono ?_; rintro e w1 ⟨rfl, hb1⟩)
  go_ret
  exact ⟨rfl, hb1⟩

set_option maxRecDepth 20000 in
set_option maxHeartbeats 400000 in
theorem ttells_in (A : Option Addr) (m c : Nat) (bs : List Nat) (i s : Int) (w : World) (h : Rd w w.heap.size A m c bs) (hb : ∀ x ∈ bs, x < 256) (hm : m ≤ 500)
    (hR : RoomW w) (hT : RowsW w) :
    Calls Tryd.prog 3 #[.int .i64 i, .slice A m c, .int .i64 s] w (RetTrue w) := by
  have HB := Lib.hid hb
  clear hb
  go_enter Tryd.func3, Tryd.ntmps3
  go_wp2_with fail
  refine (up6_any w hR hT).mono ?_
  rintro e w1 ⟨rfl, hb1⟩
  have hR1 := hR.bel hb1
  have hT1 := hT.bel hb1
  have h1 := (h.below hb1).more hb1.size
  clear h hR hT
  go_wp2_with fail
  refine (table_any w1 hT1).mono ?_
  rintro e w2 ⟨t, rfl, hat⟩
  have hR2 := hR1.bel hat.bel
  have hT2 := hT1.bel hat.bel
  have h2 := (h1.below hat.bel).more hat.bel.size
  have hb2 := hb1.trans (hat.bel.mono hb1.size)
  have ht1 := hat.lt
  have hth := Lib.hid hat.head
  have htb := Lib.hid hat.body
  clear hat hR1 hT1 h1 hb1
  clear w1
  go_wp2_with fail
  refine (pick_any i 256 w2 (by omega) (by omega)).mono ?_
  rintro e w3 ⟨rfl, rfl⟩
  obtain ⟨k, hk⟩ : ∃ k : Nat, i % 256 = (k : Int) := ⟨(i % 256).toNat, by omega⟩
  have hk8 : k < 256 := by omega
  rw [hk]
  clear hk
  go_wp2_with fail
  refine (low_any k 8 w2 (by omega) (by omega)).mono ?_
  rintro e w3 ⟨A3, c3, rfl, hown⟩
  have hlen : (enc (low k 8)).length = 8 := by rw [enc_length, low_length]
  rw [hlen] at hown ⊢
  have hrl := hown.rd
  have ht3 : t < w3.heap.size := by have := hown.bel.size; omega
  have hc0 : w3.cell? ⟨t, k * 2, none⟩ = some (.int .i64 ((headN (ones8N k) : Nat) : Int)) := by
    have := hth.out k hk8
    rw [if_pos hk8] at this
    exact (hown.bel.cell (p := ⟨t, k * 2, none⟩) ht1).trans this
  have hc1 : w3.cell? ⟨t, k * 2 + 1, none⟩ = some (.int .i64 ((roomN (ones8N k) : Nat) : Int)) := by
    have := htb.out k hk8
    rw [if_pos hk8] at this
    exact (hown.bel.cell (p := ⟨t, k * 2 + 1, none⟩) ht1).trans this
  have hR3 := hR2.bel hown.bel
  have hT3 := hT2.bel hown.bel
  have h3 := (h2.below hown.bel).more hown.bel.size
  have hb3 := hb2.trans (hown.bel.mono hb2.size)
  have HO := Lib.hid (ones8N_ones hk8)
  have ho4 := (ones8N_ones hk8).le4
  clear hth htb hR2 hT2 h2 hb2 ht1 hown hlen
  clear w2
  generalize ones8N k = o at *
  obtain ⟨ad, rfl, _, hcell⟩ := hrl.cell (by omega)
  have HC : Hid (∀ j, j < 8 → w3.cell? (ad.add j) = some (.int .u8 (((low k 8).getD j false).toNat : Nat))) := Lib.hid (fun j hj => by rw [hcell j hj, enc_getD])
  clear hrl hcell
  go_upto_block 0 with fail
  go_cut [11] (fun x wx => x = .int .i64 (o : Int) ∧ w3 = wx)
  case first =>
    go_wp2_with fail
    go_loop [11] (fun x => ∃ j : Nat, j ≤ o ∧ x = .int .i64 (j : Int)) (fun x => o - (intOf x).toNat)
    case atStart => exact ⟨0, by omega, rfl⟩
    case round =>
      obtain ⟨j, hj, rfl⟩ := hrel
      by_cases hlt : j < o
      · have hcj : w3.cell? (ad.add j) = some (.int .u8 1) := by
          rw [HC.out j (by omega), HO.out.all j hlt]; rfl
        go_wp2
        go_round
        case rel => exact ⟨j + 1, by omega, by go_num⟩
        case measure => simp [intOf]; omega
      · obtain rfl : j = o := by omega
        by_cases h4 : j < 4
        · have hcj : w3.cell? (ad.add j) = some (.int .u8 0) := by
            rw [HC.out j (by omega), HO.out.stop h4]; rfl
          go_wp2_with fail
          go_meet
          exact ⟨rfl, rfl⟩
        · go_wp2_with fail
          go_meet
          exact ⟨rfl, rfl⟩
  case rest =>
    obtain ⟨rfl, rfl⟩ := hcut
    clear HC HO
    go_upto_region 12 with fail
    go_cut [64] (fun x wx => x = .bool false ∧ Below w3.heap.size w3 wx)
    case first =>
      have hbA : Below w3.heap.size w3 (w3.alloc (.cells #[.int .i64 0, .int .i64 7, .int .i64 9, .int .i64 12, .int .i64 64] 3)) := (Below.refl _ _).alloc (Nat.le_refl _) _
      have hc2 := (hbA.cell (p := ⟨t, k * 2 + 1, none⟩) ht3).trans hc1
      have hk0 : (0 : Int) ≤ (k : Int) := by omega
      have hk1 : (k : Int) < 256 := by omega
      clear h3 hR3 hT3 hb3 HB
      rcases (by omega : o = 0 ∨ o = 1 ∨ o = 2 ∨ o = 3 ∨ o = 4) with rfl | rfl | rfl | rfl | rfl
      · replace hc0 : w3.cell? ⟨t, k * 2, none⟩ = some (.int .i64 1) := hc0
        replace hc1 : w3.cell? ⟨t, k * 2 + 1, none⟩ = some (.int .i64 0) := hc1
        replace hc2 : (w3.alloc (.cells #[.int .i64 0, .int .i64 7, .int .i64 9, .int .i64 12, .int .i64 64] 3)).cell? ⟨t, k * 2 + 1, none⟩ = some (.int .i64 0) := hc2
        go_region
        go_wp2_with fail
        go_meet
        exact ⟨rfl, hbA.drew⟩
      · replace hc0 : w3.cell? ⟨t, k * 2, none⟩ = some (.int .i64 2) := hc0
        replace hc1 : w3.cell? ⟨t, k * 2 + 1, none⟩ = some (.int .i64 7) := hc1
        replace hc2 : (w3.alloc (.cells #[.int .i64 0, .int .i64 7, .int .i64 9, .int .i64 12, .int .i64 64] 3)).cell? ⟨t, k * 2 + 1, none⟩ = some (.int .i64 7) := hc2
        go_region
        go_wp2_with fail
        go_meet
        exact ⟨rfl, hbA.drew⟩
      · replace hc0 : w3.cell? ⟨t, k * 2, none⟩ = some (.int .i64 3) := hc0
        replace hc1 : w3.cell? ⟨t, k * 2 + 1, none⟩ = some (.int .i64 9) := hc1
        replace hc2 : (w3.alloc (.cells #[.int .i64 0, .int .i64 7, .int .i64 9, .int .i64 12, .int .i64 64] 3)).cell? ⟨t, k * 2 + 1, none⟩ = some (.int .i64 9) := hc2
        go_region
        go_wp2_with fail
        go_meet
        exact ⟨rfl, hbA.drew⟩
      · replace hc0 : w3.cell? ⟨t, k * 2, none⟩ = some (.int .i64 4) := hc0
        replace hc1 : w3.cell? ⟨t, k * 2 + 1, none⟩ = some (.int .i64 12) := hc1
        replace hc2 : (w3.alloc (.cells #[.int .i64 0, .int .i64 7, .int .i64 9, .int .i64 12, .int .i64 64] 3)).cell? ⟨t, k * 2 + 1, none⟩ = some (.int .i64 12) := hc2
        go_region
        go_wp2_with fail
        go_meet
        exact ⟨rfl, hbA.drew⟩
      · replace hc0 : w3.cell? ⟨t, k * 2, none⟩ = some (.int .i64 4) := hc0
        replace hc1 : w3.cell? ⟨t, k * 2 + 1, none⟩ = some (.int .i64 64) := hc1
        replace hc2 : (w3.alloc (.cells #[.int .i64 0, .int .i64 7, .int .i64 9, .int .i64 12, .int .i64 64] 3)).cell? ⟨t, k * 2 + 1, none⟩ = some (.int .i64 64) := hc2
        go_region
        go_wp2_with fail
        go_meet
        exact ⟨rfl, hbA.drew⟩
    case rest =>
      obtain ⟨rfl, hbc⟩ := hcut
      have hRc := hR3.bel hbc
      have hTc := hT3.bel hbc
      have hc := (h3.below hbc).more hbc.size
      have hbw := hb3.trans (hbc.mono hb3.size)
      clear hR3 hT3 h3 hb3 hbc hc0 hc1 ho4 ht3 hk8
      go_wp2_with fail
      refine (pick_any s _ wc (by omega) (by omega)).mono ?_
      rintro e w3 ⟨rfl, rfl⟩
      obtain ⟨n, hn, hn8⟩ : ∃ n : Nat, s % (8 * (m : Int) + 1) = (n : Int) ∧ n ≤ 8 * m := ⟨(s % (8 * (m : Int) + 1)).toNat, by
        have h1 := Int.emod_nonneg s (b := 8 * (m : Int) + 1) (by omega)
        omega, by
        have h2 := Int.emod_lt_of_pos s (b := 8 * (m : Int) + 1) (by omega)
        omega⟩
      rw [hn]
      clear hn
      go_wp2_with fail
      refine (new_any A m c bs wc hc HB.out (by omega)).mono ?_
      rintro e w4 ⟨rfl, hr4, hb4, hs4⟩
      clear hs4
      have hR4 := hRc.bel hb4
      have hT4 := hTc.bel hb4
      have hg1 := hTc.size
      have hbw4 := hbw.trans (hb4.mono hbw.size)
      have hgw := hbw.size
      clear hRc hTc hc hb4 hbw
      generalize wc.heap.size = g at *
      clear wc
      go_wp2_with fail
      refine (skip_yes g A m c bs 0 n w4 hr4 (by omega)).mono ?_
      rw [Nat.zero_add]
      rintro e w5 ⟨rfl, hW⟩
      have hr5 := hW.rdr
      have hR5 := hR4.grown hW.only hg1
      have hT5 := hT4.grown hW.only hg1
      have hb5 := hbw4.trans ((below_went hW.only hr4.lt).mono hgw)
      clear hW hr4 hR4 hT4 hbw4
      clear w4
      go_wp2_with fail
      refine (tget_any g A m c bs n w5 hr5 hR5 hT5 hg1).mono ?_
      rintro e w6 ⟨v, q, kk, a', HU, rfl, hr6, ha', hg6⟩
      have hU := Lib.hid HU
      have hb6 := hb5.trans ((below_went hg6 hr5.lt).mono hgw)
      clear HU hr5 hR5 hT5 hb5 hg6
      clear w5
      obtain ⟨ev, HE⟩ : ∃ ev, Hid (errV kk = ev) := ⟨_, Lib.hid rfl⟩
      rw [HE.out]
      have hrd := hr6.rd.more (Nat.le_of_lt hr6.lt)
      obtain ⟨r, HR⟩ : ∃ r, Hid (enc (flat bs) = r) := ⟨_, Lib.hid rfl⟩
      have hbl := hr6.len
      have HRL : Hid (r.length = 8 * m) := Lib.hid (by rw [← HR.out, enc_length, flat_length, hbl])
      have HP : Hid (r.drop n = enc (restL bs (n : Int))) := Lib.hid (by rw [restL_yes (by omega), ← enc_drop6, HR.out])
      have HPL : Hid ((restL bs (n : Int)).length = 8 * m - n) := Lib.hid (by rw [restL_length (by omega), hbl])
      have hkk := (gets_in hU.out).2.2.1
      generalize restL bs (n : Int) = p at *
      go_wp2_with fail
      refine (flat_any _ _ _ bs _ hrd HB.out (by omega)).mono ?_
      rw [HR.out]
      rintro e w7 ⟨A1, c1, rfl, hown⟩
      have hr := hown.rd
      have hb7 := hb6.trans (hown.bel.mono hb6.size)
      have hr7 := hr6.below hown.bel
      have hcap := hr.cap
      rw [HRL.out] at hr hcap ⊢
      clear hown hr6 hrd hb6 hbl
      clear w6
      go_wp2_with fail
      · have he : c1 = n := by assumption
        have hr3 : Rd w7 w7.heap.size A1 (8 * m - n) 0 (enc p) := by
          rw [he] at hr
          have := hr.tailEnd6 hn8
          rwa [HP.out] at this
        clear he hcap hr
        refine (rgetdod_any _ _ _ p w7 hr3 (by omega)).mono ?_
        rintro e w8 ⟨v', q', kk', HU', rfl, hb8⟩
        obtain ⟨rfl, rfl, rfl⟩ := hU.out.same HU'
        have hr8 := hr7.below hb8
        have hb9 := hb7.trans (hb8.mono hb7.size)
        have hql := (gets_in hU.out).2.2.2
        have hat := hr8.at_
        have HCO : ∀ W, Calls Tryd.prog 14 #[ev] W fun e w' => e = .returned (.int .i64 (kk : Int)) ∧ W = w' := by
          rw [← HE.out]
          exact fun W => code_any kk W (by omega)
        have HCO := Lib.hid HCO
        rw [HPL.out] at hql
        clear hr3 hr7 hb7 hb8 HU' hU HP HPL HRL HR HB
        by_cases hk0 : kk = 0
        · have haq := ha' hk0
          have hql2 := hql hk0
          obtain ⟨L, HL⟩ : ∃ L, Hid (8 * m - a' = L) := ⟨_, Lib.hid rfl⟩
          have hLE : ((L : Int) == 8 * (m : Int) - (n : Int) - (q : Int)) = true := by
            rw [← HL.out]
            simp; omega
          have hk1 : ((kk : Int) != 0) = false := by simp [hk0]
          clear ha' hql hk0 haq
          go_wp2_with (first
            | (go_at_call 14; refine (HCO.out _).mono ?_; rintro e w9 ⟨rfl, rfl⟩)
            | (go_at_call 15; refine (left_any g A m c bs a' _ hr8).mono ?_; rw [HL.out]; rintro e w9 ⟨rfl, m9, rfl⟩))
          go_ret
          exact ⟨rfl, hb9.trans (drewN_below _ _ _)⟩
        · have hk1 : ((kk : Int) != 0) = true := by simp [hk0]
          clear ha' hql hk0
          go_wp2_with (go_at_call 14; refine (HCO.out _).mono ?_; rintro e w9 ⟨rfl, rfl⟩)
          go_ret
          exact ⟨rfl, hb9⟩
      · have hr3 : Rd w7 w7.heap.size (Option.map (fun x => x.add n) A1) (8 * m - n) (c1 - n) (enc p) := by
          have := hr.tail6 hn8
          rwa [HP.out] at this
        clear hcap hr
        refine (rgetdod_any _ _ _ p w7 hr3 (by omega)).mono ?_
        rintro e w8 ⟨v', q', kk', HU', rfl, hb8⟩
        obtain ⟨rfl, rfl, rfl⟩ := hU.out.same HU'
        have hr8 := hr7.below hb8
        have hb9 := hb7.trans (hb8.mono hb7.size)
        have hql := (gets_in hU.out).2.2.2
        have hat := hr8.at_
        have HCO : ∀ W, Calls Tryd.prog 14 #[ev] W fun e w' => e = .returned (.int .i64 (kk : Int)) ∧ W = w' := by
          rw [← HE.out]
          exact fun W => code_any kk W (by omega)
        have HCO := Lib.hid HCO
        rw [HPL.out] at hql
        clear hr3 hr7 hb7 hb8 HU' hU HP HPL HRL HR HB
        by_cases hk0 : kk = 0
        · have haq := ha' hk0
          have hql2 := hql hk0
          obtain ⟨L, HL⟩ : ∃ L, Hid (8 * m - a' = L) := ⟨_, Lib.hid rfl⟩
          have hLE : ((L : Int) == 8 * (m : Int) - (n : Int) - (q : Int)) = true := by
            rw [← HL.out]
            simp; omega
          have hk1 : ((kk : Int) != 0) = false := by simp [hk0]
          clear ha' hql hk0 haq
          go_wp2_with (first
            | (go_at_call 14; refine (HCO.out _).mono ?_; rintro e w9 ⟨rfl, rfl⟩)
            | (go_at_call 15; refine (left_any g A m c bs a' _ hr8).mono ?_; rw [HL.out]; rintro e w9 ⟨rfl, m9, rfl⟩))
          go_ret
          exact ⟨rfl, hb9.trans (drewN_below _ _ _)⟩
        · have hk1 : ((kk : Int) != 0) = true := by simp [hk0]
          clear ha' hql hk0
          go_wp2_with (go_at_call 14; refine (HCO.out _).mono ?_; rintro e w9 ⟨rfl, rfl⟩)
          go_ret
          exact ⟨rfl, hb9⟩

theorem ttells_all (A : Option Addr) (m c : Nat) (bs : List Nat) (i s : Int) (w : World) (h : Rd w w.heap.size A m c bs) (hb : ∀ x ∈ bs, x < 256) (hm : m ≤ 9223372036854775807) (hR : RoomW w) (hT : RowsW w) :
    Calls Tryd.prog 3 #[.int .i64 i, .slice A m c, .int .i64 s] w (RetTrue w) := by
  by_cases hs : m ≤ 500
  · exact ttells_in A m c bs i s w h hb hs hR hT
  · exact ttells_big A m c i s w hm (by omega) hR hT

end Go.Proofs.YtgjmdoaadiipmaaDoor
