/-
  TopCursor, walked: it returns true, whatever the arguments.
-/
import Derived.Test.YtbocpgffddkfdaaGreatDoorTopA
import Derived.Test.YtbocpgffddkfdaaGreatDoorSeqA
import Derived.Test.YtbocpgffddkfdaaGreatDoorWhoR
import Derived.Test.YtbocpgffddkfdaaGreatDoorRefCurG
import Derived.Test.YtbocpgffddkfdaaGreatDoorWords
import Derived.Deep.CutBlock
import Derived.Deep.RegionWith
namespace Go.Proofs.YtbocpgffddkfdaaGreatDoor
open Go.RowKit

structure AtRef (w0 wr : World) (W : JW) (g1 g2 : Nat) (A2 : Option Addr) (N c2 : Nat) (a : Int) (d : Bool) : Prop where
  bel : Below w0.heap.size w0 wr
  sc : InS W w0.heap.size g1 (Duo g1 g2) wr a d
  ref : BoxL wr g2 [.slice A2 N c2, .int .i64 (W.er : Int), .int .i64 a, .bool d]
  q2 : RdQ wr g2 A2 N c2 W.xs
structure RefFix (w0 : World) (W : JW) (g1 g2 : Nat) (A2 : Option Addr) : Prop where
  l1 : w0.heap.size ≤ g1
  l2 : g1 < g2
  er : IsErr (errV W.er)
  ri : RiseQ W.xs
  few : W.xs.length ≤ 100000
  fit : ∀ x ∈ W.xs, FitQ x
  past : ∀ ad, A2 = some ad → ad.block ≠ g1
section
variable {w0 w w' : World} {W : JW} {g1 g2 N c2 : Nat} {A2 : Option Addr} {a a' : Int} {d d' : Bool}
theorem RefFix.xs (f : RefFix w0 W g1 g2 A2) : ItOk 25 20 31 14 w0.heap.size g1 W.xs (InS W w0.heap.size g1) :=
  it_scan W w0.heap.size g1 f.l1 f.er f.ri f.few f.fit
theorem AtRef.inP (f : RefFix w0 W g1 g2 A2) (h : AtRef w0 w W g1 g2 A2 N c2 a d) : ∀ k, Duo g1 g2 k → k < w.heap.size := by
  rintro k (rfl | rfl)
  · exact f.xs.lt h.sc
  · exact h.ref.lt
theorem AtRef.at_ (f : RefFix w0 W g1 g2 A2) (h : AtRef w0 w W g1 g2 A2 N c2 a d) : StandsAt W.xs.length a := f.xs.stands h.sc
theorem AtRef.go (f : RefFix w0 W g1 g2 A2) (h : AtRef w0 w W g1 g2 A2 N c2 a d) (hb : Below w.heap.size w w') : AtRef w0 w' W g1 g2 A2 N c2 a d :=
  ⟨h.bel.trans (hb.mono h.bel.size), f.xs.below h.sc hb, h.ref.below hb, h.q2.below (hb.mono (Nat.le_of_lt h.ref.lt))⟩
theorem AtRef.stepR (f : RefFix w0 W g1 g2 A2) (h : AtRef w0 w W g1 g2 A2 N c2 a d) (hb : Below g2 w w') (hg : w.grownBy w' (some g2)) (hx : BoxL w' g2 [.slice A2 N c2, .int .i64 (W.er : Int), .int .i64 a', .bool d']) :
    Below w0.heap.size w0 w' ∧ InS W w0.heap.size g1 (Duo g1 g2) w' a d ∧ RdQ w' g2 A2 N c2 W.xs ∧
    ∀ w2, w'.grownBy w2 (some g1) → InS W w0.heap.size g1 (Duo g1 g2) w2 a' d' → AtRef w0 w2 W g1 g2 A2 N c2 a' d' := by
  have f1 := f.l1
  have f2 := f.l2
  have hbel := below_far h.bel hg (by omega)
  have q := h.q2.below hb
  refine ⟨hbel, f.xs.far h.sc hg (.inr rfl) (by omega), q, fun w2 hg2 hi => ⟨below_far hbel hg2 f1, hi, hx.grown hg2 (fun e => by injection e with e; omega), q.farN hg2 (fun ad e e' => f.past ad e (by injection e' with e'; exact e'.symm))⟩⟩
end

set_option maxRecDepth 20000 in
set_option maxHeartbeats 1000000 in
theorem tcur_big (A1 A2 : Option Addr) (m1 c1 m2 c2 : Nat) (bs : List Nat) (w : World) (h1 : Rd w w.heap.size A1 m1 c1 bs) (hb : ∀ u ∈ bs, u < 256) (hl : m1 ≤ 140737488355328 ∧ m2 ≤ 9223372036854775807) (h : 1500 < m1 ∨ (m1 ≤ 1500 ∧ 100 < m2)) (hT : TabsW w) :
    Calls Tryz.prog 3 #[.slice A1 m1 c1, .slice A2 m2 c2] w (RetTrue w) := by
  have hu := up_top w hT
  unfold RetTrue at hu
  have hN := fun (X : World) (hX : Below w.heap.size w X) => sc_newG A1 m1 c1 w.heap.size bs X (h1.below hX) hX.size hb hl.1 (hT.bel hX).room (hT.bel hX).tz
  obtain ⟨r, hr⟩ : ∃ r, wholeF bs = r := ⟨_, rfl⟩
  rw [hr] at hN
  unfold RetItG at hN
  clear hr h1 hb
  rcases h with h | h
  all_goals
    go_enter Tryz.func3, Tryz.ntmps3
    go_wp2_with fail
    refine hu.mono ?_
    rintro e w1 ⟨rfl, hb1⟩
    have hN1 := hN w1 hb1
    clear hu hN
    go_wp2_with fail
    refine hN1.mono ?_
    rintro e w2 ⟨g1, A5, c5, rfl, _, _, _, hb2, _⟩
    clear hN1
    go_wp2
    go_ret
    exact ⟨rfl, hb1.trans (hb2.mono hb1.size)⟩
set_option maxRecDepth 20000 in
set_option maxHeartbeats 8000000 in
theorem tcur_in (A1 A2 : Option Addr) (m1 c1 m2 c2 : Nat) (bs : List Nat) (w : World) (h1 : Rd w w.heap.size A1 m1 c1 bs) (hb : ∀ u ∈ bs, u < 256) (h2 : RdP w w.heap.size A2 m2) (hm1 : m1 ≤ 1500) (hm2 : m2 ≤ 100) (hT : TabsW w) :
    Calls Tryz.prog 3 #[.slice A1 m1 c1, .slice A2 m2 c2] w (RetTrue w) := by
  have hu := up_top w hT
  unfold RetTrue at hu
  have hfew := wholeF_few hb
  have hye := wholeF_le (bs := bs)
  have hri := wholeF_rises hb
  rw [h1.len] at hfew
  go_enter Tryz.func3, Tryz.ntmps3
  go_wp2_with fail
  refine hu.mono ?_
  rintro e w1 ⟨rfl, hb1⟩
  clear hu
  have hT1 := hT.bel hb1
  have hN := sc_newG A1 m1 c1 w.heap.size bs w1 (h1.below hb1) hb1.size hb (by omega) hT1.room hT1.tz
  have hV := fun (X : World) (hX : Below w.heap.size w X) => rwhole_any A1 m1 c1 w.heap.size bs X (h1.below hX) hX.size hb (by omega)
  obtain ⟨ns, hns⟩ : ∃ ns, wholeN bs = ns := ⟨_, rfl⟩
  rw [hns] at hV
  rw [show wholeF bs = ((jwF bs).xs, (jwF bs).er) from rfl] at hN hV hfew hye hri
  generalize jwF bs = W at *
  unfold RetItG at hN
  unfold RetRWh at hV
  simp only at hN hV hfew hye hri
  obtain ⟨N, hNL⟩ : ∃ N, W.xs.length = N := ⟨_, rfl⟩
  rw [hNL] at hN hV hfew
  have HL := Lib.hid hNL
  have HRI : Hid (RiseQ W.xs) := Lib.hid hri
  clear hNL hri hns hT1
  have hn100 : N ≤ 100000 := by omega
  have he := isErr_v W.er
  go_wp2_with fail
  refine hN.mono ?_
  rintro e w2 ⟨g1, A3, c3, rfl, hg1, x1, q1, hb2, hpast1⟩
  replace hb2 := hb1.trans (hb2.mono hb1.size)
  have hgw : w.heap.size ≤ g1 := Nat.le_trans hb1.size hg1
  clear hN
  go_wp2_with fail
  refine (hV w2 hb2).mono ?_
  rintro e w3 ⟨A4, c4, A5, c5, rfl, ho3, _⟩
  have q2 := ho3.rd
  have hpast := ho3.past
  have hb3 := ho3.bel
  have HFT := Lib.hid ho3.fit
  clear hV ho3
  replace q1 := q1.below (hb3.mono (Nat.le_of_lt x1.lt))
  have hg12 : g1 < w2.heap.size := x1.lt
  replace x1 := x1.below hb3
  have hb4 := hb2.trans (hb3.mono hb2.size)
  have hs3 := hb3.size
  clear hb3
  go_wp2_with fail
  refine (rcur_new A4 N c4 (W.er : Int) w3).mono ?_
  rintro e w4 ⟨rfl, x2, hb5⟩
  have hf : RefFix w W g1 w3.heap.size A4 := ⟨hgw, by omega, he, HRI.out, by rw [HL.out]; omega, HFT.out, fun ad e => by have := hpast ad e; omega⟩
  have hS : AtRef w w4 W g1 w3.heap.size A4 N c4 (-1) false := by
    refine ⟨hb4.trans (hb5.mono hb4.size), ?_, x2, q2.below hb5⟩
    refine ⟨A3, c3, ?_, ?_, ?_, ⟨by omega, by omega⟩, .inl rfl, ?_⟩
    · rw [HL.out]
      exact x1.below hb5
    · rw [HL.out]
      exact (q1.below (hb5.mono (Nat.le_of_lt x1.lt))).more (by have := hb5.size; omega)
    · refine Off.ahead (B := g1) (fun hn => ?_) ?_
      · rw [HL.out] at hn
        obtain ⟨ad, e, hb, _⟩ := q1.cell hn
        exact ⟨ad, e, hb⟩
      · rintro k (rfl | rfl)
        · exact Nat.le_refl _
        · omega
    · rintro k (rfl | rfl)
      · exact hgw
      · omega
  clear x1 x2 q1 q2 hb5 hb4 hpast hb1 hb2 hg1 hg12 hs3 hgw
  generalize w3.heap.size = g2 at *
  go_wp2_with fail
  go_loopw [11] (fun x11 wr => ∃ (j : Nat) (a : Int) (d : Bool), j ≤ m2 ∧ x11 = .int .i64 j ∧ AtRef w wr W g1 g2 A4 N c4 a d) (fun x11 _ => m2 - (intOf x11).toNat)
  case atStart => exact ⟨0, -1, false, Nat.zero_le _, rfl, hS⟩
  case round =>
    clear hS
    obtain ⟨j, a, d, hj, rfl, hS⟩ := hrel
    by_cases hlt : j < m2
    · obtain ⟨ad, what, t, rfl, hdc, hd1, _⟩ := h2.at_ hlt
      have hki2 : (j : Int) < (m2 : Int) := by omega
      have hdb : ad.block < w.heap.size := by
        obtain ⟨ad', e, hb, _⟩ := h2 (by omega)
        injection e with e
        rw [e]
        exact hb
      have HD0 := Lib.hid (fun (X : World) (hX : Below w.heap.size w X) => (hX.cell (p := ad.add (j * 2)) (by rw [add_block]; exact hdb)).trans hdc)
      have HDT := Lib.hid (fun (X : World) (hX : Below w.heap.size w X) => (hX.cell (p := ⟨(ad.add (j * 2)).block, (ad.add (j * 2)).off + 1, none⟩) (by show (ad.add (j * 2)).block < _; rw [add_block]; exact hdb)).trans hd1)
      clear hdc hd1 hdb
      have hd0 := HD0.out wr hS.bel
      have hdT := HDT.out wr hS.bel
      have hst := hS.at_ hf
      rw [HL.out] at hst
      obtain ⟨qv, hq⟩ : ∃ qv, what % 3 = qv := ⟨_, rfl⟩
      have hpick := pick_any what 3 wr (by omega) (by omega)
      rw [hq] at hpick
      have HQV := Lib.hid hq
      clear hq
      go_upto_region 13 with fail
      go_upto_if 55 with (go_at_call 10; refine hpick.mono ?_; rintro e w7 ⟨rfl, rfl⟩)
      clear hpick
      go_cut [12] (fun x12 wx => ∃ (ok : Bool) (a' : Int), x12 = .bool ok ∧ StepQ W.xs what t a d ok a' ∧ Below w.heap.size w wx ∧ InS W w.heap.size g1 (Duo g1 g2) wx a d ∧ (∀ k, Duo g1 g2 k → k < wx.heap.size) ∧ ∀ w2, wx.grownBy w2 (some g1) → InS W w.heap.size g1 (Duo g1 g2) w2 a' (!ok) → AtRef w w2 W g1 g2 A4 N c4 a' (!ok))
      case first =>
        have HS := Lib.hid hS
        by_cases hq2 : qv = 2
        · subst hq2
          have hR := rcur_seekG g2 g2 A4 N c4 W.xs (W.er : Int) a t d wr hS.ref hst hn100 hS.q2
          clear hS hst hd0
          go_wp2_with fail
          refine hR.mono ?_
          rintro e w8 ⟨ok, a', rfl, hr, x8, hb8, hg8⟩
          obtain ⟨k1, k2, k3, k4⟩ := HS.out.stepR hf hb8 hg8 x8
          have HK := Lib.hid k4
          have HR : Hid (StepQ W.xs what t a d ok a') := Lib.hid (.inl ⟨HQV.out, hr⟩)
          clear hR hr hdT k3 k4
          have hlt8 : ∀ k, Duo g1 g2 k → k < w8.heap.size := fun k hk => Nat.lt_of_lt_of_le (HS.out.inP hf k hk) hg8.size
          go_wp2
          go_meet
          exact ⟨ok, a', rfl, HR.out, k1, k2, hlt8, HK.out⟩
        · have hq3 : (qv == 2) = false := by simp [hq2]
          have hR := rcur_nextG g2 A4 N c4 (W.er : Int) a d wr hS.ref hst hn100
          clear hS hst hd0 hdT
          go_wp2_with fail
          refine hR.mono ?_
          rintro e w8 ⟨ok, a', rfl, hr, x8, hb8, hg8⟩
          obtain ⟨k1, k2, k3, k4⟩ := HS.out.stepR hf hb8 hg8 x8
          have HK := Lib.hid k4
          have HR : Hid (StepQ W.xs what t a d ok a') := Lib.hid (.inr ⟨by rw [HQV.out]; exact hq2, by rw [HL.out]; exact hr⟩)
          clear hR hr k3 k4
          have hlt8 : ∀ k, Duo g1 g2 k → k < w8.heap.size := fun k hk => Nat.lt_of_lt_of_le (HS.out.inP hf k hk) hg8.size
          go_wp2
          go_meet
          exact ⟨ok, a', rfl, HR.out, k1, k2, hlt8, HK.out⟩
      case rest =>
      obtain ⟨ok, a', rfl, hstp, hbel, hin, hlt2, hnext⟩ := hcut
      clear hS hd0 hdT hst
      have hd0 := HD0.out wc hbel
      have hdT := HDT.out wc hbel
      have hQ := slowly_in hf.xs what t hin hlt2
      have HSTP := Lib.hid hstp
      have HNX := Lib.hid hnext
      clear hstp hnext hin hlt2 hbel
      go_wp2_with fail
      refine hQ.mono ?_
      rintro e w8 ⟨ok2, a2, rfl, hr2, hi8, hg8⟩
      obtain ⟨rfl, rfl⟩ := hr2.one HSTP.out
      have hS8 := HNX.out _ hg8 hi8
      clear hQ hr2 hi8 hg8 hd0 hdT HNX HSTP
      generalize (!ok2) = dd at *
      obtain ⟨lk, hlk⟩ : ∃ lk, lookQ W.xs a2 dd = lk := ⟨_, rfl⟩
      have hL1 := hf.xs.look hS8.sc
      rw [hlk] at hL1
      go_wp2_with fail
      refine hL1.mono ?_
      rintro e w9 ⟨rfl, hb9⟩
      have hS9 := hS8.go hf hb9
      have hst9 := hS9.at_ hf
      rw [HL.out] at hst9
      have hL2 := rcur_look g2 g2 A4 N c4 W.xs (W.er : Int) a2 dd w9 hS9.ref hst9 hS9.q2
      rw [hlk] at hL2
      clear hS8 hL1 hlk hb9 hst9
      go_wp2_with fail
      refine hL2.mono ?_
      rintro e w10 ⟨rfl, hb10⟩
      have hS10 := hS9.go hf hb10
      clear hS9 hL2 hb10
      obtain ⟨t1, v1⟩ := lk
      dsimp only
      go_upto_region 19 with fail
      go_cut [101] (fun x101 wx => x101 = .bool false ∧ AtRef w wx W g1 g2 A4 N c4 a2 dd)
      case first =>
        obtain ⟨As, cs, hxs, _⟩ := hS10.sc
        have hE := sc_err g1 As W.xs.length cs _ a2 dd w10 hxs he
        have hC := fun X => code_ev hye dd X
        have hM := fun X (hX : AtRef w X W g1 g2 A4 N c4 a2 dd) => rcur_err g2 A4 N c4 (W.er : Int) a2 dd X hX.ref
        obtain ⟨ev, hev⟩ : ∃ ev, (bif dd then errV W.er else .nilIface) = ev := ⟨_, rfl⟩
        obtain ⟨en, hen⟩ : ∃ en : Int, (bif dd then (W.er : Int) else 0) = en := ⟨_, rfl⟩
        rw [hev] at hE hC
        rw [hen] at hM hC
        clear hev hen hxs
        go_wp2_with fail
        refine hE.mono ?_
        rintro e w11 ⟨rfl, hb11⟩
        have hS11 := hS10.go hf hb11
        clear hE hS10 hb11
        go_wp2_with fail
        refine (hC _).mono ?_
        rintro e w12 ⟨rfl, rfl⟩
        go_wp2_with fail
        refine (hM _ hS11).mono ?_
        rintro e w12 ⟨rfl, hb12⟩
        have hS12 := hS11.go hf hb12
        clear hM hC hS11 hb12
        go_wp2
        go_meet
        exact ⟨by first | rfl | simp, hS12⟩
      case rest =>
      obtain ⟨rfl, hSc⟩ := hcut
      clear hS10
      go_wp2_with fail
      go_roundw
      case rel => exact ⟨j + 1, a2, dd, by omega, by go_num, hSc⟩
      case measure => simp [intOf]; omega
    · obtain rfl : j = m2 := by omega
      have hst := hS.at_ hf
      have HST := Lib.hid hst
      have hwl : IntKind.i64.wrap ((N : Int) + 1) = (N : Int) + 1 := IntWalk.i64_in _ (by omega)
      have hC := collect_any hf.xs (Duo g1 g2) a ((N : Int) + 1) d wr hS.sc (hS.inP hf) (by omega)
      obtain ⟨R, hR⟩ : ∃ R, (restQ W.xs a d).length = R := ⟨_, rfl⟩
      have hRN : R ≤ N := by
        rw [← hR, ← HL.out]
        unfold restQ
        split
        · simp
        · rw [List.length_drop]
          omega
      have hRd : (d = true → R = 0) ∧ (d = false → (R : Int) = (N : Int) - a - 1) := ⟨fun e => by rw [← hR, e]; rfl, fun e => by rw [← hR, e, restQ_len hst, HL.out]⟩
      have hcd : colD W.xs a d ((N : Int) + 1).toNat = true := by
        unfold colD
        rw [hR, if_pos (by omega)]
      have hll : ((restQ W.xs a d).take ((N : Int) + 1).toNat).length = R := by
        rw [List.length_take, hR]
        omega
      rw [hcd] at hC
      unfold RetCol at hC
      rw [hll] at hC
      generalize colA W.xs a d ((N : Int) + 1).toNat = a2 at *
      have HRD := Lib.hid hRd
      clear hcd hll hR hRd hst
      have hxr := hS.ref
      have HB := Lib.hid hS.bel
      go_wp2_with fail
      refine hC.mono ?_
      rintro e w5 ⟨A7, c7, rfl, _, hi5, hg5, _⟩
      have hx5 := hxr.grown hg5 (fun e => by have := hf.l2; injection e with e; omega)
      have HB5 := Lib.hid (below_far HB.out hg5 hf.l1)
      have HP5 : Hid (∀ k, Duo g1 g2 k → k < w5.heap.size) := Lib.hid (fun k hk => Nat.lt_of_lt_of_le (hS.inP hf k hk) hg5.size)
      clear hC hg5 hxr hS
      obtain ⟨u0, u1, u2, u3⟩ := hx5.get4c
      have h1a : -1 ≤ a ∧ a < (N : Int) := by have := HST.out; unfold StandsAt at this; rw [HL.out] at this; exact this
      go_upto_region 22 with fail
      go_cut [19] (fun x19 wx => x19 = .int .i64 ((N : Int) - a - 1) ∧ wx = w5)
      case first =>
        have hk1 : IntKind.i64.wrap ((N : Int) - a) = (N : Int) - a := IntWalk.i64_in _ (by omega)
        have hk2 : IntKind.i64.wrap ((N : Int) - a - 1) = (N : Int) - a - 1 := IntWalk.i64_in _ (by omega)
        go_wp2_with fail
        all_goals
          go_meet
          exact ⟨by first | rfl | (congr 1; omega), rfl⟩
      case rest =>
      obtain ⟨rfl, rfl⟩ := hcut
      rename World => w5
      go_upto_region 23 with fail
      go_upto_if 120 with fail
      go_cut [19] (fun x19 wx => x19 = .int .i64 (R : Int) ∧ wx = w5)
      case first =>
        cases d
        · go_wp2_with fail
          go_meet
          exact ⟨by rw [HRD.out.2 trivial], rfl⟩
        · go_wp2_with fail
          go_meet
          exact ⟨by rw [HRD.out.1 trivial]; rfl, rfl⟩
      case rest =>
      obtain ⟨rfl, rfl⟩ := hcut
      rename World => w5
      clear u0 u1 u2 u3 hx5 h1a
      have hX := hf.xs.next hi5 HP5.out
      go_wp2_with fail
      refine hX.mono ?_
      rintro e w6 ⟨ok, a3, rfl, hr, hi6, hg6⟩
      obtain ⟨rfl, rfl⟩ := hr.one (.inr ⟨.inl rfl, rfl, rfl⟩)
      have HB6 := Lib.hid (below_far HB5.out hg6 hf.l1)
      obtain ⟨As, cs, hxs, _⟩ := hi6
      have hE := sc_err g1 As W.xs.length cs _ a3 true w6 hxs he
      have hC := fun X => code_any W.er X (by omega)
      simp only [cond_true] at hE
      generalize errV W.er = ev at *
      clear hX hr hi5 hg6 hxs
      go_wp2_with fail
      refine hE.mono ?_
      rintro e w7 ⟨rfl, hb7⟩
      clear hE
      go_wp2_with fail
      refine (hC _).mono ?_
      rintro e w8 ⟨rfl, rfl⟩
      clear hC
      go_wp2
      go_ret
      exact ⟨rfl, HB6.out.trans (hb7.mono HB6.out.size)⟩
theorem tcur_all (A1 A2 : Option Addr) (m1 c1 m2 c2 : Nat) (bs : List Nat) (w : World) (h1 : Rd w w.heap.size A1 m1 c1 bs) (hb : ∀ u ∈ bs, u < 256) (h2 : RdP w w.heap.size A2 m2) (hl : m1 ≤ 140737488355328 ∧ m2 ≤ 9223372036854775807) (hR : RoomW w) (hZ : RowsW w) (hT : TzW w) :
    Calls Tryz.prog 3 #[.slice A1 m1 c1, .slice A2 m2 c2] w (RetTrue w) := by
  by_cases hs : m1 ≤ 1500 ∧ m2 ≤ 100
  · exact tcur_in A1 A2 m1 c1 m2 c2 bs w h1 hb h2 hs.1 hs.2 ⟨hR, hZ, hT⟩
  · exact tcur_big A1 A2 m1 c1 m2 c2 bs w h1 hb hl (by omega) ⟨hR, hZ, hT⟩
end Go.Proofs.YtbocpgffddkfdaaGreatDoor
