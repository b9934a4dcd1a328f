/-
  ScanPlays, walked: it returns true, whatever the arguments.
-/
import Derived.Test.YtcnhagngcgoiaaaDoorScanA
import Derived.Test.YtcnhagngcgoiaaaDoorWhoR
import Derived.Test.YtcnhagngcgoiaaaDoorCurA
import Derived.Test.YtcnhagngcgoiaaaDoorDeedA
import Derived.Deep.CutBlock
import Derived.Deep.RegionWith
namespace Go.Proofs.YtcnhagngcgoiaaaDoor
open Go.RowKit

set_option maxRecDepth 20000 in
set_option maxHeartbeats 400000 in
theorem splays_big (A1 A2 : Option Addr) (m1 c1 m2 c2 : Nat) (w : World) (hl : m1 ≤ 9223372036854775807 ∧ m2 ≤ 9223372036854775807) (h : 1500 < m1 ∨ (m1 ≤ 1500 ∧ 100 < m2)) (hR : RoomW w) (hT : TzW w) :
    Calls Tryd.prog 3 #[.slice A1 m1 c1, .slice A2 m2 c2] w (RetTrue w) := by
  have hu := up18_any w hR hT
  unfold RetTrue at hu
  rcases h with h | h
  all_goals
    go_enter Tryd.func3, Tryd.ntmps3
    go_wp2_with (go_at_call 5; refine hu.mono ?_; rintro e w1 ⟨rfl, hb1⟩)
    go_ret
    exact ⟨rfl, hb1⟩

/-- the iterator and the reference's cursor, both at one place of one list -/
structure AtScan (w0 wr : World) (g1 g2 : Nat) (A1 A2 : Option Addr) (N c1 c2 : Nat) (xs : List (Int × Nat)) (er : Nat) (a : Int) (d : Bool) : Prop where
  bel : Below w0.heap.size w0 wr
  at_ : StandsAt N a
  it : BoxL wr g1 [.slice A1 N c1, errV er, .int .i64 a, .bool d]
  ref : BoxL wr g2 [.slice A2 N c2, .int .i64 (er : Int), .int .i64 a, .bool d]
  q1 : RdQ wr g1 A1 N c1 xs
  q2 : RdQ wr g2 A2 N c2 xs
section
variable {w0 w w' W : World} {g1 g2 N c1 c2 er : Nat} {A1 A2 : Option Addr} {xs : List (Int × Nat)} {a a' : Int} {d d' : Bool}
theorem AtScan.go (h : AtScan w0 w g1 g2 A1 A2 N c1 c2 xs er a d) (hb : Below w.heap.size w w') : AtScan w0 w' g1 g2 A1 A2 N c1 c2 xs er a d :=
  ⟨h.bel.trans (hb.mono h.bel.size), h.at_, h.it.below hb, h.ref.below hb, h.q1.below (hb.mono (Nat.le_of_lt h.it.lt)), h.q2.below (hb.mono (Nat.le_of_lt h.ref.lt))⟩
/-- a step of the iterator: what the reference's step wants, and what it leaves behind it -/
theorem AtScan.step (h : AtScan w0 w g1 g2 A1 A2 N c1 c2 xs er a d) (hg : w0.heap.size ≤ g1) (h12 : g1 < g2) (hP : ∀ ad, A2 = some ad → ad.block ≠ g1) (hb : Below w.heap.size w W) (hw : w' = ((((W.setCell ⟨g1, 0, none⟩ (.slice A1 N c1)).setCell ⟨g1, 1, none⟩ (errV er)).setCell ⟨g1, 2, none⟩ (.int .i64 a')).setCell ⟨g1, 3, none⟩ (.bool d'))) :
    Below w0.heap.size w0 w' ∧ BoxL w' g2 [.slice A2 N c2, .int .i64 (er : Int), .int .i64 a, .bool d] ∧ RdQ w' g2 A2 N c2 xs ∧
    (∀ w2, Below g2 w' w2 → BoxL w2 g2 [.slice A2 N c2, .int .i64 (er : Int), .int .i64 a', .bool d'] → StandsAt N a' → AtScan w0 w2 g1 g2 A1 A2 N c1 c2 xs er a' d') := by
  have hb0 : Below w0.heap.size w0 w' := by rw [hw]; exact below_step h.bel hb hg
  have y1 : BoxL w' g1 [.slice A1 N c1, errV er, .int .i64 a', .bool d'] := by rw [hw]; exact h.it.step hb
  have y2 : BoxL w' g2 [.slice A2 N c2, .int .i64 (er : Int), .int .i64 a, .bool d] := by rw [hw]; exact h.ref.stepOth hb (by omega)
  have z2 : RdQ w' g2 A2 N c2 xs := by rw [hw]; exact h.q2.stepOth hb (Nat.le_of_lt h.ref.lt) hP
  have z1 : RdQ w' g1 A1 N c1 xs := by
    rw [hw]
    exact h.q1.below (below_set4c (hb.mono (Nat.le_of_lt h.it.lt)) (Nat.le_refl _) _ _ _ _)
  exact ⟨hb0, y2, z2, fun w2 hb2 x2 hs => ⟨hb0.trans (hb2.mono (by omega)), hs, y1.upto hb2 h12, x2, z1.below (hb2.mono (by omega)), z2.below hb2⟩⟩
end

set_option maxRecDepth 20000 in
set_option maxHeartbeats 4000000 in
theorem splays_in (A1 A2 : Option Addr) (m1 c1 m2 c2 : Nat) (bs : List Nat) (w : World) (h1 : Rd w w.heap.size A1 m1 c1 bs) (hb : ∀ u ∈ bs, u < 256) (h2 : RdP w w.heap.size A2 m2) (hm1 : m1 ≤ 1500) (hm2 : m2 ≤ 100) (hR : RoomW w) (hT : TzW w) :
    Calls Tryd.prog 3 #[.slice A1 m1 c1, .slice A2 m2 c2] w (RetTrue w) := by
  have hu := up18_any w hR hT
  unfold RetTrue at hu
  have hfew := wholeF_few hb
  have hye := wholeF_le (bs := bs)
  have hri := wholeF_rises hb
  rw [h1.len] at hfew
  go_enter Tryd.func3, Tryd.ntmps3
  go_wp2_with fail
  refine hu.mono ?_
  rintro e w1 ⟨rfl, hb1⟩
  clear hu
  have hN := sc_new A1 m1 c1 w.heap.size bs w1 (h1.below hb1) hb1.size hb (by omega) (hR.bel hb1) (hT.bel hb1)
  have hV := fun (X : World) (hX : Below w.heap.size w X) => rwhole_any A1 m1 c1 w.heap.size bs X (h1.below hX) hX.size hb (by omega)
  obtain ⟨ns, hns⟩ : ∃ ns, wholeN bs = ns := ⟨_, rfl⟩
  obtain ⟨⟨xs, er⟩, hxe⟩ : ∃ p, wholeF bs = p := ⟨_, rfl⟩
  rw [hxe] at hN hV hfew hye hri
  rw [hns] at hV
  clear hxe hns
  unfold RetIt at hN
  unfold RetRWh at hV
  simp only at hN hV hfew hye hri
  obtain ⟨N, hNL⟩ : ∃ N, xs.length = N := ⟨_, rfl⟩
  rw [hNL] at hN hV hfew
  have HL := Lib.hid hNL
  have HRI : Hid (RiseQ xs) := Lib.hid hri
  clear hNL hri
  have hn100 : N ≤ 100000 := by omega
  have he := isErr_v er
  go_wp2_with fail
  refine hN.mono ?_
  rintro e w2 ⟨g1, A3, c3, rfl, hg1, x1, q1, hb2⟩
  replace hb2 := hb1.trans (hb2.mono hb1.size)
  have hgw : w.heap.size ≤ g1 := Nat.le_trans hb1.size hg1
  clear hN
  go_wp2_with fail
  refine (hV w2 hb2).mono ?_
  rintro e w3 ⟨A4, c4, A5, c5, rfl, ho3, _⟩
  have q2 := ho3.rd
  have hpast := ho3.past
  have hb3 := ho3.bel
  clear hV ho3
  replace q1 := q1.below (hb3.mono (Nat.le_of_lt x1.lt))
  have hg12 : g1 < w2.heap.size := x1.lt
  replace x1 := x1.below hb3
  have hb4 := hb2.trans (hb3.mono hb2.size)
  clear hb3
  go_wp2_with fail
  refine (rcur_new A4 N c4 (er : Int) w3).mono ?_
  rintro e w4 ⟨rfl, x2, hb5⟩
  have hS : AtScan w w4 g1 w3.heap.size A3 A4 N c3 c4 xs er (-1) false := ⟨hb4.trans (hb5.mono hb4.size), ⟨by omega, by omega⟩, x1.below hb5, x2, q1.below (hb5.mono (Nat.le_of_lt x1.lt)), q2.below hb5⟩
  have hgg : g1 < w3.heap.size := x1.lt
  have HP : Hid (∀ ad, A4 = some ad → ad.block ≠ g1) := Lib.hid (fun ad e => by have := hpast ad e; omega)
  clear x1 x2 q1 q2 hb5 hb4 hpast hb1 hb2 hg1 hg12
  generalize w3.heap.size = g2 at *
  go_wp2_with fail
  go_loopw [11] (fun x11 wr => ∃ (k : Nat) (a : Int) (d : Bool), k ≤ m2 ∧ x11 = .int .i64 k ∧ AtScan w wr g1 g2 A3 A4 N c3 c4 xs er a d) (fun x11 _ => m2 - (intOf x11).toNat)
  case atStart => exact ⟨0, -1, false, Nat.zero_le _, rfl, hS⟩
  case round =>
    clear hS
    obtain ⟨k, a, d, hk, rfl, hS⟩ := hrel
    have hki : (k : Int) ≤ (m2 : Int) := by omega
    obtain ⟨lk, hlk⟩ : ∃ lk, lookQ xs a d = lk := ⟨_, rfl⟩
    have hL1 := sc_at g1 g1 A3 N c3 xs _ a d wr hS.it he hS.at_ hS.q1 (Nat.le_of_lt hS.it.lt)
    rw [hlk] at hL1
    go_wp2_with fail
    refine hL1.mono ?_
    rintro e w5 ⟨rfl, hb5⟩
    have hS5 := hS.go hb5
    have hL2 := rcur_look g2 g2 A4 N c4 xs (er : Int) a d w5 hS5.ref hS5.at_ hS5.q2
    rw [hlk] at hL2
    clear hS hL1 hlk hb5
    go_wp2_with fail
    refine hL2.mono ?_
    rintro e w6 ⟨rfl, hb6⟩
    have hS6 := hS5.go hb6
    clear hS5 hL2 hb6
    obtain ⟨t1, v1⟩ := lk
    dsimp only
    go_upto_region 14 with fail
    go_cut [72] (fun x72 wx => x72 = .bool false ∧ AtScan w wx g1 g2 A3 A4 N c3 c4 xs er a d)
    case first =>
      have hE := sc_err g1 A3 N c3 _ a d w6 hS6.it he
      have hC := fun X => code_ev hye d X
      have hM := fun X (hX : AtScan w X g1 g2 A3 A4 N c3 c4 xs er a d) => rcur_err g2 A4 N c4 (er : Int) a d X hX.ref
      obtain ⟨ev, hev⟩ : ∃ ev, (bif d then errV er else .nilIface) = ev := ⟨_, rfl⟩
      obtain ⟨en, hen⟩ : ∃ en : Int, (bif d then (er : Int) else 0) = en := ⟨_, rfl⟩
      rw [hev] at hE hC
      rw [hen] at hM hC
      clear hev hen
      go_wp2_with fail
      refine hE.mono ?_
      rintro e w7 ⟨rfl, hb7⟩
      have hS7 := hS6.go hb7
      clear hE hS6 hb7
      go_wp2_with fail
      refine (hC _).mono ?_
      rintro e w8 ⟨rfl, rfl⟩
      go_wp2_with fail
      refine (hM _ hS7).mono ?_
      rintro e w8 ⟨rfl, hb8⟩
      have hS8 := hS7.go hb8
      clear hM hC hS7 hb8
      go_wp2
      go_meet
      exact ⟨by first | rfl | simp, hS8⟩
    case rest =>
      obtain ⟨rfl, hSc⟩ := hcut
      clear hS6
      by_cases hlt : k < m2
      · obtain ⟨ad, what, t, rfl, hdc, hd1, _⟩ := h2.at_ hlt
        have hki2 : (k : Int) < (m2 : Int) := by omega
        have hkn : ((k : Int) == (m2 : Int)) = false := by simp; omega
        have hdb : ad.block < w.heap.size := by
          obtain ⟨ad', e, hb, _⟩ := h2 (by omega)
          injection e with e
          rw [e]
          exact hb
        have hd0 := (hSc.bel.cell (p := ad.add (k * 2)) (by rw [add_block]; exact hdb)).trans hdc
        have HDT := Lib.hid (fun (X : World) (hX : Below w.heap.size w X) => (hX.cell (p := ⟨(ad.add (k * 2)).block, (ad.add (k * 2)).off + 1, none⟩) (by show (ad.add (k * 2)).block < _; rw [add_block]; exact hdb)).trans hd1)
        clear hdc hd1 hdb
        have hdT := HDT.out wc hSc.bel
        obtain ⟨qv, hq⟩ : ∃ qv, what % 3 = qv := ⟨_, rfl⟩
        have hpick := pick_any what 3 wc (by omega) (by omega)
        rw [hq] at hpick
        clear hq
        go_upto_region 19 with fail
        go_upto_if 83 with (go_at_call 14; refine hpick.mono ?_; rintro e w7 ⟨rfl, rfl⟩)
        clear hpick
        go_cut [16, 17] (fun x16 x17 wx => ∃ (ok : Bool) (a' : Int), x16 = .bool ok ∧ x17 = .bool ok ∧ AtScan w wx g1 g2 A3 A4 N c3 c4 xs er a' (!ok))
        case first =>
          by_cases hq2 : qv = 2
          · subst hq2
            have hSk := sc_seek g1 g1 A3 N c3 xs _ a t d wc hSc.it he hSc.at_ hn100 hSc.q1 (Nat.le_of_lt hSc.it.lt) HRI.out
            go_wp2_with fail
            refine hSk.mono ?_
            rintro e w8 ⟨ok, a', W, rfl, hr, hb8, hw8⟩
            obtain ⟨hB8, x8, q8, hS9⟩ := hSc.step hgw hgg HP.out hb8 hw8
            have hT8 := HDT.out w8 hB8
            have hS2 := rcur_seek g2 g2 A4 N c4 xs (er : Int) a t d w8 x8 hSc.at_ hn100 q8
            clear hSk hw8 hd0 hdT x8 q8 hB8
            go_wp2_with fail
            refine hS2.mono ?_
            rintro e w10 ⟨ok2, a2, rfl, hr2, x10, hb10⟩
            obtain ⟨rfl, rfl⟩ := hr.one hr2
            have hsa2 : StandsAt N a' := by have := hr.stands (by rw [HL.out]; exact hSc.at_); rwa [HL.out] at this
            have hS11 := hS9 _ hb10 x10 hsa2
            clear hS2 hT8 hS9
            go_wp2
            go_meet
            exact ⟨ok, a', rfl, rfl, hS11⟩
          · have hq3 : (qv == 2) = false := by simp [hq2]
            have hN1 := sc_next g1 A3 N c3 _ a d wc hSc.it he hSc.at_ hn100
            go_wp2_with fail
            refine hN1.mono ?_
            rintro e w8 ⟨ok, a', W, rfl, hr, hb8, hw8⟩
            obtain ⟨hB8, x8, q8, hS9⟩ := hSc.step hgw hgg HP.out hb8 hw8
            have hN2 := rcur_next g2 A4 N c4 (er : Int) a d w8 x8 hSc.at_ hn100
            clear hN1 hw8 hd0 hdT x8 q8 hB8
            go_wp2_with fail
            refine hN2.mono ?_
            rintro e w10 ⟨ok2, a2, rfl, hr2, x10, hb10⟩
            obtain ⟨rfl, rfl⟩ := hr.one hr2
            have hsa2 : StandsAt N a' := hr.stands hSc.at_
            have hS11 := hS9 _ hb10 x10 hsa2
            clear hN2 hS9
            go_wp2
            go_meet
            exact ⟨ok, a', rfl, rfl, hS11⟩
        case rest =>
          obtain ⟨ok, a', rfl, rfl, hS11⟩ := hcut
          clear hSc hd0 hdT
          go_wp2
          go_roundw
          case rel => exact ⟨k + 1, a', !ok, by omega, by go_num, hS11⟩
          case measure => simp [intOf]; omega
      · obtain rfl : k = m2 := by omega
        go_wp2
        go_ret
        exact ⟨rfl, hSc.bel⟩

theorem splays_all (A1 A2 : Option Addr) (m1 c1 m2 c2 : Nat) (bs : List Nat) (w : World) (h1 : Rd w w.heap.size A1 m1 c1 bs) (hb : ∀ u ∈ bs, u < 256) (h2 : RdP w w.heap.size A2 m2) (hl : m1 ≤ 9223372036854775807 ∧ m2 ≤ 9223372036854775807) (hR : RoomW w) (hT : TzW w) :
    Calls Tryd.prog 3 #[.slice A1 m1 c1, .slice A2 m2 c2] w (RetTrue w) := by
  by_cases hs : m1 ≤ 1500 ∧ m2 ≤ 100
  · exact splays_in A1 A2 m1 c1 m2 c2 bs w h1 hb h2 hs.1 hs.2 hR hT
  · exact splays_big A1 A2 m1 c1 m2 c2 w hl (by omega) hR hT

end Go.Proofs.YtcnhagngcgoiaaaDoor
