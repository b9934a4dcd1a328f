/-
  TopSeeks, walked: it returns true, whatever the arguments.
-/
import Derived.Test.YtbocpgffddkfdaaGreatDoorTopUp
import Derived.Test.YtbocpgffddkfdaaGreatDoorTopDeed
import Derived.Test.YtbocpgffddkfdaaGreatDoorPackA
import Derived.Test.YtbocpgffddkfdaaGreatDoorCurA
import Derived.Test.YtbocpgffddkfdaaGreatDoorDeedA
import Derived.Deep.CutBlock
import Derived.Deep.RegionWith
namespace Go.Proofs.YtbocpgffddkfdaaGreatDoor
open Go.RowKit

set_option maxRecDepth 20000 in
set_option maxHeartbeats 1000000 in
theorem tseeks_big (i q : Bool) (A1 A2 : Option Addr) (m1 c1 m2 c2 : Nat) (s : Int) (w : World) (_hl : m1 ≤ 9223372036854775807 ∧ m2 ≤ 9223372036854775807) (h : 100 < m1 ∨ (m1 ≤ 100 ∧ 100 < m2)) (hT : TabsW w) :
    Calls Tryz.prog 5 #[.bool i, .slice A1 m1 c1, .int .i64 s, .slice A2 m2 c2, .bool q] w (RetTrue w) := by
  have hu := up_top w hT
  unfold RetTrue at hu
  rcases h with h | h
  all_goals
    go_enter Tryz.func5, Tryz.ntmps5
    go_wp2_with (go_at_call 6; refine hu.mono ?_; rintro e w1 ⟨rfl, hb1⟩)
    go_ret
    exact ⟨rfl, hb1⟩

/-- where the sought sample is, as the law reckons it -/
def NextAt (xs : List (Int × Nat)) (what t a : Int) (nx : Int) : Prop := (what % 3 = 2 ∧ ∃ k : Nat, Sought xs t a.toNat k ∧ nx = (k : Int)) ∨ (¬ what % 3 = 2 ∧ nx = a + 1)
theorem NextAt.step {xs : List (Int × Nat)} {what t a nx : Int} {d : Bool} (h : NextAt xs what t a nx) (ha : StandsAt xs.length a) :
    (d = false ∧ nx < (xs.length : Int) → StepQ xs what t a d true nx ∧ 0 ≤ nx) ∧ (¬ (d = false ∧ nx < (xs.length : Int)) → StepQ xs what t a d false a) := by
  unfold StandsAt at ha
  rcases h with ⟨hw, k, hk, rfl⟩ | ⟨hw, rfl⟩
  · have h2 := hk.hi
    refine ⟨fun ⟨h3, h4⟩ => ⟨.inl ⟨hw, .inr ⟨h3, k, hk, .inl ⟨by omega, rfl, rfl⟩⟩⟩, by omega⟩, fun h3 => .inl ⟨hw, ?_⟩⟩
    cases d with
    | true => exact .inl ⟨rfl, rfl, rfl⟩
    | false => exact .inr ⟨rfl, k, hk, .inr ⟨by
        have h4 : ¬ (k : Int) < (xs.length : Int) := fun h4 => h3 ⟨rfl, h4⟩
        omega, rfl, rfl⟩⟩
  · refine ⟨fun ⟨h3, h4⟩ => ⟨.inr ⟨hw, .inl ⟨h3, h4, rfl, rfl⟩⟩, by omega⟩, fun h3 => .inr ⟨hw, ?_⟩⟩
    cases d with
    | true => exact .inr ⟨.inl rfl, rfl, rfl⟩
    | false => exact .inr ⟨.inr (by
        have h4 : ¬ a + 1 < (xs.length : Int) := fun h4 => h3 ⟨rfl, h4⟩
        omega), rfl, rfl⟩

/-- both iterators, one of them in use; the list -/
structure AtTop (w0 wr : World) (W : JW) (g1 g2 : Nat) (Ax : Option Addr) (lx cx : Nat) (q : Bool) (a : Int) (d : Bool) : Prop where
  duo : ∃ a' d', bif q then AtDuo w0 wr W g1 g2 a' d' a d else AtDuo w0 wr W g1 g2 a d a' d'
  lst : RdQ wr g1 Ax lx cx W.xs
section
variable {w0 w w' : World} {W : JW} {g1 g2 lx cx : Nat} {Ax : Option Addr} {q : Bool} {a a' : Int} {d d' : Bool}
theorem AtTop.bel (h : AtTop w0 w W g1 g2 Ax lx cx q a d) : Below w0.heap.size w0 w := by
  obtain ⟨a', d', h1⟩ := h.duo
  cases q
  · exact h1.bel
  · exact h1.bel
theorem AtTop.lt1 (f : DuoFix w0 W g1 g2) (h : AtTop w0 w W g1 g2 Ax lx cx q a d) : g1 < w.heap.size := by
  obtain ⟨a', d', h1⟩ := h.duo
  cases q
  · exact AtDuo.lt1 f h1
  · exact AtDuo.lt1 f h1
theorem AtTop.go (f : DuoFix w0 W g1 g2) (h : AtTop w0 w W g1 g2 Ax lx cx q a d) (hb : Below w.heap.size w w') : AtTop w0 w' W g1 g2 Ax lx cx q a d := by
  have hl := h.lt1 f
  obtain ⟨a', d', h1⟩ := h.duo
  refine ⟨⟨a', d', ?_⟩, h.lst.below (hb.mono (Nat.le_of_lt hl))⟩
  cases q
  · exact AtDuo.go f h1 hb
  · exact AtDuo.go f h1 hb
theorem RdQ.beside {B n c k : Nat} {A : Option Addr} {xs : List (Int × Nat)} (h : RdQ w B A n c xs) (hg : w.grownBy w' (some k)) (hk : B ≤ k) : RdQ w' B A n c xs :=
  h.farP hg (fun hn ad e e' => by
    obtain ⟨ad', e2, hb, _⟩ := h.cell hn
    rw [e] at e2
    injection e2 with e2
    subst e2
    injection e' with e'
    omega)
end

set_option maxRecDepth 20000 in
set_option maxHeartbeats 8000000 in
theorem tseeks_in (i q : Bool) (A1 A2 : Option Addr) (m1 c1 m2 c2 : Nat) (s : Int) (xs : List (Int × Nat)) (w : World) (h1 : RdQ w w.heap.size A1 m1 c1 xs) (h2 : RdP w w.heap.size A2 m2) (hm1 : m1 ≤ 100) (hm2 : m2 ≤ 100) (hT : TabsW w) :
    Calls Tryz.prog 5 #[.bool i, .slice A1 m1 c1, .int .i64 s, .slice A2 m2 c2, .bool q] w (RetTrue w) := by
  have hu := up_top w hT
  unfold RetTrue at hu
  go_enter Tryz.func5, Tryz.ntmps5
  go_wp2_with fail
  refine hu.mono ?_
  rintro e w1 ⟨rfl, hb1⟩
  clear hu
  obtain ⟨k, hkk⟩ : ∃ k : Nat, k = if i then 2 else 1 := ⟨_, rfl⟩
  have hk : k = 1 ∨ k = 2 := by rw [hkk]; cases i <;> simp
  go_upto_if 38 with fail
  go_cut [12] (fun x wx => x = .int .i64 (k : Int) ∧ wx = w1)
  case first =>
    cases i
    all_goals
      subst hkk
      go_wp2_with fail
      go_meet
      exact ⟨rfl, rfl⟩
  case rest =>
  obtain ⟨rfl, rfl⟩ := hcut
  rename World => w1
  clear hkk
  go_wp2_with fail
  refine (rising_any A1 m1 c1 xs w1 ((h1.below hb1).more hb1.size) (by omega)).mono ?_
  rintro e w2 ⟨x, Ax, cx, rfl, hox, hrx, hlx⟩
  have hb2 := hb1.trans (hox.bel.mono hb1.size)
  have hx2 := hox.rd
  clear hox h1 hb1
  have HX := Lib.hid hx2.all
  have HFT := Lib.hid hx2.fit
  have HRX : Hid (Rises x) := Lib.hid hrx
  obtain ⟨lx, hlx'⟩ : ∃ l, x.length = l := ⟨_, rfl⟩
  rw [hlx'] at hx2 hlx ⊢
  have HLX := Lib.hid hlx'
  have hlx2 : lx ≤ 100 := by omega
  clear hrx hlx' hlx
  obtain ⟨p, hp⟩ : ∃ p : Nat, s % 120 = (p : Int) := ⟨(s % 120).toNat, by have := Int.emod_nonneg s (show (120 : Int) ≠ 0 by omega); omega⟩
  have hpm : p < 120 := by have := Int.emod_lt_of_pos s (show (0 : Int) < 120 by omega); omega
  have hP := fun X => pick_any s 120 X (by omega) (by omega)
  rw [hp] at hP
  clear hp
  go_wp2_with fail
  refine (hP _).mono ?_
  rintro e w4 ⟨rfl, rfl⟩
  clear hP
  have hT2 := hT.bel hb2
  go_wp2_with fail
  refine (pack_good k (1 + p) _ (by simp) Ax lx cx x _ hx2 (by omega) hk (by omega) (by omega) HRX.out hT2.room hT2.tz).mono ?_
  rintro e w4 ⟨A4, c4, rfl, ho4⟩
  have hb4 := hb2.trans (ho4.bel.mono hb2.size)
  have hx4 := (hx2.below ho4.bel).more ho4.bel.size
  have hr4 := ho4.rd
  clear hx2 hT2 ho4
  have HBY : Hid (∀ u ∈ blockB k (1 + p) x, u < 256) := Lib.hid (block_lt (by omega))
  have HSM : Hid ((blockB k (1 + p) x).length ≤ 7000) := Lib.hid (block_small HX.out (by rw [HLX.out]; omega) (by omega))
  have HW := Lib.hid (jwF_back hk HX.out HRX.out (by rw [HLX.out]; omega) (show 1 ≤ 1 + p by omega) (by omega))
  have HAT : Hid (JAt (jwF (blockB k (1 + p) x)) (jnewF (blockB k (1 + p) x)) (-1) false) := Lib.hid (jnew_at HBY.out (by have := HSM.out; omega))
  have HMY : Hid (manyQ (1 + p) x ≤ 100) := Lib.hid (by have := many_le (xs := x) (show 1 ≤ 1 + p by omega); have := HLX.out; omega)
  generalize blockB k (1 + p) x = bl at *
  obtain ⟨L, HL⟩ : ∃ L, Hid (bl.length = L) := ⟨_, Lib.hid rfl⟩
  rw [HL.out] at hr4 HSM ⊢
  have hsm := HSM.out
  have hT4 := hT.bel hb4
  have hN1 := sc_newG A4 L c4 w4.heap.size bl w4 hr4 (Nat.le_refl _) HBY.out (by omega) hT4.room hT4.tz
  have hN2 := fun (X : World) (hX : Below w4.heap.size w4 X) => jnew_anyG A4 L c4 w4.heap.size bl X (hr4.below hX) hX.size HBY.out (by omega)
  rw [show wholeF bl = ((jwF bl).xs, (jwF bl).er) from rfl] at hN1
  generalize jwF bl = W at *
  generalize jnewF bl = s0 at *
  unfold RetItG at hN1
  simp only at hN1
  have HT := Lib.hid hT
  clear hT hT4 hr4 hsm
  go_wp2_with fail
  refine hN1.mono ?_
  rintro e w5 ⟨g1, A5, c5, rfl, hg1, x5, q5, hb5, _⟩
  have hN2' := hN2 w5 hb5
  clear hN1 hN2
  go_wp2_with fail
  refine hN2'.mono ?_
  rintro e w6 ⟨g2, rfl, hg2, hj, hb6⟩
  have hxs : W.xs = x := by rw [HW.out]
  have hD := duo_new HT.out hb4 hg1 x5 q5 hb5 hg1 hg2 hj HAT.out hb6
  have hf : DuoFix w W g1 g2 := ⟨Nat.le_trans hb4.size hg1, Nat.lt_of_lt_of_le x5.lt hg2, isErr_v _, by rw [HW.out]; exact ⟨by have := HMY.out; show manyQ (1 + p) x ≤ 100000; omega, Nat.zero_le _⟩, by rw [hxs]; exact HRX.out, by rw [hxs, HLX.out]; omega, by rw [hxs]; exact HFT.out, HT.out.lt⟩
  have hS : AtTop w w6 W g1 g2 Ax lx cx q (-1) false := ⟨⟨-1, false, by cases q <;> exact hD⟩, by
    rw [hxs]
    exact ((hx4.below hb5).below (hb6.mono hb5.size)).more hg1⟩
  have her : W.er = 0 := by rw [HW.out]
  have HER := Lib.hid her
  have HXS := Lib.hid hxs
  clear hN2' x5 q5 hb5 hg2 hj hb6 hg1 hxs hD hx4 hb4 hb2 her
  have hll : W.xs.length = lx := by rw [HXS.out, HLX.out]
  have HLL := Lib.hid hll
  clear hll
  go_wp2_with fail
  go_loopw [18, 19, 20] (fun x18 x19 x20 wr => ∃ (j : Nat) (a : Int) (d : Bool), j ≤ m2 ∧ x18 = .int .i64 a ∧ x19 = .bool d ∧ x20 = .int .i64 j ∧ StandsAt lx a ∧ AtTop w wr W g1 g2 Ax lx cx q a d) (fun _ _ x20 _ => m2 - (intOf x20).toNat)
  case atStart => exact ⟨0, -1, false, Nat.zero_le _, rfl, rfl, rfl, ⟨by omega, by omega⟩, hS⟩
  case round =>
    clear hS
    obtain ⟨j, a, d, hj, rfl, rfl, rfl, hst, hS⟩ := hrel
    by_cases hlt : j < m2
    · obtain ⟨ad, what, t, rfl, hdc, hd1, hbw⟩ := h2.at_ hlt
      have hki2 : (j : Int) < (m2 : Int) := by omega
      have hdb : ad.block < w.heap.size := by
        obtain ⟨ad', e, hb, _⟩ := h2 (by omega)
        injection e with e
        rw [e]
        exact hb
      have HD0 := Lib.hid (fun (X : World) (hX : Below w.heap.size w X) => (hX.cell (p := ad.add (j * 2)) (by rw [add_block]; exact hdb)).trans hdc)
      have HDT := Lib.hid (fun (X : World) (hX : Below w.heap.size w X) => (hX.cell (p := ⟨(ad.add (j * 2)).block, (ad.add (j * 2)).off + 1, none⟩) (by show (ad.add (j * 2)).block < _; rw [add_block]; exact hdb)).trans hd1)
      clear hdc hd1 hdb hbw
      have hd0 := HD0.out wr hS.bel
      have hdT := HDT.out wr hS.bel
      obtain ⟨qv, hq⟩ : ∃ qv, what % 3 = qv := ⟨_, rfl⟩
      have hpick := pick_any what 3 wr (by omega) (by omega)
      rw [hq] at hpick
      have HQV := Lib.hid hq
      clear hq
      unfold StandsAt at hst
      have HST := Lib.hid hst
      have hwrap := IntWalk.i64_in (a + 1) (by omega)
      go_upto_region 20 with (go_at_call 10; refine hpick.mono ?_; rintro e w7 ⟨rfl, rfl⟩)
      clear hpick
      obtain ⟨sb, hsb⟩ : ∃ sb, (qv == 2) = sb := ⟨_, rfl⟩
      rw [hsb]
      have HSB : Hid (sb = true ↔ qv = 2) := Lib.hid (by rw [← hsb]; simp)
      clear hsb
      go_upto_if 79 with fail
      go_cut [22] (fun x22 wx => ∃ nx : Int, x22 = .int .i64 nx ∧ NextAt W.xs what t a nx ∧ nx ≤ (lx : Int) ∧ AtTop w wx W g1 g2 Ax lx cx q a d)
      case first =>
        -- DONE
        cases sb
        rotate_left
        · have hq2 := HSB.out.1 rfl
          rw [hq2] at HQV
          clear hq2
          obtain ⟨f, hfa⟩ : ∃ f, a.toNat = f := ⟨_, rfl⟩
          have HFA := Lib.hid hfa
          have HFL : Hid (f ≤ lx ∧ (a < 0 → f = 0) ∧ (0 ≤ a → a = (f : Int))) := Lib.hid (by omega)
          clear hfa
          go_upto_region 21 with fail
          go_cut [22] (fun x22 wx => x22 = .int .i64 (f : Int) ∧ wx = wr)
          case first =>
            go_wp2_with fail
            all_goals
              go_meet
              exact ⟨by congr 1; have := HFL.out; omega, rfl⟩
          case rest =>
          obtain ⟨rfl, rfl⟩ := hcut
          rename World => wr
          have HS := Lib.hid hS
          have hlst := hS.lst
          clear hS
          clear hd0
          go_wp2_with fail
          go_loopw [22] (fun x22 wx => ∃ (c n : Nat), x22 = .int .i64 (c : Int) ∧ f ≤ c ∧ c ≤ lx ∧ wx = wr.drewN n ∧ Hid (∀ i, f ≤ i → i < c → (W.xs.getD i (0, 0)).1 < t)) (fun x22 _ => lx - (intOf x22).toNat)
          case atStart => exact ⟨f, 0, rfl, Nat.le_refl _, HFL.out.1, rfl, Lib.hid fun i h1 h2 => absurd h2 (by omega)⟩
          case round =>
            obtain ⟨c, nn, rfl, hc1, hc2, rfl, HI⟩ := hrel
            by_cases hcl : c < lx
            · obtain ⟨ax, rfl, _, hc0, _⟩ := hlst.at_ hcl
              obtain ⟨y, hy⟩ : ∃ y, (W.xs.getD c (0, 0)).1 = y := ⟨_, rfl⟩
              rw [hy] at hc0
              have HY := Lib.hid hy
              clear hy
              have hcli : (c : Int) < (lx : Int) := by omega
              by_cases hyt : y < t
              · go_upto_region 22 with fail
                go_quiet (fail)
                go_wp2_with fail
                go_roundw
                case rel => exact ⟨c + 1, nn + nq, by go_num, by omega, by omega, rfl, Lib.hid fun i h3 h4 => (by
                  by_cases e : i = c
                  · rw [e, HY.out]; exact hyt
                  · exact HI.out i h3 (by omega))⟩
                case measure => simp [intOf]; omega
              · have hty : t ≤ y := by omega
                have HN : Hid (NextAt W.xs what t a (c : Int)) := Lib.hid (.inl ⟨HQV.out, c, ⟨by rw [HFA.out]; exact hc1, by rw [HLL.out]; exact hc2, by rw [HFA.out]; exact HI.out, fun _ => by rw [HY.out]; exact hty⟩, rfl⟩)
                go_upto_region 22 with fail
                go_quiet (fail)
                go_wp2_with fail
                go_meet
                exact ⟨c, rfl, HN.out, by omega, HS.out.go hf (by first | exact below_drewN (Below.refl _ _) _ | exact below_drewN (below_drewN (Below.refl _ _) _) _)⟩
            · obtain rfl : c = lx := by omega
              have HN : Hid (NextAt W.xs what t a (c : Int)) := Lib.hid (.inl ⟨HQV.out, c, ⟨by rw [HFA.out]; exact hc1, by rw [HLL.out]; exact hc2, by rw [HFA.out]; exact HI.out, fun h => absurd h (by rw [HLL.out]; omega)⟩, rfl⟩)
              go_upto_region 22 with fail
              go_quiet (fail)
              go_wp2_with fail
              go_meet
              exact ⟨c, rfl, HN.out, Int.le_refl _, HS.out.go hf (by first | exact below_drewN (Below.refl _ _) _ | exact below_drewN (below_drewN (Below.refl _ _) _) _)⟩
        · have HN : Hid (NextAt W.xs what t a (a + 1)) := Lib.hid (.inr ⟨by rw [HQV.out]; exact fun e => (by have h := HSB.out.2 e; cases h), rfl⟩)
          go_wp2_with fail
          go_meet
          exact ⟨a + 1, rfl, HN.out, by have := HST.out; omega, hS⟩
      case rest =>
        obtain ⟨nx, rfl, hnx, hnl, hSc⟩ := hcut
        clear hS hd0 hdT
        have hstep := hnx.step (d := d) (by rw [HLL.out]; exact HST.out)
        rw [HLL.out] at hstep
        obtain ⟨wt, a', hwt, ha', HWT⟩ : ∃ (wt : Bool) (a' : Int), (!d && decide (nx < (lx : Int))) = wt ∧ a' = (if wt = true then nx else a) ∧ Hid (StepQ W.xs what t a d wt a' ∧ (wt = true → 0 ≤ a' ∧ a' < (lx : Int)) ∧ StandsAt lx a') := by
          by_cases hc : d = false ∧ nx < (lx : Int)
          · obtain ⟨h3, h4⟩ := hstep.1 hc
            exact ⟨true, nx, by rw [hc.1]; simp [hc.2], rfl, Lib.hid ⟨h3, fun _ => ⟨h4, hc.2⟩, ⟨by omega, hc.2⟩⟩⟩
          · have hf2 : (!d && decide (nx < (lx : Int))) = false := by
              cases d with
              | true => rfl
              | false =>
                have h5 : ¬ nx < (lx : Int) := fun h => hc ⟨rfl, h⟩
                simp [h5]
            exact ⟨false, a, hf2, rfl, Lib.hid ⟨hstep.2 hc, fun h => (by cases h), HST.out⟩⟩
        clear hstep hnx
        go_upto_region 24 with fail
        go_cut [23] (fun x23 wx => x23 = .bool wt ∧ wx = wc)
        case first =>
          cases d
          all_goals
            go_wp2_with fail
            all_goals
              go_meet
              exact ⟨by rw [← hwt]; simp [*], rfl⟩
        case rest =>
        obtain ⟨rfl, rfl⟩ := hcut
        rename World => wc
        have HA2 := Lib.hid ha'
        clear hwt ha'
        go_upto_region 25 with fail
        go_upto_if 109 with fail
        go_cut [18] (fun x18 wx => x18 = .int .i64 a' ∧ wx = wc)
        case first =>
          cases wt
          all_goals
            go_wp2_with fail
            go_meet
            exact ⟨by rw [HA2.out]; rfl, rfl⟩
        case rest =>
        obtain ⟨rfl, rfl⟩ := hcut
        rename World => wc
        clear hnl
        obtain ⟨lk, hlk⟩ : ∃ lk, lookQ W.xs a' (!wt) = lk := ⟨_, rfl⟩
        have hd0 := HD0.out wc hSc.bel
        have hdT := HDT.out wc hSc.bel
        go_upto_region 32 with fail
        go_upto_if 113 with fail
        go_cut [24, 25, 26, 27] (fun x24 x25 x26 x27 wx => x24 = .bool wt ∧ x25 = .int .i64 lk.1 ∧ x26 = .int .u64 ((lk.2 : Nat) : Int) ∧ x27 = .nilIface ∧ AtTop w wx W g1 g2 Ax lx cx q a' (!wt))
        case first =>
          have HLST := Lib.hid hSc.lst
          have HB1 := Lib.hid (hf.l1)
          have HB2 := Lib.hid (hf.l2)
          obtain ⟨b, db, hduo⟩ := hSc.duo
          clear hSc
          cases q
          · have hQ := slowly_any hf what t hduo
            go_wp2_with fail
            refine hQ.mono ?_
            rintro e w8 ⟨ok, a2, rfl, hr, hD8, hg8⟩
            obtain ⟨rfl, rfl⟩ := hr.one HWT.out.1
            have hl8 := HLST.out.beside hg8 (Nat.le_refl _)
            have hA := hf.xs.look hD8.sc
            rw [hlk] at hA
            clear hQ hr hduo hd0 hdT
            go_wp2_with fail
            refine hA.mono ?_
            rintro e w9 ⟨rfl, hb9⟩
            have hD9 := hD8.go hf hb9
            have hl9 := hl8.below (hb9.mono (Nat.le_of_lt (hD8.lt1 hf)))
            have hE := duo_err1 hf hD9
            rw [HER.out, show (bif !ok then errV 0 else Value.nilIface) = .nilIface by cases ok <;> rfl] at hE
            clear hA hb9 hD8 hl8
            go_wp2_with fail
            refine hE.mono ?_
            rintro e w10 ⟨rfl, hb10⟩
            have hD10 := hD9.go hf hb10
            have hl10 := hl9.below (hb10.mono (Nat.le_of_lt (hD9.lt1 hf)))
            clear hE hb10 hD9 hl9
            go_wp2
            go_meet
            exact ⟨rfl, rfl, rfl, rfl, ⟨_, _, hD10⟩, hl10⟩
          · have hQ := quickly_any hf what t hduo
            go_wp2_with fail
            refine hQ.mono ?_
            rintro e w8 ⟨ok, a2, rfl, hr, hD8, hg8⟩
            obtain ⟨rfl, rfl⟩ := hr.one HWT.out.1
            have hl8 := HLST.out.beside hg8 (by have := HB2.out; omega)
            have hA := hf.xj.look hD8.jp
            rw [hlk] at hA
            clear hQ hr hduo hd0 hdT
            go_wp2_with fail
            refine hA.mono ?_
            rintro e w9 ⟨rfl, hb9⟩
            have hD9 := hD8.go hf hb9
            have hl9 := hl8.below (hb9.mono (Nat.le_of_lt (hD8.lt1 hf)))
            have hE := duo_err2 hD9
            rw [HER.out, show (bif !ok then errV 0 else Value.nilIface) = .nilIface by cases ok <;> rfl] at hE
            clear hA hb9 hD8 hl8
            go_wp2_with fail
            refine hE.mono ?_
            rintro e w10 ⟨rfl, hb10⟩
            have hD10 := hD9.go hf hb10
            have hl10 := hl9.below (hb10.mono (Nat.le_of_lt (hD9.lt1 hf)))
            clear hE hb10 hD9 hl9
            go_wp2
            go_meet
            exact ⟨rfl, rfl, rfl, rfl, ⟨_, _, hD10⟩, hl10⟩
        case rest =>
        obtain ⟨rfl, rfl, rfl, rfl, hS5⟩ := hcut
        clear hSc hd0 hdT
        have HS5 := Lib.hid hS5
        cases wt
        · have hlk0 : lk = (0, 0) := by
            rw [← hlk]
            unfold lookQ
            rw [if_pos (by simp)]
          subst hlk0
          clear hlk hS5
          dsimp only
          go_wp2_with fail
          go_roundw
          case rel => exact ⟨j + 1, a', true, by omega, rfl, rfl, by go_num, HWT.out.2.2, HS5.out⟩
          case measure => simp [intOf]; omega
        · obtain ⟨h0, hal⟩ := HWT.out.2.1 rfl
          obtain ⟨k', rfl⟩ := Int.eq_ofNat_of_zero_le h0
          have hk' : k' < lx := by omega
          obtain ⟨ax, rfl, _, hc0, hc1⟩ := hS5.lst.at_ hk'
          have hlk1 : lookQ W.xs (k' : Int) (!true) = W.xs.getD k' (0, 0) := by
            unfold lookQ
            rw [if_neg (by simp), Int.toNat_natCast]
          rw [← hlk1, hlk] at hc0 hc1
          obtain ⟨t1, v1⟩ := lk
          dsimp only at hc0 hc1 ⊢
          have hki' : (k' : Int) < (lx : Int) := by omega
          clear hS5 hlk1 hlk
          go_wp2_with fail
          go_roundw
          case rel => exact ⟨j + 1, (k' : Int), false, by omega, rfl, rfl, by go_num, HWT.out.2.2, HS5.out⟩
          case measure => simp [intOf]; omega
    · obtain rfl : j = m2 := by omega
      go_wp2
      go_ret
      exact ⟨rfl, hS.bel⟩

theorem tseeks_all (i q : Bool) (A1 A2 : Option Addr) (m1 c1 m2 c2 : Nat) (s : Int) (xs : List (Int × Nat)) (w : World) (h1 : RdQ w w.heap.size A1 m1 c1 xs) (h2 : RdP w w.heap.size A2 m2) (hl : m1 ≤ 9223372036854775807 ∧ m2 ≤ 9223372036854775807) (hR : RoomW w) (hZ : RowsW w) (hT : TzW w) :
    Calls Tryz.prog 5 #[.bool i, .slice A1 m1 c1, .int .i64 s, .slice A2 m2 c2, .bool q] w (RetTrue w) := by
  by_cases hs : m1 ≤ 100 ∧ m2 ≤ 100
  · exact tseeks_in i q A1 A2 m1 c1 m2 c2 s xs w h1 h2 hs.1 hs.2 ⟨hR, hZ, hT⟩
  · exact tseeks_big i q A1 A2 m1 c1 m2 c2 s w hl (by omega) ⟨hR, hZ, hT⟩

end Go.Proofs.YtbocpgffddkfdaaGreatDoor
