/-
  TopBack, walked: it returns true, whatever the arguments.
-/
import Derived.Test.YtbocpgffddkfdaaGreatDoorTopUp
import Derived.Test.YtbocpgffddkfdaaGreatDoorSeqCollect
import Derived.Test.YtbocpgffddkfdaaGreatDoorPackA
import Derived.Test.YtbocpgffddkfdaaGreatDoorPackRiseR
import Derived.Test.YtbocpgffddkfdaaGreatDoorCurA
import Derived.Test.YtbocpgffddkfdaaGreatDoorSame
import Derived.Deep.CutBlock
import Derived.Deep.RegionWith
import Derived.Deep.RegionHeld3
namespace Go.Proofs.YtbocpgffddkfdaaGreatDoor
open Go.RowKit

theorem RdQ.nextTo {w w' : World} {B n c k : Nat} {A : Option Addr} {xs : List (Int × Nat)} (h : RdQ w B A n c xs) (hg : w.grownBy w' (some k)) (hk : B ≤ k) : RdQ w' B A n c xs :=
  h.farP hg (fun hn ad e e' => by
    obtain ⟨ad', e2, hb, _⟩ := h.cell hn
    rw [e] at e2
    injection e2 with e2
    subst e2
    injection e' with e'
    omega)

set_option maxRecDepth 20000 in
set_option maxHeartbeats 1000000 in
theorem tback_big (i : Bool) (A1 : Option Addr) (m1 c1 : Nat) (s : Int) (w : World) (_hl : m1 ≤ 9223372036854775807) (h : 100 < m1) (hT : TabsW w) :
    Calls Tryz.prog 4 #[.bool i, .slice A1 m1 c1, .int .i64 s] w (RetTrue w) := by
  have hu := up_top w hT
  unfold RetTrue at hu
  go_enter Tryz.func4, Tryz.ntmps4
  go_wp2_with (go_at_call 6; refine hu.mono ?_; rintro e w1 ⟨rfl, hb1⟩)
  go_ret
  exact ⟨rfl, hb1⟩

set_option maxRecDepth 20000 in
set_option maxHeartbeats 8000000 in
theorem tback_in (i : Bool) (A1 : Option Addr) (m1 c1 : Nat) (s : Int) (xs : List (Int × Nat)) (w : World) (h1 : RdQ w w.heap.size A1 m1 c1 xs) (hm1 : m1 ≤ 100) (hT : TabsW w) :
    Calls Tryz.prog 4 #[.bool i, .slice A1 m1 c1, .int .i64 s] w (RetTrue w) := by
  have hu := up_top w hT
  unfold RetTrue at hu
  go_enter Tryz.func4, Tryz.ntmps4
  go_wp2_with fail
  refine hu.mono ?_
  rintro e w1 ⟨rfl, hb1⟩
  clear hu
  obtain ⟨k, hkk⟩ : ∃ k : Nat, k = if i then 2 else 1 := ⟨_, rfl⟩
  have hk : k = 1 ∨ k = 2 := by rw [hkk]; cases i <;> simp
  go_upto_if 27 with fail
  go_cut [8] (fun x wx => x = .int .i64 (k : Int) ∧ wx = w1)
  case first =>
    cases i
    all_goals
      subst hkk
      go_wp2_with fail
      go_meet
      exact ⟨rfl, rfl⟩
  case rest =>
  obtain ⟨rfl, rfl⟩ := hcut
  rename World => w1
  clear hkk
  obtain ⟨p, hp⟩ : ∃ p : Nat, s % 65535 = (p : Int) := ⟨(s % 65535).toNat, by have := Int.emod_nonneg s (show (65535 : Int) ≠ 0 by omega); omega⟩
  have hpm : p < 65535 := by have := Int.emod_lt_of_pos s (show (0 : Int) < 65535 by omega); omega
  have hP := fun X => pick_any s 65535 X (by omega) (by omega)
  rw [hp] at hP
  clear hp
  go_wp2_with fail
  refine (hP _).mono ?_
  rintro e w4 ⟨rfl, rfl⟩
  clear hP
  have hT1 := hT.bel hb1
  have hx1 := (h1.below hb1).more hb1.size
  go_wp2_with fail
  refine (pack_any (k : Int) _ A1 m1 c1 xs w1 hx1 (by omega) hT1.room hT1.tz).mono ?_
  rintro e w2 ⟨er, A2, c2, her, rfl, ho2⟩
  have hb2 := hb1.trans (ho2.bel.mono hb1.size)
  have hx2 := (hx1.below ho2.bel).more ho2.bel.size
  have HER : Hid ((Rises xs → er = 0) ∧ (¬ Rises xs → er = 4 ∧ (blockE (k : Int) (1 + (p : Int)) xs er).length = 0)) := Lib.hid ⟨fun h => her.same (.inr ⟨by omega, .inr ⟨k, rfl, hk, .inr ⟨h, rfl⟩⟩⟩), fun h => by
    have e := her.same (.inr ⟨by omega, .inr ⟨k, rfl, hk, .inl ⟨h, rfl⟩⟩⟩ : PackE (k : Int) (1 + (p : Int)) xs 4)
    refine ⟨e, ?_⟩
    rw [e]
    unfold blockE
    rw [if_neg (by omega)]
    rfl⟩
  obtain ⟨L2, hL2⟩ : ∃ L2, (blockE (k : Int) (1 + (p : Int)) xs er).length = L2 := ⟨_, rfl⟩
  rw [hL2] at HER ⊢
  clear her ho2 hL2 hT1 hx1 h1
  go_wp2_with fail
  refine (rrises_any A1 m1 c1 xs w2 hx2 (by omega)).mono ?_
  rintro e w3 ⟨rb, hrb, rfl, hb3⟩
  have hx3 := (hx2.below hb3).more hb3.size
  replace hb3 := hb2.trans (hb3.mono hb2.size)
  have HRB := Lib.hid hrb
  clear hx2 hb2 hrb hb1
  go_upto_region 10 with fail
  go_cut [57] (fun x wx => x = .bool false ∧ wx = w3)
  case first =>
    cases rb
    · obtain ⟨rfl, rfl⟩ := HER.out.2 (fun h => by cases HRB.out.2 h)
      have hC := fun X => code_some 4 X (by omega) (by omega)
      rw [show errV 4 = .iface 77 (.int .i64 4) from rfl]
      go_wp2_with fail
      refine (hC _).mono ?_
      rintro e w4 ⟨rfl, rfl⟩
      go_wp2_with fail
      go_meet
      exact ⟨rfl, rfl⟩
    · obtain rfl := HER.out.1 (HRB.out.1 rfl)
      rw [show errV 0 = .nilIface from rfl]
      go_wp2_with fail
      go_meet
      exact ⟨rfl, rfl⟩
  case rest =>
  obtain ⟨rfl, rfl⟩ := hcut
  rename World => w3
  clear HER HRB
  go_wp2_with fail
  refine (rising_any A1 m1 c1 xs w3 hx3 (by omega)).mono ?_
  rintro e w4 ⟨x, Ax, cx, rfl, hox, hrx, hlx⟩
  have hb4 := hb3.trans (hox.bel.mono hb3.size)
  have hx4 := hox.rd
  clear hox hx3 hb3
  have HX := Lib.hid hx4.all
  have HFT := Lib.hid hx4.fit
  have HRX : Hid (Rises x) := Lib.hid hrx
  obtain ⟨lx, hlx'⟩ : ∃ l, x.length = l := ⟨_, rfl⟩
  rw [hlx'] at hx4 hlx ⊢
  have HLX := Lib.hid hlx'
  have hlx2 : lx ≤ 100 := by omega
  clear hrx hlx' hlx
  have hT4 := hT.bel hb4
  go_wp2_with fail
  refine (pack_good k (1 + p) _ (by simp) Ax lx cx x _ hx4 (by omega) hk (by omega) (by omega) HRX.out hT4.room hT4.tz).mono ?_
  rintro e w5 ⟨A4, c4, rfl, ho5⟩
  have hb5 := hb4.trans (ho5.bel.mono hb4.size)
  have hx5 := (hx4.below ho5.bel).more ho5.bel.size
  have hr5 := ho5.rd
  clear hx4 hT4 ho5 hb4
  have HBY : Hid (∀ u ∈ blockB k (1 + p) x, u < 256) := Lib.hid (block_lt (by omega))
  have HSM : Hid ((blockB k (1 + p) x).length ≤ 7000) := Lib.hid (block_small HX.out (by rw [HLX.out]; omega) (by omega))
  have HW := Lib.hid (jwF_back hk HX.out HRX.out (by rw [HLX.out]; omega) (show 1 ≤ 1 + p by omega) (by omega))
  have HAT : Hid (JAt (jwF (blockB k (1 + p) x)) (jnewF (blockB k (1 + p) x)) (-1) false) := Lib.hid (jnew_at HBY.out (by have := HSM.out; omega))
  have HMY : Hid (manyQ (1 + p) x ≤ 100 ∧ manyQ (1 + p) x = (lx + (1 + p) - 1) / (1 + p)) := Lib.hid ⟨by have := many_le (xs := x) (show 1 ≤ 1 + p by omega); have := HLX.out; omega, by unfold manyQ; rw [HLX.out]⟩
  generalize blockB k (1 + p) x = bl at *
  obtain ⟨L, HL⟩ : ∃ L, Hid (bl.length = L) := ⟨_, Lib.hid rfl⟩
  rw [HL.out] at hr5 HSM ⊢
  have hsm := HSM.out
  have hT5 := hT.bel hb5
  have hWD := wdec_any A4 L c4 w5.heap.size bl w5 hr5 (Nat.le_refl _) HBY.out (by omega) hT5.room hT5.tz
  have HR5 : Hid (∀ X, Below w5.heap.size w5 X → Rd X w5.heap.size A4 L c4 bl) := Lib.hid (fun X hX => hr5.below hX)
  rw [show wholeF bl = ((jwF bl).xs, (jwF bl).er) from rfl] at hWD
  have hN1 := fun (X : World) (hX : Below w5.heap.size w5 X) => sc_newG A4 L c4 w5.heap.size bl X (HR5.out X hX) hX.size HBY.out (by omega) (hT5.bel hX).room (hT5.bel hX).tz
  rw [show wholeF bl = ((jwF bl).xs, (jwF bl).er) from rfl] at hN1
  have hN2 := fun (B : Nat) (hB : w5.heap.size ≤ B) (X : World) (hX : Below w5.heap.size w5 X) (hBX : B ≤ X.heap.size) => jnew_anyG A4 L c4 B bl X ((HR5.out X hX).more hB) hBX HBY.out (by omega)
  generalize jwF bl = W at *
  generalize jnewF bl = s0 at *
  have hxs : W.xs = x := by rw [HW.out]
  have her : W.er = 0 := by rw [HW.out]
  have HER := Lib.hid her
  have HXS := Lib.hid hxs
  unfold RetWh at hWD
  unfold RetItG at hN1
  simp only at hWD hN1
  rw [hxs, her, HLX.out, show errV 0 = .nilIface from rfl] at hWD
  have HT := Lib.hid hT
  have HN2 := Lib.hid hN2
  have HN1 := Lib.hid hN1
  clear hT hT5 hr5 hsm hxs her hN1 hN2
  go_wp2_with fail
  refine hWD.mono ?_
  rintro e w6 ⟨A6, c6, rfl, ho6⟩
  have hb56 := ho6.bel
  have hm6 := ho6.rd
  have hx6 := (hx5.below hb56).more hb56.size
  have hb6 := hb5.trans (hb56.mono hb5.size)
  have hN1 := HN1.out w6 hb56
  have HB56 := Lib.hid hb56
  clear hWD ho6 hx5 hb5 hb56
  go_wp2_with fail
  refine hN1.mono ?_
  rintro e w7 ⟨g1, A5, c5, rfl, hg1, y1, q1, hb7, _⟩
  have hN2 := HN2.out w6.heap.size HB56.out.size w7 (HB56.out.trans (hb7.mono HB56.out.size)) hb7.size
  clear hN1
  go_wp2_with fail
  refine hN2.mono ?_
  rintro e w8 ⟨g2, rfl, hg2, hj, hb8⟩
  have hD := duo_new HT.out hb6 hg1 y1 q1 hb7 hg1 hg2 hj HAT.out hb8
  have hf : DuoFix w W g1 g2 := ⟨Nat.le_trans hb6.size hg1, Nat.lt_of_lt_of_le y1.lt hg2, isErr_v _, by rw [HW.out]; exact ⟨by have := HMY.out; show manyQ (1 + p) x ≤ 100000; omega, Nat.zero_le _⟩, by rw [HXS.out]; exact HRX.out, by rw [HXS.out, HLX.out]; omega, by rw [HXS.out]; exact HFT.out, HT.out.lt⟩
  have hx8 : RdQ w8 g1 Ax lx cx x := ((hx6.below hb7).below (hb8.mono hb7.size)).more hg1
  have hm8 : RdQ w8 g1 A6 lx c6 x := ((hm6.below hb7).below (hb8.mono hb7.size)).more hg1
  have hll : W.xs.length = lx := by rw [HXS.out, HLX.out]
  have HLL := Lib.hid hll
  have hl1 := hD.lt1 hf
  clear hN2 y1 q1 hb7 hg2 hj hb8 hg1 hx6 hm6 hb6 hll
  have hSm := same_any A6 Ax lx c6 lx cx x x w8 (hm8.more (Nat.le_of_lt hl1)) (hx8.more (Nat.le_of_lt hl1)) (by omega) (by omega)
  go_wp2_with fail
  refine hSm.mono ?_
  rintro e w9 ⟨⟨b, rfl, hbt⟩, hb9⟩
  obtain rfl := hbt.2 trivial
  have hD9 := hD.go hf hb9
  have hx9 := hx8.below (hb9.mono (Nat.le_of_lt hl1))
  clear hSm hD hb9 hx8 hm8 hl1 hbt
  have hca := col_all W.xs
  rw [HLL.out] at hca
  have hC1 := collect_any hf.xs (Duo g1 g2) (-1) ((lx : Int) + 1) false w9 hD9.sc (hD9.inP hf) (by omega)
  rw [hca.1, hca.2.1, hca.2.2] at hC1
  unfold RetCol at hC1
  rw [HLL.out] at hC1
  have HCA := Lib.hid hca
  clear hca
  have hwl : IntKind.i64.wrap ((lx : Int) + 1) = (lx : Int) + 1 := IntWalk.i64_in _ (by omega)
  simp only [if_true] at *
  go_wp2_with fail
  refine hC1.mono ?_
  rintro e w10 ⟨A7, c7, rfl, hq7, hi7, hg7, hn7⟩
  have hD10 := hD9.step1 hf hg7 hi7
  have hx10 := hx9.nextTo hg7 (Nat.le_refl _)
  have hlt2 : g2 < w9.heap.size := hD9.inP hf g2 (.inr rfl)
  have hne7 : ∀ ad, A7 = some ad → ad.block ≠ g2 := fun ad e => by have := hn7 ad e; omega
  clear hC1 hi7 hg7 hn7 hx9 hD9 hlt2
  have hC2 := collect_any hf.xj (Duo g1 g2) (-1) ((lx : Int) + 1) false w10 hD10.jp (hD10.inP hf) (by omega)
  rw [HCA.out.1, HCA.out.2.1, HCA.out.2.2] at hC2
  unfold RetCol at hC2
  rw [HLL.out] at hC2
  go_wp2_with fail
  refine hC2.mono ?_
  rintro e w11 ⟨A8, c8, rfl, hq8, hi8, hg8, _⟩
  have hD11 := hD10.step2 hf hg8 hi8
  have hx11 := hx10.nextTo hg8 (Nat.le_of_lt hf.l2)
  have hq7' := (hq7.farP hg8 (fun _ ad e e' => hne7 ad e (by injection e' with e'; exact e'.symm))).more hg8.size
  clear hC2 hi8 hg8 hx10 hD10 hq7 hne7
  rw [HXS.out] at hq7' hq8
  obtain ⟨⟨sj, hj, hat⟩, _⟩ := hD11.jp
  obtain ⟨ck, hck⟩ : ∃ ck : Nat, manyQ (1 + p) x = ck := ⟨_, rfl⟩
  have hsj : sj.ck = ck := by
    have h1 := hat.count.1 rfl
    rw [HW.out] at h1
    simp only at h1
    rw [cums_length, parts_length, hck] at h1
    omega
  have hdv : ck = (lx + (1 + p) - 1) / (1 + p) := by rw [← hck]; exact HMY.out.2
  have hlt1 := hD11.lt1 hf
  have hC1 : ∀ X, Below w11.heap.size w11 X → Calls Tryz.prog 26 #[.slice A7 lx c7, .slice Ax lx cx] X fun e w' => e = .returned (.int .i64 1) ∧ Below w11.heap.size w11 w' := fun X hX =>
    (same_any A7 Ax lx c7 lx cx x x X ((hq7'.below hX).more hX.size) ((hx11.below (hX.mono (Nat.le_of_lt hlt1))).more (Nat.le_trans (Nat.le_of_lt hlt1) hX.size)) (by omega) (by omega)).mono (by
      rintro e w' ⟨⟨b, rfl, hb⟩, hbw⟩
      obtain rfl := hb.2 rfl
      exact ⟨rfl, hX.trans (hbw.mono hX.size)⟩)
  have hC2 : ∀ X, Below w11.heap.size w11 X → Calls Tryz.prog 26 #[.slice A8 lx c8, .slice Ax lx cx] X fun e w' => e = .returned (.int .i64 1) ∧ Below w11.heap.size w11 w' := fun X hX =>
    (same_any A8 Ax lx c8 lx cx x x X ((hq8.below hX).more hX.size) ((hx11.below (hX.mono (Nat.le_of_lt hlt1))).more (Nat.le_trans (Nat.le_of_lt hlt1) hX.size)) (by omega) (by omega)).mono (by
      rintro e w' ⟨⟨b, rfl, hb⟩, hbw⟩
      obtain rfl := hb.2 rfl
      exact ⟨rfl, hX.trans (hbw.mono hX.size)⟩)
  have hC3 : ∀ X, Below w11.heap.size w11 X → Calls Tryz.prog 17 #[.pointer (some ⟨g1, 0, none⟩)] X fun e w' => e = .returned .nilIface ∧ Below w11.heap.size w11 w' := fun X hX =>
    (duo_err1 hf (hD11.go hf hX)).mono (by
      rintro e w' ⟨rfl, hbw⟩
      exact ⟨by rw [HER.out]; rfl, hX.trans (hbw.mono hX.size)⟩)
  have hC4 : ∀ X, Below w11.heap.size w11 X → Calls Tryz.prog 27 #[.pointer (some ⟨g2, 0, none⟩)] X fun e w' => e = .returned .nilIface ∧ Below w11.heap.size w11 w' := fun X hX =>
    (duo_err2 (hD11.go hf hX)).mono (by
      rintro e w' ⟨rfl, hbw⟩
      exact ⟨by rw [HER.out]; rfl, hX.trans (hbw.mono hX.size)⟩)
  have hC5 : ∀ X, Below w11.heap.size w11 X → Calls Tryz.prog 28 #[.pointer (some ⟨g2, 0, none⟩)] X fun e w' => e = .returned (.int .i64 (ck : Int)) ∧ Below w11.heap.size w11 w' := fun X hX =>
    (jck_any _ g2 sj X (hj.below hX)).mono (by
      rintro e w' ⟨rfl, hbw⟩
      exact ⟨by rw [hsj], hX.trans (hbw.mono hX.size)⟩)
  have hw1 : IntKind.i64.wrap ((lx : Int) + (1 + (p : Int))) = (lx : Int) + (1 + (p : Int)) := IntWalk.i64_in _ (by omega)
  have hw2 : IntKind.i64.wrap ((lx : Int) + (1 + (p : Int)) - 1) = (lx : Int) + (1 + (p : Int)) - 1 := IntWalk.i64_in _ (by omega)
  have hcl : ck ≤ 100 := by rw [← hck]; exact HMY.out.1
  have hw4 : ((lx : Int) + (1 + (p : Int)) - 1).tdiv (1 + (p : Int)) = (ck : Int) := by
    rw [show (lx : Int) + (1 + (p : Int)) - 1 = ((lx + (1 + p) - 1 : Nat) : Int) by omega, show 1 + (p : Int) = ((1 + p : Nat) : Int) by omega, hdv]
    rfl
  have hw3 : IntKind.i64.wrap (((lx : Int) + (1 + (p : Int)) - 1).tdiv (1 + (p : Int))) = (ck : Int) := by rw [hw4]; exact IntWalk.i64_in _ (by omega)
  have hw5 : IntKind.i64.wrap (ck : Int) = (ck : Int) := IntWalk.i64_in _ (by omega)
  have hnz : (1 + (p : Int) == 0) = false := by simp; omega
  have hnz2 : ¬ 1 + (p : Int) = 0 := by omega
  have HBEL := Lib.hid hD11.bel
  have HPL := Lib.hid (And.intro hpm hlx2)
  clear hq7' hq8 hx11 hj hat hsj hdv hcl hlt1 hck hwl hD11
  go_upto_region 21 with fail
  refine wp_region_held_drew (S := fun w' => Below w11.heap.size w11 w') (by kernel_rfl) ((Below.refl _ _).drew) (fun hSn => ?_)
  refine wpAnyH_take (i := 0) (v := .bool true) rfl (by kernel_rfl) (by kernel_rfl) (by kernel_rfl) (fun _ _ _ h => h) (Or.inl ⟨by rfl, fun w hSw => by go_simp⟩) (by assumption) ?_
  simp only [Act.put, List.setIfInBounds_toArray, List.set_cons_zero, List.set_cons_succ, List.getElem_toArray, List.getElem_cons_zero]
  refine wpAnyH_take (i := 1) (v := .bool true) rfl (by kernel_rfl) (by kernel_rfl) (by kernel_rfl) (fun _ _ _ h => h) (Or.inl ⟨by rfl, fun w hSw => by go_simp⟩) (by assumption) ?_
  simp only [Act.put, List.setIfInBounds_toArray, List.set_cons_zero, List.set_cons_succ, List.getElem_toArray, List.getElem_cons_succ, List.getElem_cons_zero]
  refine wpAnyH_take (i := 2) (v := .slice A7 lx c7) rfl (by kernel_rfl) (by kernel_rfl) (by kernel_rfl) (fun _ _ _ h => h) (Or.inl ⟨by rfl, fun w hSw => by go_simp⟩) (by assumption) ?_
  simp only [Act.put, List.setIfInBounds_toArray, List.set_cons_zero, List.set_cons_succ, List.getElem_toArray, List.getElem_cons_succ, List.getElem_cons_zero]
  refine wpAnyH_take (i := 3) (v := .slice Ax lx cx) rfl (by kernel_rfl) (by kernel_rfl) (by kernel_rfl) (fun _ _ _ h => h) (Or.inl ⟨by rfl, fun w hSw => by go_simp⟩) (by assumption) ?_
  simp only [Act.put, List.setIfInBounds_toArray, List.set_cons_zero, List.set_cons_succ, List.getElem_toArray, List.getElem_cons_succ, List.getElem_cons_zero]
  refine wpAnyH_ready (rs := [4]) (by kernel_rfl) (by simp) ?_
  refine AllReadyH.cons rfl (fun K hK => ?_) AllReadyH.nil
  go_simp
  refine (hC1 _ hSn).mono ?_
  rintro e v1 ⟨rfl, hb1⟩
  refine hK.out _ _ hb1 (fun hS1 => ?_)
  clear hK K hC1
  try simp only [Act.put, List.setIfInBounds_toArray, List.set_cons_zero, List.set_cons_succ, List.getElem_toArray, List.getElem_cons_succ, List.getElem_cons_zero]
  refine wpAnyH_take (i := 5) (v := .bool true) rfl (by kernel_rfl) (by kernel_rfl) (by kernel_rfl) (fun _ _ _ h => h) (Or.inl ⟨by rfl, fun w hSw => by go_simp⟩) (by assumption) ?_
  simp only [Act.put, List.setIfInBounds_toArray, List.set_cons_zero, List.set_cons_succ, List.getElem_toArray, List.getElem_cons_succ, List.getElem_cons_zero]
  refine wpAnyH_take (i := 6) (v := .bool true) rfl (by kernel_rfl) (by kernel_rfl) (by kernel_rfl) (fun _ _ _ h => h) (Or.inl ⟨by rfl, fun w hSw => by go_simp⟩) (by assumption) ?_
  simp only [Act.put, List.setIfInBounds_toArray, List.set_cons_zero, List.set_cons_succ, List.getElem_toArray, List.getElem_cons_succ, List.getElem_cons_zero]
  refine wpAnyH_take (i := 7) (v := .bool true) rfl (by kernel_rfl) (by kernel_rfl) (by kernel_rfl) (fun _ _ _ h => h) (Or.inl ⟨by rfl, fun w hSw => by go_simp⟩) (by assumption) ?_
  simp only [Act.put, List.setIfInBounds_toArray, List.set_cons_zero, List.set_cons_succ, List.getElem_toArray, List.getElem_cons_succ, List.getElem_cons_zero]
  refine wpAnyH_take (i := 8) (v := .slice A8 lx c8) rfl (by kernel_rfl) (by kernel_rfl) (by kernel_rfl) (fun _ _ _ h => h) (Or.inl ⟨by rfl, fun w hSw => by go_simp⟩) (by assumption) ?_
  simp only [Act.put, List.setIfInBounds_toArray, List.set_cons_zero, List.set_cons_succ, List.getElem_toArray, List.getElem_cons_succ, List.getElem_cons_zero]
  refine wpAnyH_take (i := 9) (v := .slice Ax lx cx) rfl (by kernel_rfl) (by kernel_rfl) (by kernel_rfl) (fun _ _ _ h => h) (Or.inl ⟨by rfl, fun w hSw => by go_simp⟩) (by assumption) ?_
  simp only [Act.put, List.setIfInBounds_toArray, List.set_cons_zero, List.set_cons_succ, List.getElem_toArray, List.getElem_cons_succ, List.getElem_cons_zero]
  refine wpAnyH_ready (rs := [10]) (by kernel_rfl) (by simp) ?_
  refine AllReadyH.cons rfl (fun K hK => ?_) AllReadyH.nil
  go_simp
  refine (hC2 _ hS1).mono ?_
  rintro e v2 ⟨rfl, hb2⟩
  refine hK.out _ _ hb2 (fun hS2 => ?_)
  clear hK K hC2
  try simp only [Act.put, List.setIfInBounds_toArray, List.set_cons_zero, List.set_cons_succ, List.getElem_toArray, List.getElem_cons_succ, List.getElem_cons_zero]
  refine wpAnyH_take (i := 11) (v := .bool true) rfl (by kernel_rfl) (by kernel_rfl) (by kernel_rfl) (fun _ _ _ h => h) (Or.inl ⟨by rfl, fun w hSw => by go_simp⟩) (by assumption) ?_
  simp only [Act.put, List.setIfInBounds_toArray, List.set_cons_zero, List.set_cons_succ, List.getElem_toArray, List.getElem_cons_succ, List.getElem_cons_zero]
  refine wpAnyH_take (i := 12) (v := .bool true) rfl (by kernel_rfl) (by kernel_rfl) (by kernel_rfl) (fun _ _ _ h => h) (Or.inl ⟨by rfl, fun w hSw => by go_simp⟩) (by assumption) ?_
  simp only [Act.put, List.setIfInBounds_toArray, List.set_cons_zero, List.set_cons_succ, List.getElem_toArray, List.getElem_cons_succ, List.getElem_cons_zero]
  refine wpAnyH_take (i := 13) (v := .bool true) rfl (by kernel_rfl) (by kernel_rfl) (by kernel_rfl) (fun _ _ _ h => h) (Or.inl ⟨by rfl, fun w hSw => by go_simp⟩) (by assumption) ?_
  simp only [Act.put, List.setIfInBounds_toArray, List.set_cons_zero, List.set_cons_succ, List.getElem_toArray, List.getElem_cons_succ, List.getElem_cons_zero]
  refine wpAnyH_take (i := 14) (v := .pointer (some ⟨g1, 0, none⟩)) rfl (by kernel_rfl) (by kernel_rfl) (by kernel_rfl) (fun _ _ _ h => h) (Or.inl ⟨by rfl, fun w hSw => by go_simp⟩) (by assumption) ?_
  simp only [Act.put, List.setIfInBounds_toArray, List.set_cons_zero, List.set_cons_succ, List.getElem_toArray, List.getElem_cons_succ, List.getElem_cons_zero]
  refine wpAnyH_ready (rs := [15]) (by kernel_rfl) (by simp) ?_
  refine AllReadyH.cons rfl (fun K hK => ?_) AllReadyH.nil
  go_simp
  refine (hC3 _ hS2).mono ?_
  rintro e v3 ⟨rfl, hb3⟩
  refine hK.out _ _ hb3 (fun hS3 => ?_)
  clear hK K hC3
  try simp only [Act.put, List.setIfInBounds_toArray, List.set_cons_zero, List.set_cons_succ, List.getElem_toArray, List.getElem_cons_succ, List.getElem_cons_zero]
  refine wpAnyH_take (i := 16) (v := .bool true) rfl (by kernel_rfl) (by kernel_rfl) (by kernel_rfl) (fun _ _ _ h => h) (Or.inl ⟨by rfl, fun w hSw => by go_simp⟩) (by assumption) ?_
  simp only [Act.put, List.setIfInBounds_toArray, List.set_cons_zero, List.set_cons_succ, List.getElem_toArray, List.getElem_cons_succ, List.getElem_cons_zero]
  refine wpAnyH_take (i := 17) (v := .bool true) rfl (by kernel_rfl) (by kernel_rfl) (by kernel_rfl) (fun _ _ _ h => h) (Or.inl ⟨by rfl, fun w hSw => by go_simp⟩) (by assumption) ?_
  simp only [Act.put, List.setIfInBounds_toArray, List.set_cons_zero, List.set_cons_succ, List.getElem_toArray, List.getElem_cons_succ, List.getElem_cons_zero]
  refine wpAnyH_take (i := 18) (v := .bool true) rfl (by kernel_rfl) (by kernel_rfl) (by kernel_rfl) (fun _ _ _ h => h) (Or.inl ⟨by rfl, fun w hSw => by go_simp⟩) (by assumption) ?_
  simp only [Act.put, List.setIfInBounds_toArray, List.set_cons_zero, List.set_cons_succ, List.getElem_toArray, List.getElem_cons_succ, List.getElem_cons_zero]
  refine wpAnyH_take (i := 19) (v := .pointer (some ⟨g2, 0, none⟩)) rfl (by kernel_rfl) (by kernel_rfl) (by kernel_rfl) (fun _ _ _ h => h) (Or.inl ⟨by rfl, fun w hSw => by go_simp⟩) (by assumption) ?_
  simp only [Act.put, List.setIfInBounds_toArray, List.set_cons_zero, List.set_cons_succ, List.getElem_toArray, List.getElem_cons_succ, List.getElem_cons_zero]
  refine wpAnyH_ready (rs := [20]) (by kernel_rfl) (by simp) ?_
  refine AllReadyH.cons rfl (fun K hK => ?_) AllReadyH.nil
  go_simp
  refine (hC4 _ hS3).mono ?_
  rintro e v4 ⟨rfl, hb4⟩
  refine hK.out _ _ hb4 (fun hS4 => ?_)
  clear hK K hC4
  try simp only [Act.put, List.setIfInBounds_toArray, List.set_cons_zero, List.set_cons_succ, List.getElem_toArray, List.getElem_cons_succ, List.getElem_cons_zero]
  refine wpAnyH_take (i := 21) (v := .bool true) rfl (by kernel_rfl) (by kernel_rfl) (by kernel_rfl) (fun _ _ _ h => h) (Or.inl ⟨by rfl, fun w hSw => by go_simp⟩) (by assumption) ?_
  simp only [Act.put, List.setIfInBounds_toArray, List.set_cons_zero, List.set_cons_succ, List.getElem_toArray, List.getElem_cons_succ, List.getElem_cons_zero]
  refine wpAnyH_take (i := 22) (v := .bool true) rfl (by kernel_rfl) (by kernel_rfl) (by kernel_rfl) (fun _ _ _ h => h) (Or.inl ⟨by rfl, fun w hSw => by go_simp⟩) (by assumption) ?_
  simp only [Act.put, List.setIfInBounds_toArray, List.set_cons_zero, List.set_cons_succ, List.getElem_toArray, List.getElem_cons_succ, List.getElem_cons_zero]
  refine wpAnyH_take (i := 23) (v := .bool true) rfl (by kernel_rfl) (by kernel_rfl) (by kernel_rfl) (fun _ _ _ h => h) (Or.inl ⟨by rfl, fun w hSw => by go_simp⟩) (by assumption) ?_
  simp only [Act.put, List.setIfInBounds_toArray, List.set_cons_zero, List.set_cons_succ, List.getElem_toArray, List.getElem_cons_succ, List.getElem_cons_zero]
  refine wpAnyH_take (i := 24) (v := .pointer (some ⟨g2, 0, none⟩)) rfl (by kernel_rfl) (by kernel_rfl) (by kernel_rfl) (fun _ _ _ h => h) (Or.inl ⟨by rfl, fun w hSw => by go_simp⟩) (by assumption) ?_
  simp only [Act.put, List.setIfInBounds_toArray, List.set_cons_zero, List.set_cons_succ, List.getElem_toArray, List.getElem_cons_succ, List.getElem_cons_zero]
  refine wpAnyH_take (i := 26) (v := .slice Ax lx cx) rfl (by kernel_rfl) (by kernel_rfl) (by kernel_rfl) (fun _ _ _ h => h) (Or.inl ⟨by rfl, fun w hSw => by go_simp⟩) (by assumption) ?_
  simp only [Act.put, List.setIfInBounds_toArray, List.set_cons_zero, List.set_cons_succ, List.getElem_toArray, List.getElem_cons_succ, List.getElem_cons_zero]
  refine wpAnyH_take (i := 27) (v := .int .i64 (lx : Int)) rfl (by kernel_rfl) (by kernel_rfl) (by kernel_rfl) (fun _ _ _ h => h) (Or.inl ⟨by rfl, fun w hSw => by go_simp⟩) (by assumption) ?_
  simp only [Act.put, List.setIfInBounds_toArray, List.set_cons_zero, List.set_cons_succ, List.getElem_toArray, List.getElem_cons_succ, List.getElem_cons_zero]
  refine wpAnyH_take (i := 28) (v := .int .i64 (1 + (p : Int))) rfl (by kernel_rfl) (by kernel_rfl) (by kernel_rfl) (fun _ _ _ h => h) (Or.inl ⟨by rfl, fun w hSw => by go_simp⟩) (by assumption) ?_
  simp only [Act.put, List.setIfInBounds_toArray, List.set_cons_zero, List.set_cons_succ, List.getElem_toArray, List.getElem_cons_succ, List.getElem_cons_zero]
  refine wpAnyH_take (i := 29) (v := .int .i64 ((lx : Int) + (1 + (p : Int)))) rfl (by kernel_rfl) (by kernel_rfl) (by kernel_rfl) (fun _ _ _ h => h) (Or.inl ⟨by rfl, fun w hSw => by go_simp⟩) (by assumption) ?_
  simp only [Act.put, List.setIfInBounds_toArray, List.set_cons_zero, List.set_cons_succ, List.getElem_toArray, List.getElem_cons_succ, List.getElem_cons_zero]
  refine wpAnyH_take (i := 30) (v := .int .i64 ((lx : Int) + (1 + (p : Int)) - 1)) rfl (by kernel_rfl) (by kernel_rfl) (by kernel_rfl) (fun _ _ _ h => h) (Or.inl ⟨by rfl, fun w hSw => by go_simp⟩) (by assumption) ?_
  simp only [Act.put, List.setIfInBounds_toArray, List.set_cons_zero, List.set_cons_succ, List.getElem_toArray, List.getElem_cons_succ, List.getElem_cons_zero]
  refine wpAnyH_take (i := 31) (v := .int .i64 (1 + (p : Int))) rfl (by kernel_rfl) (by kernel_rfl) (by kernel_rfl) (fun _ _ _ h => h) (Or.inl ⟨by rfl, fun w hSw => by go_simp⟩) (by assumption) ?_
  simp only [Act.put, List.setIfInBounds_toArray, List.set_cons_zero, List.set_cons_succ, List.getElem_toArray, List.getElem_cons_succ, List.getElem_cons_zero]
  refine wpAnyH_take (i := 32) (v := .int .i64 (ck : Int)) rfl (by kernel_rfl) (by kernel_rfl) (by kernel_rfl) (fun _ _ _ h => h) (Or.inl ⟨by rfl, fun w hSw => by go_simp⟩) (by assumption) ?_
  simp only [Act.put, List.setIfInBounds_toArray, List.set_cons_zero, List.set_cons_succ, List.getElem_toArray, List.getElem_cons_succ, List.getElem_cons_zero]
  refine wpAnyH_ready (rs := [25]) (by kernel_rfl) (by simp) ?_
  refine AllReadyH.cons rfl (fun K hK => ?_) AllReadyH.nil
  go_simp
  refine (hC5 _ hS4).mono ?_
  rintro e v5 ⟨rfl, hb5⟩
  refine hK.out _ _ hb5 (fun hS5 => ?_)
  clear hK K hC5
  try simp only [Act.put, List.setIfInBounds_toArray, List.set_cons_zero, List.set_cons_succ, List.getElem_toArray, List.getElem_cons_succ, List.getElem_cons_zero]
  refine wpAnyH_take (i := 33) (v := .bool true) rfl (by kernel_rfl) (by kernel_rfl) (by kernel_rfl) (fun _ _ _ h => h) (Or.inl ⟨by rfl, fun w hSw => by go_simp⟩) (by assumption) ?_
  simp only [Act.put, List.setIfInBounds_toArray, List.set_cons_zero, List.set_cons_succ, List.getElem_toArray, List.getElem_cons_succ, List.getElem_cons_zero]
  refine wpAnyH_take (i := 34) (v := .bool true) rfl (by kernel_rfl) (by kernel_rfl) (by kernel_rfl) (fun _ _ _ h => h) (Or.inl ⟨by rfl, fun w hSw => by go_simp⟩) (by assumption) ?_
  simp only [Act.put, List.setIfInBounds_toArray, List.set_cons_zero, List.set_cons_succ, List.getElem_toArray, List.getElem_cons_succ, List.getElem_cons_zero]
  refine wpAnyH_take (i := 35) (v := .bool true) rfl (by kernel_rfl) (by kernel_rfl) (by kernel_rfl) (fun _ _ _ h => h) (Or.inl ⟨by rfl, fun w hSw => by go_simp⟩) (by assumption) ?_
  simp only [Act.put, List.setIfInBounds_toArray, List.set_cons_zero, List.set_cons_succ, List.getElem_toArray, List.getElem_cons_succ, List.getElem_cons_zero]
  refine wpAnyH_done (by kernel_rfl) ?_ _
  all_goals
    go_wp2_with fail
    go_ret
    exact ⟨rfl, HBEL.out.trans (hb5.mono HBEL.out.size)⟩

theorem tback_all (i : Bool) (A1 : Option Addr) (m1 c1 : Nat) (s : Int) (xs : List (Int × Nat)) (w : World) (h1 : RdQ w w.heap.size A1 m1 c1 xs) (hl : m1 ≤ 9223372036854775807) (hR : RoomW w) (hZ : RowsW w) (hT : TzW w) :
    Calls Tryz.prog 4 #[.bool i, .slice A1 m1 c1, .int .i64 s] w (RetTrue w) := by
  by_cases hs : m1 ≤ 100
  · exact tback_in i A1 m1 c1 s xs w h1 hs ⟨hR, hZ, hT⟩
  · exact tback_big i A1 m1 c1 s w hl (by omega) ⟨hR, hZ, hT⟩

end Go.Proofs.YtbocpgffddkfdaaGreatDoor
