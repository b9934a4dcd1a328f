/-
  PackSizes, walked: it returns true, whatever the arguments.
-/
import Derived.Test.YtkndoalnlldolaaDoorPackUp
import Derived.Test.YtkndoalnlldolaaDoorRising
import Derived.Test.YtkndoalnlldolaaDoorSame
import Derived.Test.YtkndoalnlldolaaDoorWords
import Derived.Test.YtkndoalnlldolaaDoorPick
import Derived.Deep.RegionHeld3
import Derived.Deep.DeepCutAuto
namespace Go.Proofs.YtkndoalnlldolaaDoor
open Go.RowKit

set_option maxRecDepth 20000 in
set_option maxHeartbeats 1000000 in
theorem psizes_big (i : Bool) (A1 A2 : Option Addr) (m1 c1 m2 c2 : Nat) (s r : Int) (w : World) (_hl : m1 ≤ 9223372036854775807 ∧ m2 ≤ 9223372036854775807) (h : 100 < m1 ∨ (m1 ≤ 100 ∧ 100 < m2)) (hR : RoomW w) (hT : TzW w) :
    Calls Tryd.prog 4 #[.bool i, .slice A1 m1 c1, .slice A2 m2 c2, .int .i64 s, .int .i64 r] w (RetTrue w) := by
  rcases h with h | h
  all_goals
    go_enter Tryd.func4, Tryd.ntmps4
    go_wp2_with (go_at_call 5; refine (up15_any _ hR hT).mono ?_; rintro e w1 ⟨rfl, hb1⟩)
    go_ret
    exact ⟨rfl, hb1⟩

/-- Pack, where nothing is amiss -/
def RetBlk (w : World) (k S : Nat) (xs : List (Int × Nat)) (e : Ending) (w' : World) : Prop :=
  ∃ A c, e = .returned (.tuple #[.slice A (blockB k S xs).length c, .nilIface]) ∧ Own w w' (.slice A (blockB k S xs).length c) (blockB k S xs)
theorem pack_good (k S : Nat) (z : Int) (hz : z = (S : Int)) (A : Option Addr) (n c : Nat) (xs : List (Int × Nat)) (w : World) (h : RdQ w w.heap.size A n c xs) (hn : n ≤ 5000) (hk : k = 1 ∨ k = 2) (h1 : 1 ≤ S) (h2 : S ≤ 65535) (hr : Rises xs) (hR : RoomW w) (hT : TzW w) :
    Calls Tryd.prog 6 #[.int .i64 (k : Int), .slice A n c, .int .i64 z] w (RetBlk w k S xs) := by
  subst hz
  exact (pack_any (k : Int) (S : Int) A n c xs w h hn hR hT).mono (by
    rintro e w' ⟨er, A', c', her, rfl, ho⟩
    obtain rfl := her.same (.inr ⟨by omega, .inr ⟨k, rfl, hk, .inr ⟨hr, rfl⟩⟩⟩)
    exact ⟨A', c', rfl, ho⟩)

set_option maxRecDepth 20000 in
set_option maxHeartbeats 8000000 in
theorem psizes_in (i : Bool) (A1 A2 : Option Addr) (m1 c1 m2 c2 : Nat) (s r : Int) (xs ys : List (Int × Nat)) (w : World) (h1 : RdQ w w.heap.size A1 m1 c1 xs) (h2 : RdQ w w.heap.size A2 m2 c2 ys) (hm1 : m1 ≤ 100) (hm2 : m2 ≤ 100) (hR : RoomW w) (hT : TzW w) :
    Calls Tryd.prog 4 #[.bool i, .slice A1 m1 c1, .slice A2 m2 c2, .int .i64 s, .int .i64 r] w (RetTrue w) := by
  go_enter Tryd.func4, Tryd.ntmps4
  go_wp2_with fail
  refine (up15_any w hR hT).mono ?_
  rintro e w1 ⟨rfl, hb1⟩
  obtain ⟨k, hkk⟩ : ∃ k : Nat, k = if i then 2 else 1 := ⟨_, rfl⟩
  have hk : k = 1 ∨ k = 2 := by rw [hkk]; cases i <;> simp
  go_upto_if 34 with fail
  go_cut [12] (fun x wx => x = .int .i64 (k : Int) ∧ wx = w1)
  case first =>
    cases i
    all_goals
      subst hkk
      go_wp2_with fail
      go_meet
      exact ⟨rfl, rfl⟩
  case rest =>
  obtain ⟨rfl, rfl⟩ := hcut
  rename World => w1
  clear hkk
  go_wp2_with fail
  refine (rising_any A1 m1 c1 xs w1 ((h1.below hb1).more hb1.size) (by omega)).mono ?_
  rintro e w2 ⟨x, Ax, cx, rfl, hox, hrx, hlx⟩
  have hb2 := hb1.trans (hox.bel.mono hb1.size)
  have hx2 := hox.rd
  clear hox h1 hb1
  go_wp2_with fail
  refine (rising_any A2 m2 c2 ys w2 ((h2.below hb2).more hb2.size) (by omega)).mono ?_
  rintro e w3 ⟨y, Ay, cy, rfl, hoy, hry, hly⟩
  have hb3 := hb2.trans (hoy.bel.mono hb2.size)
  have hy3 := hoy.rd
  have hx3 := (hx2.below hoy.bel).more hoy.bel.size
  clear hoy h2 hb2 hx2
  have HX := Lib.hid hx3.all
  have HY := Lib.hid hy3.all
  have HRX : Hid (Rises x) := Lib.hid hrx
  have HRY : Hid (Rises y) := Lib.hid hry
  obtain ⟨lx, hlx'⟩ : ∃ l, x.length = l := ⟨_, rfl⟩
  obtain ⟨ly, hly'⟩ : ∃ l, y.length = l := ⟨_, rfl⟩
  rw [hlx'] at hx3 hlx ⊢
  rw [hly'] at hy3 hly ⊢
  have HLX := Lib.hid hlx'
  have HLY := Lib.hid hly'
  have hlx2 : lx ≤ 100 := by omega
  have hly2 : ly ≤ 100 := by omega
  clear hrx hry hlx' hly' hlx hly
  obtain ⟨p, hp⟩ : ∃ p : Nat, s % 120 = (p : Int) := ⟨(s % 120).toNat, by have := Int.emod_nonneg s (show (120 : Int) ≠ 0 by omega); omega⟩
  have hpm : p < 120 := by have := Int.emod_lt_of_pos s (show (0 : Int) < 120 by omega); omega
  have hP := fun X => pick_any s 120 X (by omega) (by omega)
  rw [hp] at hP
  clear hp
  go_wp2_with fail
  refine (hP _).mono ?_
  rintro e w4 ⟨rfl, rfl⟩
  clear hP
  go_wp2_with fail
  refine (pack_good k (1 + p) _ (by simp) Ax lx cx x _ hx3 (by omega) hk (by omega) (by omega) HRX.out (hR.bel hb3) (hT.bel hb3)).mono ?_
  rintro e w4 ⟨A4, c4, rfl, ho4⟩
  have hb4 := hb3.trans (ho4.bel.mono hb3.size)
  have hx4 := (hx3.below ho4.bel).more ho4.bel.size
  have hy4 := (hy3.below ho4.bel).more ho4.bel.size
  have ha4 := ho4.rd
  clear ho4 hb3 hx3 hy3
  go_wp2_with fail
  refine (pack_good k (1 + p) _ (by simp) Ay ly cy y _ hy4 (by omega) hk (by omega) (by omega) HRY.out (hR.bel hb4) (hT.bel hb4)).mono ?_
  rintro e w5 ⟨A5, c5, rfl, ho5⟩
  have hb5 := hb4.trans (ho5.bel.mono hb4.size)
  have hx5 := (hx4.below ho5.bel).more ho5.bel.size
  have hy5 := (hy4.below ho5.bel).more ho5.bel.size
  have ha5 := (ha4.below ho5.bel).more ho5.bel.size
  have hbb5 := ho5.rd
  clear ho5 hb4 hx4 hy4 ha4
  go_wp2_with fail
  refine (pack_good k (1 + lx) _ (by simp) Ax lx cx x _ hx5 (by omega) hk (by omega) (by omega) HRX.out (hR.bel hb5) (hT.bel hb5)).mono ?_
  rintro e w6 ⟨A6, c6, rfl, ho6⟩
  have hb6 := hb5.trans (ho6.bel.mono hb5.size)
  have hx6 := (hx5.below ho6.bel).more ho6.bel.size
  have hy6 := (hy5.below ho6.bel).more ho6.bel.size
  have ha6 := (ha5.below ho6.bel).more ho6.bel.size
  have hbb6 := (hbb5.below ho6.bel).more ho6.bel.size
  have hc6 := ho6.rd
  clear ho6 hb5 hx5 hy5 ha5 hbb5
  obtain ⟨t, ht⟩ : ∃ t : Nat, r % 60000 = (t : Int) := ⟨(r % 60000).toNat, by have := Int.emod_nonneg r (show (60000 : Int) ≠ 0 by omega); omega⟩
  have htm : t < 60000 := by have := Int.emod_lt_of_pos r (show (0 : Int) < 60000 by omega); omega
  have hP := fun X => pick_any r 60000 X (by omega) (by omega)
  rw [ht] at hP
  clear ht
  go_wp2_with fail
  refine (hP _).mono ?_
  rintro e w7 ⟨rfl, rfl⟩
  clear hP
  go_wp2_with fail
  refine (pack_good k (1 + lx + t) _ (by simp) Ax lx cx x _ hx6 (by omega) hk (by omega) (by omega) HRX.out (hR.bel hb6) (hT.bel hb6)).mono ?_
  rintro e w7 ⟨A7, c7, rfl, ho7⟩
  have hb7 := hb6.trans (ho7.bel.mono hb6.size)
  have hx7 := (hx6.below ho7.bel).more ho7.bel.size
  have hy7 := (hy6.below ho7.bel).more ho7.bel.size
  have ha7 := (ha6.below ho7.bel).more ho7.bel.size
  have hbb7 := (hbb6.below ho7.bel).more ho7.bel.size
  have hc7 := (hc6.below ho7.bel).more ho7.bel.size
  have hd7 := ho7.rd
  clear ho7 hb6 hx6 hy6 ha6 hbb6 hc6
  rw [block_big (s := 1 + lx + t) (s' := 1 + lx) (by omega) (by rw [HLX.out]; omega) (by omega) (by rw [HLX.out]; omega)] at hd7 ⊢
  have HCA : Hid (lx ≤ 1 + p → blockB k (1 + p) x = blockB k (1 + lx) x) := Lib.hid (fun h => block_big (by omega) (by rw [HLX.out]; omega) (by omega) (by rw [HLX.out]; omega))
  have HCN : Hid (¬ lx ≤ 1 + p → blockB k (1 + p) x ≠ blockB k (1 + lx) x) := Lib.hid (fun h => block_less HX.out (by rw [HLX.out]; omega) (by omega) (by rw [HLX.out]; omega) (by omega) (by rw [HLX.out]; omega))
  have HAB : Hid (x ≠ y → blockB k (1 + p) x ≠ blockB k (1 + p) y) := Lib.hid (fun h e => h (block_same HX.out HY.out HRX.out HRY.out (by rw [HLX.out]; omega) (by rw [HLY.out]; omega) (by omega) e))
  have HAE : Hid (x = y → blockB k (1 + p) x = blockB k (1 + p) y) := Lib.hid (fun h => by rw [h])
  have hkl : k < 256 := by omega
  have HTA : Hid (∀ z ∈ blockB k (1 + p) x, z < 256) := Lib.hid (block_lt hkl)
  have HTB : Hid (∀ z ∈ blockB k (1 + p) y, z < 256) := Lib.hid (block_lt hkl)
  have HTC : Hid (∀ z ∈ blockB k (1 + lx) x, z < 256) := Lib.hid (block_lt hkl)
  generalize blockB k (1 + p) x = ba at *
  generalize blockB k (1 + p) y = bb at *
  generalize blockB k (1 + lx) x = bc at *
  obtain ⟨La, HLA⟩ : ∃ L, Hid (ba.length = L) := ⟨_, Lib.hid rfl⟩
  obtain ⟨Lb, HLB⟩ : ∃ L, Hid (bb.length = L) := ⟨_, Lib.hid rfl⟩
  obtain ⟨Lc, HLC⟩ : ∃ L, Hid (bc.length = L) := ⟨_, Lib.hid rfl⟩
  rw [HLA.out] at ha7 ⊢
  rw [HLB.out] at hbb7 ⊢
  rw [HLC.out] at hc7 hd7 ⊢
  go_upto_region 14 with fail
  go_cut [114] (fun x114 wx => x114 = .bool false ∧ wx = w7)
  case first =>
    have q1 := run_str ha7
    have q3 := run_str hc7
    have q4 := run_str hd7
    clear ha7 hbb7 hc7 hd7 hx7 hy7
    by_cases hn : lx ≤ 1 + p
    · have hni : (lx : Int) ≤ 1 + (p : Int) := by omega
      obtain rfl := HCA.out hn
      go_wp2_with fail
      go_meet
      exact ⟨by simp, rfl⟩
    · have hni : ¬ (lx : Int) ≤ 1 + (p : Int) := by omega
      have hss := strB_other HTA.out HTC.out (HCN.out hn)
      go_wp2_with fail
      go_meet
      exact ⟨by simp, rfl⟩
  case rest =>
  obtain ⟨rfl, rfl⟩ := hcut
  rename World => w7
  clear hc7 hd7
  go_upto_region 16 with fail
  have hd7 : Below w7.heap.size w7 w7.drew := by repeat (first | with_reducible exact Below.refl _ _ | with_reducible assumption | with_reducible refine Below.drew ?_ | with_reducible refine below_drewN ?_ _ | with_reducible refine Below.alloc ?_ (by (first | assumption | omega | (simp; done) | (simp; omega))) _ | with_reducible refine below_set ?_ (by (first | assumption | omega | (simp; done) | (simp; omega))) _ _)
  have hS := same_any Ax Ay lx cx ly cy x y w7.drew ((hx7.below hd7).more hd7.size) ((hy7.below hd7).more hd7.size) (by omega) (by omega)
  obtain ⟨SA, HSA⟩ : ∃ S, Hid (strB ba = S) := ⟨_, Lib.hid rfl⟩
  obtain ⟨SB, HSB⟩ : ∃ S, Hid (strB bb = S) := ⟨_, Lib.hid rfl⟩
  obtain ⟨b, v, hS2, hss, hv⟩ : ∃ (b : Bool) (v : Int), (Calls Tryd.prog 11 #[.slice Ax lx cx, .slice Ay ly cy] w7.drew fun e w' => e = .returned (.int .i64 v) ∧ Below w7.heap.size w7 w') ∧ (SA.toList == SB.toList) = b ∧ (v == 1) = b := by
    by_cases hxy : x = y
    · refine ⟨true, 1, hS.mono ?_, ?_, rfl⟩
      · rintro e w5 ⟨⟨b, rfl, hb⟩, hb5⟩
        obtain rfl := hb.2 hxy
        exact ⟨rfl, hd7.trans hb5⟩
      · rw [← HSA.out, ← HSB.out, HAE.out hxy]
        simp
    · refine ⟨false, 0, hS.mono ?_, ?_, rfl⟩
      · rintro e w5 ⟨⟨b, rfl, hb⟩, hb5⟩
        cases b
        · exact ⟨rfl, hd7.trans hb5⟩
        · exact absurd (hb.1 rfl) hxy
      · rw [← HSA.out, ← HSB.out]
        exact strB_other HTA.out HTB.out (HAB.out hxy)
  have HSS : Hid (∀ w', Below w7.heap.size w7 w' → (convert 24 9 (.slice A4 La c4)).run Tryd.prog w' = .ok (.string SA) w' ∧ (convert 24 9 (.slice A5 Lb c5)).run Tryd.prog w' = .ok (.string SB) w') := Lib.hid (fun w' hb => by
    rw [← HSA.out, ← HSB.out]
    exact ⟨run_str (ha7.below hb), run_str (hbb7.below hb)⟩)
  clear hS hx7 hy7 ha7 hbb7
  refine wp_region_held_drew (S := fun w' => (convert 24 9 (.slice A4 La c4)).run Tryd.prog w' = .ok (.string SA) w' ∧ (convert 24 9 (.slice A5 Lb c5)).run Tryd.prog w' = .ok (.string SB) w') (by kernel_rfl) (HSS.out _ hd7) (fun hSn => ?_)
  refine wpAnyH_take (i := 0) (v := .bool true) rfl (by kernel_rfl) (by kernel_rfl) (by kernel_rfl) (fun _ _ _ h => h) (Or.inl ⟨by rfl, fun w hSw => by obtain ⟨q0, q1⟩ := hSw; go_simp⟩) (by assumption) ?_
  simp only [Act.put, List.setIfInBounds_toArray, List.set_cons_zero, List.set_cons_succ, List.getElem_toArray, List.getElem_cons_zero]
  refine wpAnyH_take (i := 1) (v := .bool true) rfl (by kernel_rfl) (by kernel_rfl) (by kernel_rfl) (fun _ _ _ h => h) (Or.inl ⟨by rfl, fun w hSw => by obtain ⟨q0, q1⟩ := hSw; go_simp⟩) (by assumption) ?_
  simp only [Act.put, List.setIfInBounds_toArray, List.set_cons_zero, List.set_cons_succ, List.getElem_toArray, List.getElem_cons_succ, List.getElem_cons_zero]
  refine wpAnyH_take (i := 2) (v := .slice A4 La c4) rfl (by kernel_rfl) (by kernel_rfl) (by kernel_rfl) (fun _ _ _ h => h) (Or.inl ⟨by rfl, fun w hSw => by obtain ⟨q0, q1⟩ := hSw; go_simp⟩) (by assumption) ?_
  simp only [Act.put, List.setIfInBounds_toArray, List.set_cons_zero, List.set_cons_succ, List.getElem_toArray, List.getElem_cons_succ, List.getElem_cons_zero]
  refine wpAnyH_take (i := 3) (v := .string SA) rfl (by kernel_rfl) (by kernel_rfl) (by kernel_rfl) (fun _ _ _ h => h) (Or.inl ⟨by rfl, fun w hSw => by obtain ⟨q0, q1⟩ := hSw; go_simp⟩) (by assumption) ?_
  simp only [Act.put, List.setIfInBounds_toArray, List.set_cons_zero, List.set_cons_succ, List.getElem_toArray, List.getElem_cons_succ, List.getElem_cons_zero]
  refine wpAnyH_take (i := 4) (v := .slice A5 Lb c5) rfl (by kernel_rfl) (by kernel_rfl) (by kernel_rfl) (fun _ _ _ h => h) (Or.inl ⟨by rfl, fun w hSw => by obtain ⟨q0, q1⟩ := hSw; go_simp⟩) (by assumption) ?_
  simp only [Act.put, List.setIfInBounds_toArray, List.set_cons_zero, List.set_cons_succ, List.getElem_toArray, List.getElem_cons_succ, List.getElem_cons_zero]
  refine wpAnyH_take (i := 5) (v := .string SB) rfl (by kernel_rfl) (by kernel_rfl) (by kernel_rfl) (fun _ _ _ h => h) (Or.inl ⟨by rfl, fun w hSw => by obtain ⟨q0, q1⟩ := hSw; go_simp⟩) (by assumption) ?_
  simp only [Act.put, List.setIfInBounds_toArray, List.set_cons_zero, List.set_cons_succ, List.getElem_toArray, List.getElem_cons_succ, List.getElem_cons_zero]
  refine wpAnyH_take (i := 6) (v := .bool b) rfl (by kernel_rfl) (by kernel_rfl) (by kernel_rfl) (fun _ _ _ h => h) (Or.inl ⟨by rfl, fun w hSw => by obtain ⟨q0, q1⟩ := hSw; go_simp⟩) (by assumption) ?_
  simp only [Act.put, List.setIfInBounds_toArray, List.set_cons_zero, List.set_cons_succ, List.getElem_toArray, List.getElem_cons_succ, List.getElem_cons_zero]
  refine wpAnyH_take (i := 7) (v := .slice Ax lx cx) rfl (by kernel_rfl) (by kernel_rfl) (by kernel_rfl) (fun _ _ _ h => h) (Or.inl ⟨by rfl, fun w hSw => by obtain ⟨q0, q1⟩ := hSw; go_simp⟩) (by assumption) ?_
  simp only [Act.put, List.setIfInBounds_toArray, List.set_cons_zero, List.set_cons_succ, List.getElem_toArray, List.getElem_cons_succ, List.getElem_cons_zero]
  refine wpAnyH_take (i := 8) (v := .slice Ay ly cy) rfl (by kernel_rfl) (by kernel_rfl) (by kernel_rfl) (fun _ _ _ h => h) (Or.inl ⟨by rfl, fun w hSw => by obtain ⟨q0, q1⟩ := hSw; go_simp⟩) (by assumption) ?_
  simp only [Act.put, List.setIfInBounds_toArray, List.set_cons_zero, List.set_cons_succ, List.getElem_toArray, List.getElem_cons_succ, List.getElem_cons_zero]
  refine wpAnyH_ready (rs := [9]) (by kernel_rfl) (by simp) ?_
  refine AllReadyH.cons rfl (fun K hK => ?_) AllReadyH.nil
  go_simp
  refine hS2.mono ?_
  rintro e w8 ⟨rfl, hb8⟩
  refine hK.out _ _ (HSS.out _ hb8) (fun hS8 => ?_)
  clear hK K hS2
  try simp only [Act.put, List.setIfInBounds_toArray, List.set_cons_zero, List.set_cons_succ, List.getElem_toArray, List.getElem_cons_succ, List.getElem_cons_zero]
  refine wpAnyH_take (i := 10) (v := .bool b) rfl (by kernel_rfl) (by kernel_rfl) (by kernel_rfl) (fun _ _ _ h => h) (Or.inl ⟨by rfl, fun w hSw => by obtain ⟨q0, q1⟩ := hSw; go_simp⟩) (by assumption) ?_
  simp only [Act.put, List.setIfInBounds_toArray, List.set_cons_zero, List.set_cons_succ, List.getElem_toArray, List.getElem_cons_succ, List.getElem_cons_zero]
  refine wpAnyH_take (i := 11) (v := .bool true) rfl (by kernel_rfl) (by kernel_rfl) (by kernel_rfl) (fun _ _ _ h => h) (Or.inl ⟨by rfl, fun w hSw => by obtain ⟨q0, q1⟩ := hSw; go_simp⟩) (by assumption) ?_
  simp only [Act.put, List.setIfInBounds_toArray, List.set_cons_zero, List.set_cons_succ, List.getElem_toArray, List.getElem_cons_succ, List.getElem_cons_zero]
  refine wpAnyH_take (i := 12) (v := .bool true) rfl (by kernel_rfl) (by kernel_rfl) (by kernel_rfl) (fun _ _ _ h => h) (Or.inl ⟨by rfl, fun w hSw => by obtain ⟨q0, q1⟩ := hSw; go_simp⟩) (by assumption) ?_
  simp only [Act.put, List.setIfInBounds_toArray, List.set_cons_zero, List.set_cons_succ, List.getElem_toArray, List.getElem_cons_succ, List.getElem_cons_zero]
  refine wpAnyH_take (i := 13) (v := .bool true) rfl (by kernel_rfl) (by kernel_rfl) (by kernel_rfl) (fun _ _ _ h => h) (Or.inl ⟨by rfl, fun w hSw => by obtain ⟨q0, q1⟩ := hSw; go_simp⟩) (by assumption) ?_
  simp only [Act.put, List.setIfInBounds_toArray, List.set_cons_zero, List.set_cons_succ, List.getElem_toArray, List.getElem_cons_succ, List.getElem_cons_zero]
  refine wpAnyH_done (by kernel_rfl) ?_ _
  all_goals
    go_wp2_with fail
    go_ret
    exact ⟨rfl, hb7.trans (hb8.mono hb7.size)⟩

theorem psizes_all (i : Bool) (A1 A2 : Option Addr) (m1 c1 m2 c2 : Nat) (s r : Int) (xs ys : List (Int × Nat)) (w : World) (h1 : RdQ w w.heap.size A1 m1 c1 xs) (h2 : RdQ w w.heap.size A2 m2 c2 ys) (hl : m1 ≤ 9223372036854775807 ∧ m2 ≤ 9223372036854775807) (hR : RoomW w) (hT : TzW w) :
    Calls Tryd.prog 4 #[.bool i, .slice A1 m1 c1, .slice A2 m2 c2, .int .i64 s, .int .i64 r] w (RetTrue w) := by
  by_cases h : 100 < m1 ∨ (m1 ≤ 100 ∧ 100 < m2)
  · exact psizes_big i A1 A2 m1 c1 m2 c2 s r w hl h hR hT
  · exact psizes_in i A1 A2 m1 c1 m2 c2 s r xs ys w h1 h2 (by omega) (by omega) hR hT

end Go.Proofs.YtkndoalnlldolaaDoor
