/-
  ScanAll, walked: it returns true, whatever the arguments.
-/
import Derived.Test.YtcnhagngcgoiaaaDoorScanUp
import Derived.Test.YtcnhagngcgoiaaaDoorPackA
import Derived.Test.YtcnhagngcgoiaaaDoorRising
import Derived.Test.YtcnhagngcgoiaaaDoorPick
import Derived.Deep.CutBlock
import Derived.Deep.RegionWith
namespace Go.Proofs.YtcnhagngcgoiaaaDoor
open Go.RowKit

/-- the iterator over a list, and the list itself, that lies elsewhere -/
structure AtAll (w0 wr : World) (g : Nat) (A1 A2 : Option Addr) (N c1 c2 : Nat) (xs : List (Int × Nat)) (a : Int) (d : Bool) : Prop where
  bel : Below w0.heap.size w0 wr
  it : BoxL wr g [.slice A1 N c1, .nilIface, .int .i64 a, .bool d]
  q1 : RdQ wr g A1 N c1 xs
  q2 : RdQ wr g A2 N c2 xs
section
variable {w0 w w' W : World} {g N c1 c2 : Nat} {A1 A2 : Option Addr} {xs : List (Int × Nat)} {a a' : Int} {d d' : Bool}
theorem AtAll.go (h : AtAll w0 w g A1 A2 N c1 c2 xs a d) (hb : Below w.heap.size w w') : AtAll w0 w' g A1 A2 N c1 c2 xs a d :=
  ⟨h.bel.trans (hb.mono h.bel.size), h.it.below hb, h.q1.below (hb.mono (Nat.le_of_lt h.it.lt)), h.q2.below (hb.mono (Nat.le_of_lt h.it.lt))⟩
theorem AtAll.step (h : AtAll w0 w g A1 A2 N c1 c2 xs a d) (hg : w0.heap.size ≤ g) (hb : Below w.heap.size w W) (hw : w' = ((((W.setCell ⟨g, 0, none⟩ (.slice A1 N c1)).setCell ⟨g, 1, none⟩ (.nilIface)).setCell ⟨g, 2, none⟩ (.int .i64 a')).setCell ⟨g, 3, none⟩ (.bool d'))) : AtAll w0 w' g A1 A2 N c1 c2 xs a' d' := by
  have hbg := below_set4c (hb.mono (Nat.le_of_lt h.it.lt)) (Nat.le_refl _) (.slice A1 N c1) .nilIface (.int .i64 a') (.bool d')
  rw [hw]
  exact ⟨below_step h.bel hb hg, h.it.step hb, h.q1.below hbg, h.q2.below hbg⟩
end

set_option maxRecDepth 20000 in
set_option maxHeartbeats 1000000 in
theorem sall_big (i : Bool) (A1 : Option Addr) (m1 c1 : Nat) (s : Int) (w : World) (_hl : m1 ≤ 9223372036854775807) (h : 100 < m1) (hR : RoomW w) (hT : TzW w) :
    Calls Tryd.prog 4 #[.bool i, .slice A1 m1 c1, .int .i64 s] w (RetTrue w) := by
  have hu := up18_any w hR hT
  unfold RetTrue at hu
  go_enter Tryd.func4, Tryd.ntmps4
  go_wp2_with (go_at_call 5; refine hu.mono ?_; rintro e w1 ⟨rfl, hb1⟩)
  go_ret
  exact ⟨rfl, hb1⟩

set_option maxRecDepth 20000 in
set_option maxHeartbeats 8000000 in
theorem sall_in (i : Bool) (A1 : Option Addr) (m1 c1 : Nat) (s : Int) (xs : List (Int × Nat)) (w : World) (h1 : RdQ w w.heap.size A1 m1 c1 xs) (hm1 : m1 ≤ 100) (hR : RoomW w) (hT : TzW w) :
    Calls Tryd.prog 4 #[.bool i, .slice A1 m1 c1, .int .i64 s] w (RetTrue w) := by
  have hu := up18_any w hR hT
  unfold RetTrue at hu
  go_enter Tryd.func4, Tryd.ntmps4
  go_wp2_with fail
  refine hu.mono ?_
  rintro e w1 ⟨rfl, hb1⟩
  clear hu
  obtain ⟨k, hkk⟩ : ∃ k : Nat, k = if i then 2 else 1 := ⟨_, rfl⟩
  have hk : k = 1 ∨ k = 2 := by rw [hkk]; cases i <;> simp
  go_upto_if 26 with fail
  go_cut [8] (fun x wx => x = .int .i64 (k : Int) ∧ wx = w1)
  case first =>
    cases i
    all_goals
      subst hkk
      go_wp2_with fail
      go_meet
      exact ⟨rfl, rfl⟩
  case rest =>
  obtain ⟨rfl, rfl⟩ := hcut
  rename World => w1
  clear hkk
  go_wp2_with fail
  refine (rising_any A1 m1 c1 xs w1 ((h1.below hb1).more hb1.size) (by omega)).mono ?_
  rintro e w2 ⟨x, Ax, cx, rfl, hox, hrx, hlx⟩
  have hb2 := hb1.trans (hox.bel.mono hb1.size)
  have hx2 := hox.rd
  clear hox h1 hb1
  have HX := Lib.hid hx2.all
  have HRX : Hid (Rises x) := Lib.hid hrx
  obtain ⟨lx, hlx'⟩ : ∃ l, x.length = l := ⟨_, rfl⟩
  rw [hlx'] at hx2 hlx ⊢
  have HLX := Lib.hid hlx'
  have hlx2 : lx ≤ 100 := by omega
  clear hrx hlx' hlx
  obtain ⟨p, hp⟩ : ∃ p : Nat, s % 120 = (p : Int) := ⟨(s % 120).toNat, by have := Int.emod_nonneg s (show (120 : Int) ≠ 0 by omega); omega⟩
  have hpm : p < 120 := by have := Int.emod_lt_of_pos s (show (0 : Int) < 120 by omega); omega
  have hP := fun X => pick_any s 120 X (by omega) (by omega)
  rw [hp] at hP
  clear hp
  go_wp2_with fail
  refine (hP _).mono ?_
  rintro e w4 ⟨rfl, rfl⟩
  clear hP
  go_wp2_with fail
  refine (pack_good k (1 + p) _ (by simp) Ax lx cx x _ hx2 (by omega) hk (by omega) (by omega) HRX.out (hR.bel hb2) (hT.bel hb2)).mono ?_
  rintro e w4 ⟨A4, c4, rfl, ho4⟩
  have hb4 := hb2.trans (ho4.bel.mono hb2.size)
  have hx4 := (hx2.below ho4.bel).more ho4.bel.size
  clear hx2
  have HBY : Hid (∀ u ∈ blockB k (1 + p) x, u < 256) := Lib.hid (block_lt (by omega))
  have HWB := Lib.hid (whole_back hk HX.out HRX.out (by rw [HLX.out]; omega) (show 1 ≤ 1 + p by omega) (by omega))
  have HSM : Hid ((blockB k (1 + p) x).length ≤ 7000) := Lib.hid (block_small HX.out (by rw [HLX.out]; omega) (by omega))
  have hr4 := ho4.rd
  clear ho4
  generalize blockB k (1 + p) x = bl at *
  obtain ⟨L, HL⟩ : ∃ L, Hid (bl.length = L) := ⟨_, Lib.hid rfl⟩
  rw [HL.out] at hr4 HSM ⊢
  have hsm := HSM.out
  have hN := sc_new A4 L c4 w4.heap.size bl w4 hr4 (Nat.le_refl _) HBY.out (by omega) (hR.bel hb4) (hT.bel hb4)
  rw [HWB.out] at hN
  unfold RetIt at hN
  simp only [show errV 0 = Value.nilIface from rfl] at hN
  rw [HLX.out] at hN
  clear hr4 HBY HWB HSM
  go_wp2_with fail
  refine hN.mono ?_
  rintro e w5 ⟨g, A5, c5, rfl, hg, x5, q5, hb5⟩
  have hb6 := hb4.trans (hb5.mono hb4.size)
  have hx5 : RdQ w5 g Ax lx cx x := (hx4.below hb5).more hg
  have hgw : w.heap.size ≤ g := Nat.le_trans hb4.size hg
  clear hN hx4 hb5 hb4 hb2 hg
  have he : IsErr .nilIface := .inl rfl
  have hl0 : (0 : Int) ≤ (lx : Int) := by omega
  go_wp2_with fail
  go_loopw [13] (fun x13 wr => ∃ j : Nat, j ≤ lx ∧ x13 = .int .i64 j ∧ AtAll w wr g A5 Ax lx c5 cx x ((j : Int) - 1) false) (fun x13 _ => lx - (intOf x13).toNat)
  case atStart => exact ⟨0, Nat.zero_le _, rfl, hb6, by simpa using x5, q5, hx5⟩
  case round =>
    clear x5 q5 hx5 hb6
    obtain ⟨j, hj, rfl, hS⟩ := hrel
    by_cases hlt : j < lx
    · have hji : (j : Int) < (lx : Int) := by omega
      have hN1 := sc_next g A5 lx c5 _ _ _ wr hS.it he ⟨by omega, by omega⟩ (by omega)
      go_wp2_with fail
      refine hN1.mono ?_
      rintro e w8 ⟨ok, a', W, rfl, hr, hb8, hw8⟩
      obtain ⟨rfl, ha'⟩ := hr.one (.inl ⟨rfl, by omega, rfl, rfl⟩)
      rw [show (j : Int) - 1 + 1 = (j : Int) by omega] at ha'
      subst ha'
      have hS8 := hS.step hgw hb8 hw8
      clear hN1 hr hw8 hb8 hS
      have hL1 := sc_at g g A5 lx c5 x _ (j : Int) false w8 hS8.it he ⟨by omega, by omega⟩ hS8.q1 (Nat.le_of_lt hS8.it.lt)
      have hlk : lookQ x (j : Int) false = x.getD j (0, 0) := by
        unfold lookQ
        rw [if_neg (by simp), Int.toNat_natCast]
      rw [hlk] at hL1
      clear hlk
      go_wp2_with fail
      refine hL1.mono ?_
      rintro e w9 ⟨rfl, hb9⟩
      have hS9 := hS8.go hb9
      clear hL1 hS8 hb9
      obtain ⟨ad, rfl, _, hc0, hc1⟩ := hS9.q2.at_ hlt
      generalize x.getD j (0, 0) = y at *
      obtain ⟨t, v⟩ := y
      dsimp only at hc0 hc1 ⊢
      have hE := sc_err g A5 lx c5 _ _ _ w9 hS9.it he
      have hE2 : (bif !true then Value.nilIface else Value.nilIface) = .nilIface := rfl
      rw [hE2] at hE
      clear hE2
      go_wp2_with fail
      refine hE.mono ?_
      rintro e w10 ⟨rfl, hb10⟩
      have hS10 := hS9.go hb10
      clear hE hS9 hb10 hc0 hc1
      go_wp2
      go_roundw
      case rel => exact ⟨j + 1, by omega, by go_num, by
        have := hS10
        rwa [show (j : Int) = ((j + 1 : Nat) : Int) - 1 by omega] at this⟩
      case measure => simp [intOf]; omega
    · obtain rfl : j = lx := by omega
      have hN1 := sc_next g A5 j c5 _ _ _ wr hS.it he ⟨by omega, by omega⟩ (by omega)
      go_wp2_with fail
      refine hN1.mono ?_
      rintro e w8 ⟨ok, a', W, rfl, hr, hb8, hw8⟩
      obtain ⟨rfl, ha'⟩ := hr.one (.inr ⟨.inr (by omega), rfl, rfl⟩)
      subst ha'
      have hS8 := hS.step hgw hb8 hw8
      clear hN1 hr hw8 hb8 hS
      have hK1 := sc_seek g g A5 j c5 x _ _ (-9223372036854775808) _ w8 hS8.it he ⟨by omega, by omega⟩ (by omega) hS8.q1 (Nat.le_of_lt hS8.it.lt) HRX.out
      go_wp2_with fail
      refine hK1.mono ?_
      rintro e w9 ⟨ok, a', W, rfl, hr, hb9, hw9⟩
      obtain ⟨rfl, ha'⟩ := hr.one (.inl ⟨rfl, rfl, rfl⟩)
      subst ha'
      have hS9 := hS8.step hgw hb9 hw9
      clear hK1 hr hw9 hb9 hS8
      have hL1 := sc_at g g A5 j c5 x _ _ _ w9 hS9.it he ⟨by omega, by omega⟩ hS9.q1 (Nat.le_of_lt hS9.it.lt)
      have hlk : lookQ x ((j : Int) - 1) (!false) = (0, 0) := by
        unfold lookQ
        rw [if_pos (by simp)]
      rw [hlk] at hL1
      clear hlk
      go_wp2_with fail
      refine hL1.mono ?_
      rintro e w10 ⟨rfl, hb10⟩
      have hS10 := hS9.go hb10
      clear hL1 hS9 hb10
      have hE := sc_err g A5 j c5 _ _ _ w10 hS10.it he
      have hE2 : (bif !false then Value.nilIface else Value.nilIface) = .nilIface := rfl
      rw [hE2] at hE
      clear hE2
      go_wp2_with fail
      refine hE.mono ?_
      rintro e w11 ⟨rfl, hb11⟩
      have hS11 := hS10.go hb11
      clear hE hS10 hb11
      go_wp2
      go_ret
      exact ⟨rfl, hS11.bel⟩

theorem sall_all (i : Bool) (A1 : Option Addr) (m1 c1 : Nat) (s : Int) (xs : List (Int × Nat)) (w : World) (h1 : RdQ w w.heap.size A1 m1 c1 xs) (hl : m1 ≤ 9223372036854775807) (hR : RoomW w) (hT : TzW w) :
    Calls Tryd.prog 4 #[.bool i, .slice A1 m1 c1, .int .i64 s] w (RetTrue w) := by
  by_cases h : 100 < m1
  · exact sall_big i A1 m1 c1 s w hl h hR hT
  · exact sall_in i A1 m1 c1 s xs w h1 (by omega) hR hT

end Go.Proofs.YtcnhagngcgoiaaaDoor
