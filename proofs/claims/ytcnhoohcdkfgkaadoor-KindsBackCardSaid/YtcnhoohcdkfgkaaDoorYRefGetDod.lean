/-
  The contract of the reference's GetDod: what bits begin with; the memory that was there is as it was.
-/
import Derived.Test.YtcnhoohcdkfgkaaDoorM9
import Derived.Deep.DeepCutAuto
import Derived.Deep.CutBlock
namespace Go.Proofs.YtcnhoohcdkfgkaaDoor
open Go.RowKit

/-- what GetDod comes to -/
def RetDR (w : World) (p : List Bool) (e : Ending) (w' : World) : Prop :=
  ∃ (v : Int) (n k : Nat), DGets p v n k ∧ e = .returned (.tuple #[.int .i64 v, .int .i64 (n : Int), .int .i64 (k : Int)]) ∧ Below w.heap.size w w'

set_option maxRecDepth 20000 in
set_option maxHeartbeats 1000000 in
theorem rgetdod_any (A : Option Addr) (n c : Nat) (p : List Bool) (w : World) (h : Rd w w.heap.size A n c (enc p)) (hn : n ≤ 100000) :
    Calls Tryd.prog 33 #[.slice A n c] w (RetDR w p) := by
  have hl : p.length = n := by have := h.len; rwa [enc_length] at this
  obtain ⟨k, hk⟩ := ones_is p
  have hk4 := hk.le4
  have hkl := hk.len
  have hcap := h.cap
  have h3 := head_le k
  have h2 := room_le k
  rw [hl] at hkl
  have HK := Lib.hid hk
  have HL := Lib.hid hl
  clear hk hl
  go_enter Tryd.func33, Tryd.ntmps33
  go_upto_block 0 with fail
  go_cut [5] (fun i wx => i = .int .i64 (k : Int) ∧ w = wx)
  case first =>
    go_wp2_with fail
    go_loop [5] (fun i => ∃ j : Nat, j ≤ k ∧ i = .int .i64 (j : Int)) (fun i => k - (intOf i).toNat)
    case atStart => exact ⟨0, by omega, rfl⟩
    case round =>
      obtain ⟨j, hj, rfl⟩ := hrel
      by_cases hjk : j < k
      · obtain ⟨ad, rfl, hbl, hc⟩ := h.at_ (k := j) (by omega)
        have hj4 : j < 4 := by omega
        have hjn : j < n := by omega
        rw [enc_getD, HK.out.all j hjk, show ((true.toNat : Nat) : Int) = 1 from rfl] at hc
        go_wp2
        go_round
        case rel => exact ⟨j + 1, by omega, by go_num⟩
        case measure => simp [intOf]; omega
      · obtain rfl : j = k := by omega
        by_cases hjn : j < n
        · by_cases hj4 : j < 4
          · obtain ⟨ad, rfl, hbl, hc⟩ := h.at_ (k := j) hjn
            rw [enc_getD, HK.out.stop hj4, show ((false.toNat : Nat) : Int) = 0 from rfl] at hc
            go_wp2_with fail
            go_meet
            exact ⟨rfl, rfl⟩
          · go_wp2_with fail
            go_meet
            exact ⟨rfl, rfl⟩
        · go_wp2_with fail
          go_meet
          exact ⟨rfl, rfl⟩
  case rest =>
    obtain ⟨rfl, rfl⟩ := hcut
    go_upto_region 4 with fail
    go_cut [6] (fun i wx => i = .int .i64 ((headN k : Nat) : Int) ∧ w = wx)
    case first =>
      go_wp2_with fail
      · go_meet
        refine ⟨congrArg (Value.int .i64) ?_, rfl⟩
        unfold headN; split <;> omega
      · go_meet
        refine ⟨congrArg (Value.int .i64) ?_, rfl⟩
        unfold headN; split <;> omega
    case rest =>
      obtain ⟨rfl, rfl⟩ := hcut
      go_wp2_with fail
      refine (sizes_any k _ hk4).mono ?_
      rintro e w2 ⟨rfl, hb2⟩
      have hr2 := (h.below hb2).more hb2.size
      by_cases hfit : headN k + roomN k ≤ n
      · have hge : decide ((n : Int) < ((headN k : Nat) : Int) + ((roomN k : Nat) : Int)) = false := by simp; omega
        have HB : Hid (num (cut p (headN k) (roomN k)) = num (cut p (headN k) (roomN k)) ∧ sgnN (num (cut p (headN k) (roomN k))) (roomN k) = bodyD p k) := Lib.hid ⟨rfl, rfl⟩
        have hcl : c = headN k → Rd w2 w2.heap.size A (roomN k) (c - headN k) (enc (cut p (headN k) (roomN k))) := fun e => by
          have := hr2
          rw [e] at this
          have := this.cutEnd (n := roomN k) hfit
          rw [enc_cut] at this
          rw [show c - headN k = 0 by omega]
          exact this
        have hcm := hr2.cutTo (a := headN k) (n := roomN k) hfit
        rw [enc_cut] at hcm
        have HI := Lib.hid (bodyD_in p hk4)
        go_upto_region 8 with fail
        go_cut [8] (fun v wx => v = .int .i64 (bodyD p k) ∧ Below w.heap.size w wx)
        case first =>
          by_cases hce : c = headN k
          · have hrc := hcl hce
            have hce' : (c = headN k) = True := eq_true hce
            clear hce hcl hcm
            go_wp2_with fail
            refine (refsigned_any _ _ k _ _ hrc hk4).mono ?_
            rintro e w3 ⟨rfl, hb3⟩
            rw [HB.out.2]
            go_wp2_with fail
            go_meet
            exact ⟨rfl, hb2.trans (hb3.mono hb2.size)⟩
          · clear hcl
            go_wp2_with fail
            refine (refsigned_any _ _ k _ _ hcm hk4).mono ?_
            rintro e w3 ⟨rfl, hb3⟩
            rw [HB.out.2]
            go_wp2_with fail
            go_meet
            exact ⟨rfl, hb2.trans (hb3.mono hb2.size)⟩
        case rest =>
          obtain ⟨rfl, hb4⟩ := hcut
          clear hb2 hr2 hcl hcm HB
          have hr4 := (h.below hb4).more hb4.size
          have HOK := Lib.hid (fun e => (⟨k, HK.out, .inr (.inr ⟨by rw [HL.out]; exact hfit, e, rfl, rfl, rfl⟩)⟩ : DGets p (bodyD p k) (headN k + roomN k) 0))
          have HNO := Lib.hid (fun e => (⟨k, HK.out, .inr (.inl ⟨by rw [HL.out]; exact hfit, e, rfl, rfl, rfl⟩)⟩ : DGets p 0 0 3))
          have HCD := Lib.hid (fun e => dgets_code HK.out (by rw [HL.out]; exact hfit) e)
          generalize bodyD p k = z at *
          obtain ⟨r, HR⟩ : ∃ r, Hid (enc (codeD z) = r) := ⟨_, Lib.hid rfl⟩
          obtain ⟨L, HRL⟩ : ∃ L, Hid (r.length = L) := ⟨_, Lib.hid rfl⟩
          have hL : L ≤ 68 := by rw [← HRL.out, ← HR.out, enc_length]; exact (codeD_pos z).2
          go_wp2_with fail
          refine (refdod_any z _ HI.out).mono ?_
          rw [HR.out]
          rintro e w5 ⟨A5, c5, rfl, hown5⟩
          have hr5 := hown5.rd
          have hrp5 := (hr4.below hown5.bel).more hown5.bel.size
          have hb5 := hb4.trans (hown5.bel.mono hb4.size)
          rw [HRL.out] at hr5 ⊢
          clear hown5 hr4 hb4
          go_wp2_with fail
          refine (starts_any _ _ _ _ _ _ _ _ _ _ hrp5 hr5 hn (by omega)).mono ?_
          rintro e w6 ⟨b, rfl, hbt, hb6⟩
          have hb7 := hb5.trans (hb6.mono hb5.size)
          have HBT := Lib.hid hbt
          clear hbt
          by_cases ho : onesN z = k
          · have hLe : L = headN k + roomN k := by
              rw [← HRL.out, ← HR.out, enc_length, codeD_length, ho]
            have hbv : b = true := HBT.out (by omega) (by
              rw [enc_take, hLe, ← HCD.out ho, HR.out])
            subst hbv
            have HO := Lib.hid (HOK.out ho)
            have hne : ((L : Int) != ((headN k : Nat) : Int) + ((roomN k : Nat) : Int)) = false := by rw [hLe]; simp
            clear ho hLe
            go_wp2_with fail
            refine (refdod_any z _ HI.out).mono ?_
            rw [HR.out]
            rintro e w8 ⟨A8, c8, rfl, hown8⟩
            rw [HRL.out]
            go_wp2
            go_ret3
            exact ⟨z, _, 0, HO.out, rfl, hb7.trans (hown8.bel.mono hb7.size)⟩
          · have hLe : L ≠ headN k + roomN k := by
              rw [← HRL.out, ← HR.out, enc_length]
              exact codeD_unlike hk4 ho
            have HO := Lib.hid (HNO.out ho)
            have hne : ((L : Int) != ((headN k : Nat) : Int) + ((roomN k : Nat) : Int)) = true := by simp; omega
            clear ho hLe
            cases b
            · go_wp2
              go_ret3
              exact ⟨0, 0, 3, HO.out, rfl, hb7⟩
            · go_wp2_with fail
              refine (refdod_any z _ HI.out).mono ?_
              rw [HR.out]
              rintro e w8 ⟨A8, c8, rfl, hown8⟩
              rw [HRL.out]
              go_wp2
              go_ret3
              exact ⟨0, 0, 3, HO.out, rfl, hb7.trans (hown8.bel.mono hb7.size)⟩
      · have hge : decide ((n : Int) < ((headN k : Nat) : Int) + ((roomN k : Nat) : Int)) = true := by simp; omega
        go_wp2
        go_ret3
        exact ⟨0, 0, 2, ⟨k, HK.out, .inl ⟨by rw [HL.out]; omega, rfl, rfl, rfl⟩⟩, rfl, hb2⟩

end Go.Proofs.YtcnhoohcdkfgkaaDoor
