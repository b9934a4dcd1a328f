/-
  TabSame, walked: it returns true, whatever the argument.
-/
import Derived.Test.YtgjmdoaadiipmaaDoorTabUp
import Derived.Test.YtgjmdoaadiipmaaDoorDodGet
import Derived.Test.YtgjmdoaadiipmaaDoorLaw
namespace Go.Proofs.YtgjmdoaadiipmaaDoor
open Go.RowKit

theorem gets_pos {p : List Bool} {v : Int} {n : Nat} (h : DGets p v n 0) : 1 ≤ n := by
  obtain ⟨k, hk, h⟩ := h
  rcases room_cases hk.le4 with ⟨_, _, h'⟩ | ⟨_, _, h'⟩ | ⟨_, _, h'⟩ | ⟨_, _, h'⟩ | ⟨_, _, h'⟩ <;>
    rcases h with ⟨_, _, _, h4⟩ | ⟨_, _, _, _, h5⟩ | ⟨_, _, _, h4, _⟩ <;> omega
theorem drewN_bel (B : Nat) (w : World) (n : Nat) : Below B w (w.drewN n) := ⟨rfl, rfl, rfl, Nat.le_refl _, fun _ _ => rfl⟩

set_option maxHeartbeats 400000 in
theorem tsame_big (A : Option Addr) (m c : Nat) (w : World) (_hl : m ≤ 9223372036854775807) (h : 500 < m) (hR : RoomW w) (hT : RowsW w) :
    Calls Tryd.prog 4 #[.slice A m c] w (RetTrue w) := by
  go_enter Tryd.func4, Tryd.ntmps4
  go_wp2_with (go_at_call 5; refine (up6_any _ hR hT).mono ?_; rintro e w1 ⟨rfl, hb1⟩)
  go_ret
  exact ⟨rfl, hb1⟩

set_option maxHeartbeats 1000000 in
theorem tsame_in (A : Option Addr) (m c : Nat) (bs : List Nat) (w : World) (h : Rd w w.heap.size A m c bs) (hb : ∀ x ∈ bs, x < 256) (hm : m ≤ 500) (hR : RoomW w) (hT : RowsW w) :
    Calls Tryd.prog 4 #[.slice A m c] w (RetTrue w) := by
  have HB := Lib.hid hb
  clear hb
  go_enter Tryd.func4, Tryd.ntmps4
  go_wp2_with fail
  refine (up6_any w hR hT).mono ?_
  rintro e w1 ⟨rfl, hb1⟩
  have hR1 := hR.bel hb1
  have hT1 := hT.bel hb1
  have h1 := (h.below hb1).more hb1.size
  clear h hR hT
  go_wp2_with fail
  refine (new_any A m c bs w1 h1 HB.out (by omega)).mono ?_
  rintro e w4 ⟨rfl, hr4, hb4, hs4⟩
  clear hs4
  have hR4 := hR1.bel hb4
  have hT4 := hT1.bel hb4
  have hg1 := hT1.size
  have hbw4 := hb1.trans (hb4.mono hb1.size)
  have hgw := hb1.size
  clear hR1 hT1 h1 hb4 hb1
  generalize w1.heap.size = g at *
  clear w1
  go_wp2_with fail
  go_loopw [5, 6] (fun x i wr => ∃ a k : Nat, k ≤ a ∧ a ≤ 8 * m ∧ x = .int .i64 (a : Int) ∧ i = .int .i64 (k : Int) ∧ Rdr wr g A m c bs a ∧ RoomW wr ∧ RowsW wr ∧ Below w.heap.size w wr) (fun _ i _ => 8 * m + 1 - (intOf i).toNat)
  case atStart => exact ⟨0, 0, by omega, by omega, rfl, rfl, hr4, hR4, hT4, hbw4⟩
  case round =>
    clear hr4 hR4 hT4 hbw4
    obtain ⟨a, k, hka, ham, rfl, rfl, hr, hR, hT, hbw⟩ := hrel
    have hlt : k < 8 * m + 1 := by omega
    go_wp2_with fail
    refine (tget_any g A m c bs a wr hr hR hT hg1).mono ?_
    rintro e w6 ⟨v, q, kk, a', HU, rfl, hr6, ha', hg6⟩
    have hU := Lib.hid HU
    have hR6 := hR.grown hg6 hg1
    have hT6 := hT.grown hg6 hg1
    have hb6 := hbw.trans ((below_went hg6 hr.lt).mono hgw)
    clear HU hr hR hT hg6 hbw
    obtain ⟨ev, HE⟩ : ∃ ev, Hid (errV kk = ev) := ⟨_, Lib.hid rfl⟩
    rw [HE.out]
    go_wp2_with fail
    refine (dget_all A m c g bs (a : Int) w6 hr6.rd HB.out (by omega) (by omega) hR6).mono ?_
    rintro e w7 ⟨v', q', kk', HU', rfl, hb7⟩
    obtain ⟨rfl, rfl, rfl⟩ := hU.out.same HU'
    have hr7 := hr6.below hb7
    have hR7 := hR6.bel hb7
    have hT7 := hT6.bel hb7
    have hb8 := hb6.trans (hb7.mono hb6.size)
    have hkk := (gets_in hU.out).2.2.1
    have hqi := (gets_in hU.out).2.1
    have HPos := Lib.hid (fun (e : kk = 0) => gets_pos (e ▸ hU.out))
    clear HU' hr6 hR6 hT6 hb6 hb7
    have HCO : Hid (∀ W, Calls Tryd.prog 14 #[ev] W fun e w' => e = .returned (.int .i64 (kk : Int)) ∧ W = w') := Lib.hid (by
      rw [← HE.out]
      exact fun W => code_any kk W (by omega))
    rw [HE.out]
    by_cases hk0 : kk = 0
    · have hev : ev = .nilIface := by rw [← HE.out, hk0]; rfl
      have haq := ha' hk0
      have hq1 := HPos.out hk0
      have hat := hr7.at_
      subst hev haq
      obtain ⟨L, HL⟩ : ∃ L, Hid (8 * m - (a + q) = L) := ⟨_, Lib.hid rfl⟩
      have hLE : ((L : Int) != 8 * (m : Int) - ((a : Int) + (q : Int))) = false := by
        rw [← HL.out]
        simp; omega
      clear ha' hk0 hU HPos hkk HE HB
      go_wp2_with (first
        | (go_at_call 14; refine (HCO.out _).mono ?_; rintro e w9 ⟨rfl, rfl⟩)
        | (go_at_call 15; refine (left_any g A m c bs (a + q) _ hr7).mono ?_; rw [HL.out]; rintro e w9 ⟨rfl, m9, rfl⟩))
      go_roundw
      case rel => exact ⟨a + q, k + 1, by omega, by omega, by go_num, by go_num, hr7.drewN m9, hR7.drewN m9, hT7.drewN m9, hb8.trans (drewN_bel _ _ _)⟩
      case measure => simp [intOf]; omega
    · obtain ⟨x, hx⟩ : ∃ x, ev = .iface 52 x := ⟨.int .i64 (kk : Int), by rw [← HE.out]; unfold errV; rw [if_neg hk0]⟩
      subst hx
      clear ha' hk0 hU HPos hkk HE HB
      go_wp2_with (go_at_call 14; refine (HCO.out _).mono ?_; rintro e w9 ⟨rfl, rfl⟩)
      go_ret
      exact ⟨rfl, hb8⟩

theorem tsame_all (A : Option Addr) (m c : Nat) (bs : List Nat) (w : World) (h : Rd w w.heap.size A m c bs) (hb : ∀ x ∈ bs, x < 256) (hm : m ≤ 9223372036854775807) (hR : RoomW w) (hT : RowsW w) :
    Calls Tryd.prog 4 #[.slice A m c] w (RetTrue w) := by
  by_cases hs : m ≤ 500
  · exact tsame_in A m c bs w h hb hs hR hT
  · exact tsame_big A m c w hm (by omega) hR hT

end Go.Proofs.YtgjmdoaadiipmaaDoor
