/-
  DodTells, walked: it returns true, whatever the arguments.
-/
import Derived.Test.YtbhinhonidbilaaDoorDodUp
import Derived.Test.YtbhinhonidbilaaDoorRefGetDod
import Derived.Test.YtbhinhonidbilaaDoorRest
import Derived.Test.YtbhinhonidbilaaDoorIs
import Derived.Test.YtbhinhonidbilaaDoorLaw
namespace Go.Proofs.YtbhinhonidbilaaDoor
open Go.RowKit

set_option maxHeartbeats 400000 in
theorem dtells_big (A : Option Addr) (m c : Nat) (v a : Int) (w : World) (_hl : m ≤ 9223372036854775807) (h : 500 < m) (hR : RoomW w) :
    Calls Tryd.prog 3 #[.int .i64 v, .slice A m c, .int .i64 a] w (RetTrue w) := by
  go_enter Tryd.func3, Tryd.ntmps3
  go_wp2_with (go_at_call 5; refine (up5_any _ hR).mono ?_; rintro e w1 ⟨rfl, hb1⟩)
  go_ret
  exact ⟨rfl, hb1⟩

set_option maxHeartbeats 1000000 in
theorem dtells_in (A : Option Addr) (m c : Nat) (bs : List Nat) (v a : Int) (w : World) (h : Rd w w.heap.size A m c bs) (hb : ∀ x ∈ bs, x < 256) (hm : m ≤ 500)
    (hv : -9223372036854775808 ≤ v ∧ v ≤ 9223372036854775807) (ha : -9223372036854775808 ≤ a ∧ a ≤ 9223372036854775807) (hR : RoomW w) :
    Calls Tryd.prog 3 #[.int .i64 v, .slice A m c, .int .i64 a] w (RetTrue w) := by
  go_enter Tryd.func3, Tryd.ntmps3
  go_wp2_with fail
  refine (up5_any w hR).mono ?_
  rintro e w1 ⟨rfl, hb1⟩
  go_wp2_with fail
  refine (dget_all A m c _ bs a w1 (h.below hb1) hb (by omega) ha (hR.bel hb1)).mono ?_
  rintro e w2 ⟨x, n, k, HU, rfl, hb2⟩
  have hU := Lib.hid HU
  clear HU
  replace hb2 := hb1.trans (hb2.mono hb1.size)
  clear hb1
  obtain ⟨ev, HE⟩ : ∃ ev, Hid (errV k = ev) := ⟨_, Lib.hid rfl⟩
  rw [HE.out]
  go_wp2_with fail
  refine (rest_any A m c bs a w2 ((h.below hb2).more hb2.size) hb (by omega) ha).mono ?_
  rintro e w3 ⟨A3, n3, c3, rfl, hr3, hb3⟩
  have hn3 : n3 ≤ 4000 := by
    have h1 := hr3.len
    rw [enc_length] at h1
    have h2 := h.len
    rw [← h1]
    unfold restL
    split
    · rw [List.length_drop, flat_length]; omega
    · simp
  replace hb3 := hb2.trans (hb3.mono hb2.size)
  clear hb2
  go_wp2_with fail
  refine (rgetdod_any A3 n3 c3 _ w3 hr3 (by omega)).mono ?_
  rintro e w4 ⟨y, n', k', HU', rfl, hb4⟩
  obtain ⟨rfl, rfl, rfl⟩ := hU.out.same HU'
  clear HU' hr3
  have hk9 : k ≤ 9 := by have := (gets_in hU.out).2.2.1; omega
  replace hb4 := hb3.trans (hb4.mono hb3.size)
  clear hb3
  go_wp2_with fail
  refine (dcode_any v w4 hv (hR.bel hb4)).mono ?_
  rintro e w5 ⟨A5, c5, rfl, hown5⟩
  go_wp2_with fail
  refine (refdod_any v w5 hv).mono ?_
  rintro e w6 ⟨A6, c6, rfl, hown6⟩
  go_wp2_with fail
  have hr5 := (hown5.keep hown6.bel).rd
  refine (is_yes _ _ _ _ _ _ (codeD v) w6 hr5 hown6.rd (by rw [enc_length]; have := (codeD_pos v).2; omega)).mono ?_
  rintro e w7 ⟨rfl, hb7⟩
  have hb8 := hb4.trans (hown5.bel.mono hb4.size)
  have hb9 := hb8.trans (hown6.bel.mono hb8.size)
  have hb10 := hb9.trans (hb7.mono hb9.size)
  clear hb8 hb9 hb7 hb4 hr5 hown5 hown6
  go_wp2_with fail
  rw [← HE.out]
  refine (code_any k w7 hk9).mono ?_
  rintro e w8 ⟨rfl, rfl⟩
  go_wp2
  go_ret
  exact ⟨rfl, hb10⟩

theorem dtells_all (A : Option Addr) (m c : Nat) (bs : List Nat) (v a : Int) (w : World) (h : Rd w w.heap.size A m c bs) (hb : ∀ x ∈ bs, x < 256) (hm : m ≤ 9223372036854775807)
    (hv : -9223372036854775808 ≤ v ∧ v ≤ 9223372036854775807) (ha : -9223372036854775808 ≤ a ∧ a ≤ 9223372036854775807) (hR : RoomW w) :
    Calls Tryd.prog 3 #[.int .i64 v, .slice A m c, .int .i64 a] w (RetTrue w) := by
  by_cases hs : m ≤ 500
  · exact dtells_in A m c bs v a w h hb hs hv ha hR
  · exact dtells_big A m c v a w hm (by omega) hR

end Go.Proofs.YtbhinhonidbilaaDoor
