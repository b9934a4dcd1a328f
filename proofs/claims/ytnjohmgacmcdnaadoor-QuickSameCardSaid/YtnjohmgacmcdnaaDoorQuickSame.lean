/-
  QuickSame, walked: it returns true, whatever the arguments.
-/
import Derived.Test.YtnjohmgacmcdnaaDoorQuickUp
import Derived.Test.YtnjohmgacmcdnaaDoorSlowDec
import Derived.Test.YtnjohmgacmcdnaaDoorSlow3
import Derived.Test.YtnjohmgacmcdnaaDoorChunks
import Derived.Test.YtnjohmgacmcdnaaDoorRising
import Derived.Test.YtnjohmgacmcdnaaDoorPick
import Derived.Test.YtnjohmgacmcdnaaDoorWords
import Derived.Laws.BitsAllLaws
namespace Go.Proofs.YtnjohmgacmcdnaaDoor
open Go.RowKit

/-- what was encoded without an error has some bytes -/
theorem enc_bytes {z : Int} {ys : List (Int × Nat)} (h : EncE z ys 0) (hx : AllQ ys) : 1 ≤ (pack (encP z ys 0)).length := by
  have h0 : ys.length ≠ 0 := by
    rcases h with ⟨_, h⟩ | ⟨h, _⟩
    · cases h
    · exact h
  have := cdK_ge (k := z.toNat) hx ys.length
  rw [pack_length]
  unfold encP
  rw [if_pos rfl]
  omega
theorem xor_byte {x y : Nat} (hx : x < 256) (hy : y < 256) : x ^^^ y < 256 := Nat.xor_lt_two_pow (n := 8) hx hy
theorem set_bytes {bs : List Nat} (hb : ∀ x ∈ bs, x < 256) (k : Nat) {v : Nat} (hv : v < 256) : ∀ x ∈ bs.set k v, x < 256 := by
  intro x hx
  rcases List.mem_or_eq_of_mem_set hx with h | rfl
  · exact hb x h
  · exact hv
theorem take_bytes {bs : List Nat} (hb : ∀ x ∈ bs, x < 256) (k : Nat) : ∀ x ∈ bs.take k, x < 256 := fun x hx => hb x (List.mem_of_mem_take hx)
theorem getD_byte {bs : List Nat} (hb : ∀ x ∈ bs, x < 256) (k : Nat) : bs.getD k 0 < 256 := by
  rcases Nat.lt_or_ge k bs.length with h | h
  · rw [List.getD_eq_getElem?_getD, List.getElem?_eq_getElem h]
    exact hb _ (List.getElem_mem h)
  · rw [List.getD_eq_getElem?_getD, List.getElem?_eq_none h]
    simp

set_option maxRecDepth 20000 in
set_option maxHeartbeats 1000000 in
theorem qsame_big (A : Option Addr) (m c : Nat) (z at_ cut n : Int) (by_ : Nat) (w : World) (_hl : m ≤ 9223372036854775807) (h : 100 < m) (hT : TabsW w) :
    Calls Tryd.prog 4 #[.int .i64 z, .slice A m c, .int .i64 at_, .int .u8 (by_ : Int), .int .i64 cut, .int .i64 n] w (RetTrue w) := by
  go_enter Tryd.func4, Tryd.ntmps4
  go_wp2_with (go_at_call 5; refine (up12_any _ hT).mono ?_; rintro e w1 ⟨rfl, hb1⟩)
  go_ret
  exact ⟨rfl, hb1⟩

set_option maxRecDepth 20000 in
set_option maxHeartbeats 8000000 in
theorem qsame_in (A1 : Option Addr) (m1 c1 : Nat) (z at_ cut n : Int) (by_ : Nat) (xs : List (Int × Nat)) (w : World) (hby : by_ ≤ 255) (h1 : RdQ w w.heap.size A1 m1 c1 xs) (hm1 : m1 ≤ 100) (hT : TabsW w) :
    Calls Tryd.prog 4 #[.int .i64 z, .slice A1 m1 c1, .int .i64 at_, .int .u8 (by_ : Int), .int .i64 cut, .int .i64 n] w (RetTrue w) := by
  go_enter Tryd.func4, Tryd.ntmps4
  go_wp2_with fail
  refine (up12_any w hT).mono ?_
  rintro e w1 ⟨rfl, hb1⟩
  go_wp2_with fail
  refine (rising_any A1 m1 c1 xs w1 ((h1.below hb1).more hb1.size) (by omega)).mono ?_
  rintro e w2 ⟨ys, A3, c3, rfl, ho2, hrq, hyl⟩
  have hb2 := hb1.trans (ho2.bel.mono hb1.size)
  have hr2 := ho2.rd
  clear h1 ho2 hb1
  obtain ⟨N, HN⟩ : ∃ N, Hid (ys.length = N) := ⟨_, Lib.hid rfl⟩
  rw [HN.out] at hr2 hyl ⊢
  have HA := Lib.hid hr2.all
  clear hrq
  have hT2 := hT.bel hb2
  go_wp2_with fail
  refine (encode_any A3 N c3 z ys w2 hr2 (by omega) hT2.room hT2.tz).mono ?_
  rintro e w3 ⟨er, A4, c4, her, rfl, ho3⟩
  have hb3 := hb2.trans (ho3.bel.mono hb2.size)
  clear hr2 hT2
  by_cases he : er = 0
  · subst he
    rw [show errV 0 = .nilIface from rfl]
    have HL1 := Lib.hid (enc_bytes her HA.out)
    have HPB : Hid (∀ x ∈ pack (encP z ys 0), x < 256) := Lib.hid (pack_lt _)
    have hpl : (pack (encP z ys 0)).length ≤ 2000 := by
      have := encP_le (z := z) HA.out 0
      rw [HN.out] at this
      rw [pack_length]
      omega
    clear her
    generalize pack (encP z ys 0) = pl at *
    obtain ⟨L, HL⟩ : ∃ L, Hid (pl.length = L) := ⟨_, Lib.hid rfl⟩
    have hl1 := HL1.out
    rw [HL.out] at hpl hl1 ho3 ⊢
    obtain ⟨g, rfl⟩ : ∃ g, A4 = some ⟨g, 0, none⟩ := by
      obtain ⟨g, c, e⟩ := ho3.lenform (m := L - 1) (by rw [HL.out]; omega)
      injection e with e1 e2 e3
      exact ⟨g, e1⟩
    have hLz : (((L : Nat) : Int) == 0) = false := by simp; omega
    have hpk := pick_any at_ (L : Int) w3 (by omega) (by omega)
    obtain ⟨k, hk, hkL⟩ : ∃ k : Nat, at_ % (L : Int) = (k : Int) ∧ k < L := by
      have e1 := Int.emod_nonneg at_ (show (L : Int) ≠ 0 by omega)
      have e2 := Int.emod_lt_of_pos at_ (show (0 : Int) < (L : Int) by omega)
      exact ⟨(at_ % (L : Int)).toNat, by omega, by omega⟩
    rw [hk] at hpk
    clear hk
    go_wp2_with fail
    refine hpk.mono ?_
    rintro e w4 ⟨rfl, rfl⟩
    clear hpk
    have hcell := ho3.cell k hkL
    have hfree := ho3.free k
    have hkLi : (k : Int) < (L : Int) := by omega
    have hx := getD_byte HPB.out k
    generalize pl.getD k 0 = x at *
    have hxor := u8_xor_nat x by_ (by omega) (by omega)
    go_upto_region 9 with fail
    have ho4 := ho3.set k (x ^^^ by_)
    have HQB := Lib.hid (set_bytes HPB.out k (xor_byte hx (by omega : by_ < 256)))
    clear hcell hfree hxor ho3 hx hkL hkLi HPB HL1 hb3
    generalize pl.set k (x ^^^ by_) = ql at *
    generalize w3.setCell ⟨g, k, none⟩ (.int .u8 ((x ^^^ by_ : Nat) : Int)) = w5 at *
    have hb5 := hb2.trans (ho4.bel.mono hb2.size)
    have hr5 := ho4.rd
    have hcap := hr5.cap
    have hpc := pick_any cut ((L : Int) + 1) w5 (by omega) (by omega)
    obtain ⟨p, hp, hpL⟩ : ∃ p : Nat, cut % ((L : Int) + 1) = (p : Int) ∧ p ≤ L := by
      have e1 := Int.emod_nonneg cut (show (L : Int) + 1 ≠ 0 by omega)
      have e2 := Int.emod_lt_of_pos cut (show (0 : Int) < (L : Int) + 1 by omega)
      exact ⟨(cut % ((L : Int) + 1)).toNat, by omega, by omega⟩
    rw [hp] at hpc
    have hpcc : (p : Int) ≤ (c4 : Int) := by omega
    clear hp ho4 hl1
    go_wp2_with fail
    refine hpc.mono ?_
    rintro e w6 ⟨rfl, rfl⟩
    clear hpc
    have hpn := pick_any n ((m1 : Int) + 2) w5 (by omega) (by omega)
    obtain ⟨M, hM, hM1⟩ : ∃ M : Nat, n % ((m1 : Int) + 2) = (M : Int) ∧ M ≤ 101 := by
      have e1 := Int.emod_nonneg n (show (m1 : Int) + 2 ≠ 0 by omega)
      have e2 := Int.emod_lt_of_pos n (show (0 : Int) < (m1 : Int) + 2 by omega)
      exact ⟨(n % ((m1 : Int) + 2)).toNat, by omega, by omega⟩
    rw [hM] at hpn
    clear hM
    go_wp2_with fail
    refine hpn.mono ?_
    rintro e w6 ⟨rfl, rfl⟩
    clear hpn
    go_wp2_with fail
    refine (quickdec_any (some ⟨g, 0, none⟩) L c4 ql z M w5 (by omega) hr5 HQB.out (by omega) (hT.bel hb5)).mono ?_
    rintro e w6 ⟨q1, r1, B1, d1, hd, rfl, ho⟩
    have hr1 := hd.le
    have hL1 := hd.many
    have HD1 := Lib.hid hd
    obtain ⟨L1, HM1⟩ : ∃ L1, Hid (q1.length = L1) := ⟨_, Lib.hid rfl⟩
    have hb6 := hb5.trans (ho.bel.mono hb5.size)
    have hq1 := ho.rd
    replace hr5 := (hr5.below ho.bel).more ho.bel.size
    rw [HM1.out] at hq1 hL1 ⊢
    clear ho hd hb5
    go_wp2_with fail
    refine (slowdec_any (some ⟨g, 0, none⟩) L c4 ql z M w6 (by omega) hr5 HQB.out (by omega) (hT.bel hb6).room (hT.bel hb6).tz).mono ?_
    rintro e w7 ⟨_, _, B2, d2, hd, rfl, ho⟩
    obtain ⟨rfl, rfl⟩ := HD1.out.same hd
    have hb7 := hb6.trans (ho.bel.mono hb6.size)
    have hq2 := ho.rd
    replace hr5 := (hr5.below ho.bel).more ho.bel.size
    replace hq1 := (hq1.below ho.bel).more ho.bel.size
    rw [HM1.out] at hq2 ⊢
    clear ho hd hb6
    go_wp2_with fail
    refine (quickdec_any (some ⟨g, 0, none⟩) p c4 (ql.take p) z M w7 (by omega) (hr5.cutHead hpL) (take_bytes HQB.out p) (by omega) (hT.bel hb7)).mono ?_
    rintro e w8 ⟨q2, r2, B3, d3, hd, rfl, ho⟩
    have hr2 := hd.le
    have hL2 := hd.many
    have HD2 := Lib.hid hd
    obtain ⟨L2, HM2⟩ : ∃ L2, Hid (q2.length = L2) := ⟨_, Lib.hid rfl⟩
    have hb8 := hb7.trans (ho.bel.mono hb7.size)
    have hq3 := ho.rd
    replace hr5 := (hr5.below ho.bel).more ho.bel.size
    replace hq1 := (hq1.below ho.bel).more ho.bel.size
    replace hq2 := (hq2.below ho.bel).more ho.bel.size
    rw [HM2.out] at hq3 hL2 ⊢
    clear ho hd hb7
    go_wp2_with fail
    refine (slowdec_any (some ⟨g, 0, none⟩) p c4 (ql.take p) z M w8 (by omega) (hr5.cutHead hpL) (take_bytes HQB.out p) (by omega) (hT.bel hb8).room (hT.bel hb8).tz).mono ?_
    rintro e w9 ⟨_, _, B4, d4, hd, rfl, ho⟩
    obtain ⟨rfl, rfl⟩ := HD2.out.same hd
    have hb9 := hb8.trans (ho.bel.mono hb8.size)
    have hq4 := ho.rd
    replace hr5 := (hr5.below ho.bel).more ho.bel.size
    replace hq1 := (hq1.below ho.bel).more ho.bel.size
    replace hq2 := (hq2.below ho.bel).more ho.bel.size
    replace hq3 := (hq3.below ho.bel).more ho.bel.size
    rw [HM2.out] at hq4 ⊢
    clear ho hd hb8
    have hC1 := fun X => code_any r1 X (by omega)
    have hC2 := fun X => code_any r2 X (by omega)
    have hS1 := same_any B1 B2 L1 d1 L1 d2 q1 q1 w9 hq1 hq2 (by omega) (by omega)
    clear hr5
    go_wp2_with fail
    refine hS1.mono ?_
    rintro e w10 ⟨⟨b, rfl, hb⟩, hb10⟩
    obtain rfl := hb.2 (by first | rfl | trivial)
    have hS2 := same_any B3 B4 L2 d3 L2 d4 q2 q2 w10 ((hq3.below hb10).more hb10.size) ((hq4.below hb10).more hb10.size) (by omega) (by omega)
    replace hb9 := hb9.trans (hb10.mono hb9.size)
    clear hS1 hb hq1 hq2 hq3 hq4 hb10
    go_wp2_with fail
    refine (hC1 _).mono ?_
    rintro e w11 ⟨rfl, rfl⟩
    go_wp2_with fail
    refine (hC1 _).mono ?_
    rintro e w11 ⟨rfl, rfl⟩
    clear hC1
    go_wp2_with fail
    refine hS2.mono ?_
    rintro e w11 ⟨⟨b, rfl, hb⟩, hb11⟩
    obtain rfl := hb.2 (by first | rfl | trivial)
    clear hS2 hb
    go_wp2_with fail
    refine (hC2 _).mono ?_
    rintro e w12 ⟨rfl, rfl⟩
    go_wp2_with fail
    refine (hC2 _).mono ?_
    rintro e w12 ⟨rfl, rfl⟩
    clear hC2
    go_wp2
    go_ret
    exact ⟨rfl, hb9.trans (hb11.mono hb9.size)⟩
  · have hev : errV er = .iface 42 (.int .i64 (er : Int)) := by unfold errV; rw [if_neg he]
    rw [hev]
    clear hev ho3
    go_wp2
    go_ret
    exact ⟨rfl, hb3⟩

theorem qsame_all (A1 : Option Addr) (m1 c1 : Nat) (z at_ cut n : Int) (by_ : Nat) (xs : List (Int × Nat)) (w : World) (hby : by_ ≤ 255) (h1 : RdQ w w.heap.size A1 m1 c1 xs) (hm1 : m1 ≤ 9223372036854775807) (hT : TabsW w) :
    Calls Tryd.prog 4 #[.int .i64 z, .slice A1 m1 c1, .int .i64 at_, .int .u8 (by_ : Int), .int .i64 cut, .int .i64 n] w (RetTrue w) := by
  by_cases h : 100 < m1
  · exact qsame_big A1 m1 c1 z at_ cut n by_ w hm1 h hT
  · exact qsame_in A1 m1 c1 z at_ cut n by_ xs w hby h1 (by omega) hT

end Go.Proofs.YtnjohmgacmcdnaaDoor
