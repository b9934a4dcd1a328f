/-
  WholeBack, walked: it returns true, whatever the arguments.
-/
import Derived.Test.YtlabdhmhflkmbaaDoorWhoUp
import Derived.Test.YtlabdhmhflkmbaaDoorIdxR
import Derived.Test.YtlabdhmhflkmbaaDoorPackA
import Derived.Test.YtlabdhmhflkmbaaDoorRising
import Derived.Test.YtlabdhmhflkmbaaDoorSame
import Derived.Test.YtlabdhmhflkmbaaDoorPick
import Derived.Test.YtlabdhmhflkmbaaDoorWords
import Derived.Laws.BitsAllLaws
import Derived.Deep.DeepCutAuto
namespace Go.Proofs.YtlabdhmhflkmbaaDoor
open Go.RowKit

theorem body_pos {k s : Nat} {xs : List (Int × Nat)} (hs : 1 ≤ s) (h : 1 ≤ xs.length) : 1 ≤ (bodyTo k s xs (manyQ s xs)).length := by
  have h0 := (lt_many (xs := xs) hs 0).2 (by omega)
  obtain ⟨j, hj⟩ : ∃ j, manyQ s xs = j + 1 := ⟨manyQ s xs - 1, by omega⟩
  rw [hj, body_succ, List.length_append, sum_len]
  omega
theorem set_byte {bs : List Nat} (hb : ∀ x ∈ bs, x < 256) (k : Nat) {v : Nat} (hv : v < 256) : ∀ x ∈ bs.set k v, x < 256 := by
  intro x hx
  rcases List.mem_or_eq_of_mem_set hx with h | rfl
  · exact hb x h
  · exact hv
theorem set_same {bs : List Nat} {k : Nat} (h : k < bs.length) : bs.set k (bs.getD k 0 ^^^ 0) = bs := by
  rw [Nat.xor_zero, List.getD_eq_getElem?_getD, List.getElem?_eq_getElem h]
  simp

set_option maxRecDepth 20000 in
set_option maxHeartbeats 1000000 in
theorem wback_big (i : Bool) (A1 : Option Addr) (m1 c1 : Nat) (s t : Int) (by_ : Nat) (w : World) (_hl : m1 ≤ 9223372036854775807) (h : 100 < m1) (hR : RoomW w) (hT : TzW w) :
    Calls Tryd.prog 4 #[.bool i, .slice A1 m1 c1, .int .i64 s, .int .i64 t, .int .u8 (by_ : Int)] w (RetTrue w) := by
  go_enter Tryd.func4, Tryd.ntmps4
  go_wp2_with (go_at_call 5; refine (up16_any _ hR hT).mono ?_; rintro e w1 ⟨rfl, hb1⟩)
  go_ret
  exact ⟨rfl, hb1⟩

set_option maxRecDepth 20000 in
set_option maxHeartbeats 8000000 in
theorem wback_in (i : Bool) (A1 : Option Addr) (m1 c1 : Nat) (s t : Int) (by_ : Nat) (xs : List (Int × Nat)) (w : World) (hby : by_ ≤ 255) (h1 : RdQ w w.heap.size A1 m1 c1 xs) (hm1 : m1 ≤ 100) (hR : RoomW w) (hT : TzW w) :
    Calls Tryd.prog 4 #[.bool i, .slice A1 m1 c1, .int .i64 s, .int .i64 t, .int .u8 (by_ : Int)] w (RetTrue w) := by
  go_enter Tryd.func4, Tryd.ntmps4
  go_wp2_with fail
  refine (up16_any w hR hT).mono ?_
  rintro e w1 ⟨rfl, hb1⟩
  obtain ⟨k, hkk⟩ : ∃ k : Nat, k = if i then 2 else 1 := ⟨_, rfl⟩
  have hk : k = 1 ∨ k = 2 := by rw [hkk]; cases i <;> simp
  go_upto_if 30 with fail
  go_cut [12] (fun x wx => x = .int .i64 (k : Int) ∧ wx = w1)
  case first =>
    cases i
    all_goals
      subst hkk
      go_wp2_with fail
      go_meet
      exact ⟨rfl, rfl⟩
  case rest =>
  obtain ⟨rfl, rfl⟩ := hcut
  rename World => w1
  clear hkk
  go_wp2_with fail
  refine (rising_any A1 m1 c1 xs w1 ((h1.below hb1).more hb1.size) (by omega)).mono ?_
  rintro e w2 ⟨x, Ax, cx, rfl, hox, hrx, hlx⟩
  have hb2 := hb1.trans (hox.bel.mono hb1.size)
  have hx2 := hox.rd
  clear hox h1 hb1
  have HX := Lib.hid hx2.all
  have HRX : Hid (Rises x) := Lib.hid hrx
  obtain ⟨lx, hlx'⟩ : ∃ l, x.length = l := ⟨_, rfl⟩
  rw [hlx'] at hx2 hlx ⊢
  have HLX := Lib.hid hlx'
  have hlx2 : lx ≤ 100 := by omega
  clear hrx hlx' hlx
  obtain ⟨p, hp⟩ : ∃ p : Nat, s % 120 = (p : Int) := ⟨(s % 120).toNat, by have := Int.emod_nonneg s (show (120 : Int) ≠ 0 by omega); omega⟩
  have hpm : p < 120 := by have := Int.emod_lt_of_pos s (show (0 : Int) < 120 by omega); omega
  have hP := fun X => pick_any s 120 X (by omega) (by omega)
  rw [hp] at hP
  clear hp
  go_wp2_with fail
  refine (hP _).mono ?_
  rintro e w4 ⟨rfl, rfl⟩
  clear hP
  go_wp2_with fail
  refine (pack_good k (1 + p) _ (by simp) Ax lx cx x _ hx2 (by omega) hk (by omega) (by omega) HRX.out (hR.bel hb2) (hT.bel hb2)).mono ?_
  rintro e w4 ⟨A4, c4, rfl, ho4⟩
  have hb4 := hb2.trans (ho4.bel.mono hb2.size)
  have hx4 := (hx2.below ho4.bel).more ho4.bel.size
  have HX2 := Lib.hid hx2
  clear hx2
  have HBY : Hid (∀ u ∈ blockB k (1 + p) x, u < 256) := Lib.hid (block_lt (by omega))
  have HWB := Lib.hid (whole_back hk HX.out HRX.out (by rw [HLX.out]; omega) (show 1 ≤ 1 + p by omega) (by omega))
  have HGI : Hid (getI (blockB k (1 + p) x) = .ok (k, entsTo k (1 + p) x (manyQ (1 + p) x), (idxB k (entsTo k (1 + p) x (manyQ (1 + p) x))).length)) := Lib.hid (whole_is hk HX.out HRX.out (by rw [HLX.out]; omega) (by omega) (by omega) rfl)
  have HTU := Lib.hid (fun (r y : Nat) hr hy h0 => whole_turned (i := r) (y := y) hk HX.out HRX.out (by rw [HLX.out]; omega) (show 1 ≤ 1 + p by omega) (by omega) hr hy h0)
  have HSM : Hid ((blockB k (1 + p) x).length ≤ 7000) := Lib.hid (block_small HX.out (by rw [HLX.out]; omega) (by omega))
  have HLN : Hid ((blockB k (1 + p) x).length = (idxB k (entsTo k (1 + p) x (manyQ (1 + p) x))).length + (bodyTo k (1 + p) x (manyQ (1 + p) x)).length) := Lib.hid (by unfold blockB; rw [List.length_append])
  have HPO : Hid (1 ≤ lx → 1 ≤ (bodyTo k (1 + p) x (manyQ (1 + p) x)).length) := Lib.hid (fun h => body_pos (by omega) (by rw [HLX.out]; exact h))
  have HIP : Hid (1 ≤ (idxB k (entsTo k (1 + p) x (manyQ (1 + p) x))).length) := Lib.hid (by simp only [idxB, headB, List.length_append, List.length_cons]; omega)
  obtain ⟨il, HIL⟩ : ∃ il, Hid ((idxB k (entsTo k (1 + p) x (manyQ (1 + p) x))).length = il) := ⟨_, Lib.hid rfl⟩
  obtain ⟨dl, HDL⟩ : ∃ dl, Hid ((bodyTo k (1 + p) x (manyQ (1 + p) x)).length = dl) := ⟨_, Lib.hid rfl⟩
  rw [HIL.out] at HGI HTU HLN HIP
  rw [HDL.out] at HTU HLN HPO
  generalize entsTo k (1 + p) x (manyQ (1 + p) x) = es at *
  generalize blockB k (1 + p) x = bl at *
  obtain ⟨L, HL⟩ : ∃ L, Hid (bl.length = L) := ⟨_, Lib.hid rfl⟩
  rw [HL.out] at ho4 HSM HLN ⊢
  have hil1 := HIP.out
  have hlen := HLN.out
  have hsm := HSM.out
  obtain ⟨g, rfl⟩ : ∃ g, A4 = some ⟨g, 0, none⟩ := by
    obtain ⟨g, c, e⟩ := ho4.lenform (m := L - 1) (by rw [HL.out]; omega)
    injection e with e1 e2 e3
    exact ⟨g, e1⟩
  have hLz : (((L : Nat) : Int) == 0) = false := by simp; omega
  have hwd := wdec_any (some ⟨g, 0, none⟩) L c4 w4.heap.size bl w4 ho4.rd (Nat.le_refl _) HBY.out (by omega) (hR.bel hb4) (hT.bel hb4)
  rw [HWB.out] at hwd
  replace hlen := Lib.hid hlen
  go_wp2_with fail
  refine hwd.mono ?_
  clear hwd
  rintro e w5 ⟨A5, c5, rfl, ho5⟩
  simp only at ho5
  rw [show errV (x, 0).2 = .nilIface from rfl]
  rw [show (x, 0).1.length = lx from HLX.out]
  rw [HLX.out] at ho5
  have hb5 := hb4.trans (ho5.bel.mono hb4.size)
  have hx5 := (hx4.below ho5.bel).more ho5.bel.size
  have ho4' := ho4.keep ho5.bel
  have hS1 := same_any A5 Ax lx c5 lx cx x x w5 ho5.rd hx5 (by omega) (by omega)
  clear ho4 hx4 hb4 ho5
  go_wp2_with fail
  refine hS1.mono ?_
  rintro e w6 ⟨⟨b, rfl, hb⟩, hb56⟩
  obtain rfl := hb.2 (by first | rfl | trivial)
  have hb6 := hb5.trans (hb56.mono hb5.size)
  have hx6 := (hx5.below hb56).more hb56.size
  have ho6 := ho4'.keep hb56
  clear hS1 hb hb5 hx5 ho4' hb56
  have hgi := rgeti_any (some ⟨g, 0, none⟩) L c4 w6.heap.size bl w6 ho6.rd (Nat.le_refl _) HBY.out (by omega)
  rw [HGI.out] at hgi
  go_wp2_with fail
  refine hgi.mono ?_
  rintro e w7 ⟨A7, c7, rfl, ho7⟩
  have hb7 := hb6.trans (ho7.bel.mono hb6.size)
  have hx7 := (hx6.below ho7.bel).more ho7.bel.size
  have ho7' := ho6.keep ho7.bel
  clear hgi hb6 hx6 ho6 ho7
  by_cases h0 : lx = 0
  · subst h0
    go_wp2_with fail
    go_ret
    exact ⟨rfl, hb7⟩
  · have hd1 := HPO.out (by omega)
    have hl0 : (((lx : Nat) : Int) == 0) = false := by simp; omega
    have hge : ¬ (L : Int) ≤ (il : Int) := by have := hlen.out; omega
    have hsub : (L : Int) - (il : Int) = (dl : Int) := by have := hlen.out; omega
    have hpk := pick_any t (dl : Int) w7 (by omega) (by have := hlen.out; omega)
    obtain ⟨r, hr, hrd⟩ : ∃ r : Nat, t % (dl : Int) = (r : Int) ∧ r < dl := by
      have e1 := Int.emod_nonneg t (show (dl : Int) ≠ 0 by omega)
      have e2 := Int.emod_lt_of_pos t (show (0 : Int) < (dl : Int) by omega)
      exact ⟨(t % (dl : Int)).toNat, by omega, by omega⟩
    rw [hr] at hpk
    clear hr
    go_wp2_with fail
    refine hpk.mono ?_
    rintro e w8 ⟨rfl, rfl⟩
    clear hpk
    obtain ⟨kk, hkk⟩ : ∃ kk, kk = il + r := ⟨_, rfl⟩
    have hkL : kk < L := by have := hlen.out; omega
    have hadd : (il : Int) + (r : Int) = (kk : Int) := by omega
    have hcell := ho7'.cell kk hkL
    have hfree := ho7'.free kk
    have hkLi : (kk : Int) < (L : Int) := by omega
    have hk0 : (0 : Int) ≤ (kk : Int) := by omega
    have HTT := Lib.hid (fun hy h0 => HTU.out r by_ hrd hy h0)
    rw [← hkk] at HTT
    have HST : Hid (bl.set kk (bl.getD kk 0 ^^^ 0) = bl) := Lib.hid (set_same (by rw [HL.out]; exact hkL))
    have hx := byte_at HBY.out kk
    have HKK := Lib.hid hkk
    generalize bl.getD kk 0 = y at *
    have hxor := u8_xor_nat y by_ (by omega) (by omega)
    have HQB := Lib.hid (set_byte HBY.out kk (Nat.xor_lt_two_pow (n := 8) hx (by omega) : y ^^^ by_ < 256))
    clear hkk hge hsub
    go_upto_region 19 with fail
    have ho8 := ho7'.set kk (y ^^^ by_)
    clear hcell hfree hxor ho7' hx hkL hkLi hk0 hadd hb7
    generalize w7.setCell ⟨g, kk, none⟩ (.int .u8 ((y ^^^ by_ : Nat) : Int)) = w8 at *
    have hb8 := hb2.trans (ho8.bel.mono hb2.size)
    have hx8 := (HX2.out.below ho8.bel).more ho8.bel.size
    have hwd := wdec_any (some ⟨g, 0, none⟩) L c4 w8.heap.size _ w8 ho8.rd (Nat.le_refl _) HQB.out (by omega) (hR.bel hb8) (hT.bel hb8)
    clear ho8
    by_cases hz : by_ = 0
    · subst hz
      rw [HST.out, HWB.out] at hwd
      replace hwd : Calls Tryd.prog 9 #[.slice (some ⟨g, 0, none⟩) L c4] w8 fun e w' => ∃ v, e = .returned (.tuple #[v, .nilIface]) ∧ Below w8.heap.size w8 w' := hwd.mono (by
        rintro e w' ⟨A, c, rfl, ho⟩
        exact ⟨_, rfl, ho.bel⟩)
      go_wp2_with fail
      refine hwd.mono ?_
      rintro e w9 ⟨v9, rfl, hb9⟩
      clear hwd
      go_wp2
      go_ret
      exact ⟨rfl, hb8.trans (hb9.mono hb8.size)⟩
    · obtain ⟨q, hq, hwq⟩ := HTT.out (by omega) hz
      have HQL : Hid ((x.take q).length = q) := Lib.hid (by rw [List.length_take]; omega)
      rw [hwq] at hwd
      rw [HLX.out] at hq
      replace hwd : Calls Tryd.prog 9 #[.slice (some ⟨g, 0, none⟩) L c4] w8 fun e w' => ∃ A c, e = .returned (.tuple #[.slice A q c, .iface 52 (.int .i64 7)]) ∧ RdQ w' w'.heap.size A q c (x.take q) ∧ Below w8.heap.size w8 w' := hwd.mono (by
        rintro e w' ⟨A, c, rfl, ho⟩
        simp only at ho ⊢
        rw [HQL.out] at ho ⊢
        exact ⟨A, c, rfl, ho.rd, ho.bel⟩)
      have hz' : ((by_ : Int) == 0) = false := by simp; omega
      replace hz := Lib.hid hz
      clear hwq
      go_wp2_with fail
      refine hwd.mono ?_
      rintro e w9 ⟨A9, c9, rfl, hq9, hb9⟩
      have hb9' := hb8.trans (hb9.mono hb8.size)
      have hx9 := ((hx8.below hb9).more hb9.size).cutHead (n := q) (by omega)
      have hS := same_any A9 Ax q c9 q cx (x.take q) (x.take q) w9 hq9 hx9 (by omega) (by omega)
      have hcd := fun w' => code_any 7 w' (by omega)
      rw [show errV 7 = .iface 52 (.int .i64 7) from rfl] at hcd
      have hql : (q : Int) < (lx : Int) := by omega
      have hcap := HX2.out.cap
      have hqc : (q : Int) ≤ (cx : Int) := by omega
      have hmin : (if lx < q then (lx : Int) else (q : Int)) = (q : Int) := by rw [if_neg (by omega)]
      clear hwd hq9 hx9 hx8 hb9 hb8
      go_wp2_with fail
      refine (hcd _).mono ?_
      rintro e w10 ⟨rfl, rfl⟩
      clear hcd
      go_wp2_with fail
      refine hS.mono ?_
      rintro e w10 ⟨⟨b, rfl, hb⟩, hb10⟩
      obtain rfl := hb.2 (by first | rfl | trivial)
      go_wp2
      go_ret
      exact ⟨rfl, hb9'.trans (hb10.mono hb9'.size)⟩

theorem wback_all (i : Bool) (A1 : Option Addr) (m1 c1 : Nat) (s t : Int) (by_ : Nat) (xs : List (Int × Nat)) (w : World) (hby : by_ ≤ 255) (h1 : RdQ w w.heap.size A1 m1 c1 xs) (hl : m1 ≤ 9223372036854775807) (hR : RoomW w) (hT : TzW w) :
    Calls Tryd.prog 4 #[.bool i, .slice A1 m1 c1, .int .i64 s, .int .i64 t, .int .u8 (by_ : Int)] w (RetTrue w) := by
  by_cases h : 100 < m1
  · exact wback_big i A1 m1 c1 s t by_ w hl h hR hT
  · exact wback_in i A1 m1 c1 s t by_ xs w hby h1 (by omega) hR hT

end Go.Proofs.YtlabdhmhflkmbaaDoor
