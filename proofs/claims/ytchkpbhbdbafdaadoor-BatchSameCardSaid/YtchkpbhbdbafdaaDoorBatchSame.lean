/-
  BatchSame, walked: it returns true, whatever the arguments.
-/
import Derived.Test.YtchkpbhbdbafdaaDoorBatSameLib
import Derived.Test.YtchkpbhbdbafdaaDoorKinAllG
import Derived.Test.YtchkpbhbdbafdaaDoorCode
import Derived.Deep.CutBlock
namespace Go.Proofs.YtchkpbhbdbafdaaDoor
open Go.RowKit

set_option maxRecDepth 20000 in
set_option maxHeartbeats 1000000 in
theorem bsame_big (A : Option Addr) (m c : Nat) (z n : Int) (w : World) (_hl : m ≤ 9223372036854775807) (h : 600 < m) (hT : TabsW w) :
    Calls Tryd.prog 4 #[.int .i64 z, .slice A m c, .int .i64 n] w (RetTrue w) := by
  go_enter Tryd.func4, Tryd.ntmps4
  go_wp2_with (go_at_call 5; refine (up11_any _ hT).mono ?_; rintro e w1 ⟨rfl, hb1⟩)
  go_ret
  exact ⟨rfl, hb1⟩

set_option maxRecDepth 20000 in
set_option maxHeartbeats 20000000 in
theorem bsame_in (A : Option Addr) (m c : Nat) (z n : Int) (bs : List Nat) (w : World) (hn : -9223372036854775808 ≤ n ∧ n ≤ 9223372036854775807) (h1 : Rd w w.heap.size A m c bs) (hb1 : ∀ x ∈ bs, x < 256) (hm : m ≤ 600) (hT : TabsW w) :
    Calls Tryd.prog 4 #[.int .i64 z, .slice A m c, .int .i64 n] w (RetTrue w) := by
  have HBy := Lib.hid hb1
  have HL1 : Hid (bs.length = m) := Lib.hid h1.len
  have hN := bnext_any
  unfold NextC at hN
  have HN := Lib.hid hN
  obtain ⟨N, HNN⟩ : ∃ N, Hid ((min n 32).toNat = N) := ⟨_, Lib.hid rfl⟩
  clear hb1 hN
  go_enter Tryd.func4, Tryd.ntmps4
  go_wp2_with fail
  refine (up11_any w hT).mono ?_
  rintro e w1 ⟨rfl, hw1⟩
  go_wp2_with fail
  refine (new_any A m c bs w1 ((h1.below hw1).more hw1.size) HBy.out (by omega)).mono ?_
  rintro e w2 ⟨rfl, hrd, hb2, hs2⟩
  have hg8 := hw1.size
  have hT1 := (hT.bel hw1).lt
  have hw2 := hw1.trans (hb2.mono hw1.size)
  have hT2 := hT.bel hw2
  have hNx := HN.out w1.heap.size A m c bs 0 z n zeroK w2 hrd (by omega) hT1 hT2 hn zeroK_may (by simp [zeroK])
  generalize w1.heap.size = g8 at *
  clear hb2 hs2 hw1
  clear w1
  go_wp2_with fail
  refine hNx.mono ?_
  rintro e w3 ⟨xs, sT, pT, eT, AT, cT, aT, hd, rfl, hq, hA, hr8, hp, hg3⟩
  obtain ⟨hle1, hle2, hle3, hle4⟩ := hd.le zeroK_may
  have HST : Hid (Rem z N 0 xs sT pT eT zeroK ((flat bs).drop 0)) := Lib.hid (Rem.start hd HNN.out)
  obtain ⟨ev, HE⟩ : ∃ ev, Hid (errV eT = ev) := ⟨_, Lib.hid rfl⟩
  obtain ⟨L, HL⟩ : ∃ L, Hid (xs.length = L) := ⟨_, Lib.hid rfl⟩
  rw [HL.out] at hq hle2 ⊢
  rw [HE.out]
  have hw3 := below_far hw2 hg3 hg8
  have HP := Lib.hid hp
  clear hNx hd hp hrd hT2 hA hw2 hg3 hle4
  clear w2
  go_upto_region 6 with fail
  have hal : Below w3.heap.size w3 (w3.alloc (.cells #[.int .i64 (sT.n : Int), .int .i64 sT.t, .int .i64 sT.d, .int .u64 (sT.v : Int), .int .u64 (sT.e : Int), .int .u64 (sT.x.prev : Int), .int .i64 (sT.x.lead : Int), .int .i64 (sT.x.len : Int)] 32)) := by repeat (first | with_reducible exact Below.refl _ _ | with_reducible assumption | with_reducible refine Below.drew ?_ | with_reducible refine below_drewN ?_ _ | with_reducible refine Below.alloc ?_ (by (first | assumption | omega | (simp; done) | (simp; omega))) _ | with_reducible refine below_set ?_ (by (first | assumption | omega | (simp; done) | (simp; omega))) _ _)
  have x10 := BoxL.new w3 [.int .i64 (sT.n : Int), .int .i64 sT.t, .int .i64 sT.d, .int .u64 (sT.v : Int), .int .u64 (sT.e : Int), .int .u64 (sT.x.prev : Int), .int .i64 (sT.x.lead : Int), .int .i64 (sT.x.len : Int)] 32
  change BoxL (w3.alloc (.cells #[.int .i64 (sT.n : Int), .int .i64 sT.t, .int .i64 sT.d, .int .u64 (sT.v : Int), .int .u64 (sT.e : Int), .int .u64 (sT.x.prev : Int), .int .i64 (sT.x.lead : Int), .int .i64 (sT.x.len : Int)] 32)) w3.heap.size [.int .i64 (sT.n : Int), .int .i64 sT.t, .int .i64 sT.d, .int .u64 (sT.v : Int), .int .u64 (sT.e : Int), .int .u64 (sT.x.prev : Int), .int .i64 (sT.x.lead : Int), .int .i64 (sT.x.len : Int)] at x10
  replace hq := (hq.below hal).more hal.size
  replace hr8 := hr8.below hal
  replace hw3 := hw3.trans (hal.mono hw3.size)
  clear hal
  generalize w3.alloc (.cells #[.int .i64 (sT.n : Int), .int .i64 sT.t, .int .i64 sT.d, .int .u64 (sT.v : Int), .int .u64 (sT.e : Int), .int .u64 (sT.x.prev : Int), .int .i64 (sT.x.lead : Int), .int .i64 (sT.x.len : Int)] 32) = w4 at *
  generalize w3.heap.size = g10 at *
  clear w3
  have hnew := new_any A m c bs w4 ((h1.below hw3).more hw3.size) HBy.out (by omega)
  go_wp2_with fail
  refine hnew.mono ?_
  rintro e w5 ⟨rfl, hr12, hb5, hs5⟩
  clear hnew
  go_upto_block 0 with fail
  have x13 := (BoxL.new w5 [.int .i64 0, .int .i64 0, .int .i64 0, .int .u64 0, .int .u64 0, .int .u64 0, .int .i64 0, .int .i64 0] 32).onA (.cells #[.int .i64 0, .int .i64 0, .int .i64 0, .int .u64 0, .int .u64 0, .int .u64 0, .int .i64 0, .int .i64 0] 32)
  have x14 := BoxL.new (w5.alloc (.cells #[.int .i64 0, .int .i64 0, .int .i64 0, .int .u64 0, .int .u64 0, .int .u64 0, .int .i64 0, .int .i64 0] 32)) [.int .i64 0, .int .i64 0, .int .i64 0, .int .u64 0, .int .u64 0, .int .u64 0, .int .i64 0, .int .i64 0] 32
  simp only [World.size_alloc] at x14
  change BoxL ((w5.alloc (.cells #[.int .i64 0, .int .i64 0, .int .i64 0, .int .u64 0, .int .u64 0, .int .u64 0, .int .i64 0, .int .i64 0] 32)).alloc (.cells #[.int .i64 0, .int .i64 0, .int .i64 0, .int .u64 0, .int .u64 0, .int .u64 0, .int .i64 0, .int .i64 0] 32)) w5.heap.size [.int .i64 0, .int .i64 0, .int .i64 0, .int .u64 0, .int .u64 0, .int .u64 0, .int .i64 0, .int .i64 0] at x13
  change BoxL ((w5.alloc (.cells #[.int .i64 0, .int .i64 0, .int .i64 0, .int .u64 0, .int .u64 0, .int .u64 0, .int .i64 0, .int .i64 0] 32)).alloc (.cells #[.int .i64 0, .int .i64 0, .int .i64 0, .int .u64 0, .int .u64 0, .int .u64 0, .int .i64 0, .int .i64 0] 32)) (w5.heap.size + 1) [.int .i64 0, .int .i64 0, .int .i64 0, .int .u64 0, .int .u64 0, .int .u64 0, .int .i64 0, .int .i64 0] at x14
  have hal : Below w5.heap.size w5 ((w5.alloc (.cells #[.int .i64 0, .int .i64 0, .int .i64 0, .int .u64 0, .int .u64 0, .int .u64 0, .int .i64 0, .int .i64 0] 32)).alloc (.cells #[.int .i64 0, .int .i64 0, .int .i64 0, .int .u64 0, .int .u64 0, .int .u64 0, .int .i64 0, .int .i64 0] 32)) := by repeat (first | with_reducible exact Below.refl _ _ | with_reducible assumption | with_reducible refine Below.drew ?_ | with_reducible refine below_drewN ?_ _ | with_reducible refine Below.alloc ?_ (by (first | assumption | omega | (simp; done) | (simp; omega))) _ | with_reducible refine below_set ?_ (by (first | assumption | omega | (simp; done) | (simp; omega))) _ _)
  rw [hs5] at x13 x14
  have hl10 := x10.lt
  have hl8 := hr8.lt
  have hb45 := hb5.trans (hal.mono hb5.size)
  have hT12 := (hT.bel hw3).lt
  replace hr12 := hr12.below hal
  replace x10 := x10.below hb45
  replace hq := hq.below hb45
  replace hr8 := hr8.below hb45
  have hg12 : w.heap.size ≤ w4.heap.size := hw3.size
  replace hw3 := hw3.trans (hb45.mono hw3.size)
  clear hal hb45 hb5 hs5
  generalize (w5.alloc (.cells #[.int .i64 0, .int .i64 0, .int .i64 0, .int .u64 0, .int .u64 0, .int .u64 0, .int .i64 0, .int .i64 0] 32)).alloc (.cells #[.int .i64 0, .int .i64 0, .int .i64 0, .int .u64 0, .int .u64 0, .int .u64 0, .int .i64 0, .int .i64 0] 32) = W at *
  generalize w4.heap.size = g12 at *
  clear w5
  clear w4
  go_cut [15, 16] (fun x15 _ wx => OutBS W g12 m bs z N xs sT pT eT x15 wx)
  case first =>
    go_wp2_with fail
    go_loopw [15, 16] (fun x15 x16 wr => AtBS W g12 A m c bs z N xs sT pT eT x15 x16 wr) (fun _ i _ => N - (intOf i).toNat)
    case atStart => exact ⟨0, 0, zeroK, Nat.zero_le _, rfl, rfl, HST.out, zeroK_may, rfl, hr12, x13, x14, Below.refl _ _⟩
    case round =>
      clear x13 x14 hr12 HP hr8
      obtain ⟨i, a, s, hi, rfl, rfl, hrem, hs, hsn, hrd, x13, x14, hB⟩ := hrel
      have hat := hrd.at_
      have hNN := HNN.out
      have l14 := x14.lt
      have hwr := hw3.trans (hB.mono hg12)
      by_cases hlt : i < N
      · have hc1 : (i : Int) < n := by omega
        have hc2 : (i : Int) < 32 := by omega
        have hNx := HN.out g12 A m c bs a z 1 s wr hrd (by omega) hT12 (hT.bel hwr) (by omega) hs (by omega)
        have hs1000 : s.n ≤ 1000000 := by omega
        have HREM := Lib.hid hrem
        have HSN := Lib.hid hsn
        have HLT := Lib.hid hlt
        clear hrem hNN hsn hlt
        obtain ⟨d0, d1, d2, d3, d4, d5, d6, d7⟩ := x13.get8
        go_wp2_with fail
        refine hNx.mono ?_
        rintro e w6 ⟨xs1, s1, p1, er, A1, c1, a1, hd, rfl, hq1, hA1, hr1, hp1, hg1⟩
        clear d0 d1 d2 d3 d4 d5 d6 d7 hNx
        replace x13 := x13.grown hg1 (by simp)
        replace x14 := x14.grown hg1 (by simp; omega)
        have hB6 := hB.trans (gr_to_below hg1 (by omega))
        obtain ⟨ev1, HE1⟩ : ∃ ev1, Hid (errV er = ev1) := ⟨_, Lib.hid rfl⟩
        obtain ⟨L1, HL1'⟩ : ∃ L1, Hid (xs1.length = L1) := ⟨_, Lib.hid rfl⟩
        rw [HL1'.out] at hq1 ⊢
        rw [HE1.out]
        have HD := Lib.hid hd
        have HP1 := Lib.hid hp1
        have hs6 := hg1.size
        clear hd hp1 hg1 hB hwr hrd hA1 l14 hs6
        clear wr
        go_upto_region 14 with fail
        have hal : Below w6.heap.size w6 (w6.alloc (.cells #[.int .i64 (s1.n : Int), .int .i64 s1.t, .int .i64 s1.d, .int .u64 (s1.v : Int), .int .u64 (s1.e : Int), .int .u64 (s1.x.prev : Int), .int .i64 (s1.x.lead : Int), .int .i64 (s1.x.len : Int)] 32)) := by repeat (first | with_reducible exact Below.refl _ _ | with_reducible assumption | with_reducible refine Below.drew ?_ | with_reducible refine below_drewN ?_ _ | with_reducible refine Below.alloc ?_ (by (first | assumption | omega | (simp; done) | (simp; omega))) _ | with_reducible refine below_set ?_ (by (first | assumption | omega | (simp; done) | (simp; omega))) _ _)
        have x18 := BoxL.new w6 [.int .i64 (s1.n : Int), .int .i64 s1.t, .int .i64 s1.d, .int .u64 (s1.v : Int), .int .u64 (s1.e : Int), .int .u64 (s1.x.prev : Int), .int .i64 (s1.x.lead : Int), .int .i64 (s1.x.len : Int)] 32
        change BoxL (w6.alloc (.cells #[.int .i64 (s1.n : Int), .int .i64 s1.t, .int .i64 s1.d, .int .u64 (s1.v : Int), .int .u64 (s1.e : Int), .int .u64 (s1.x.prev : Int), .int .i64 (s1.x.lead : Int), .int .i64 (s1.x.len : Int)] 32)) w6.heap.size [.int .i64 (s1.n : Int), .int .i64 s1.t, .int .i64 s1.d, .int .u64 (s1.v : Int), .int .u64 (s1.e : Int), .int .u64 (s1.x.prev : Int), .int .i64 (s1.x.lead : Int), .int .i64 (s1.x.len : Int)] at x18
        have l14 := x14.lt
        replace x13 := x13.below hal
        replace x14 := x14.below hal
        replace hq1 := (hq1.below hal).more hal.size
        replace hr1 := hr1.below hal
        have hB7 := hB6.trans (hal.mono (by omega))
        clear hal hB6
        generalize w6.alloc (.cells #[.int .i64 (s1.n : Int), .int .i64 s1.t, .int .i64 s1.d, .int .u64 (s1.v : Int), .int .u64 (s1.e : Int), .int .u64 (s1.x.prev : Int), .int .i64 (s1.x.lead : Int), .int .i64 (s1.x.len : Int)] 32) = w7 at *
        generalize w6.heap.size = g18 at *
        clear w6
        have hw7 := hw3.trans (hB7.mono hg12)
        have hget := get_all z A m c w.heap.size bs (a : Int) s w7 (h1.below hw7) hw7.size HBy.out (by omega) (by omega) hs hs1000 (hT.bel hw7).room (hT.bel hw7).tz
        rw [restL_yes (by rw [HL1.out]; exact hat)] at hget
        obtain ⟨d0, d1, d2, d3, d4, d5, d6, d7⟩ := x14.get8
        go_wp2_with fail
        refine hget.mono ?_
        rintro e w8 ⟨r, hkg, rfl, hb8⟩
        clear d0 d1 d2 d3 d4 d5 d6 d7 hget
        obtain ⟨hrt, hrv, hrs, hrn, hre, hok⟩ := kg_in hs hkg
        obtain ⟨rfl, hyes, hno⟩ := HD.out.one hkg
        have HKG := Lib.hid hkg
        rw [HE1.out]
        have hCd := fun X => code_any r.e X (by omega)
        rw [HE1.out] at hCd
        have hne : ((r.e : Int) != (r.e : Int)) = false := by simp
        clear hkg HD
        go_upto_region 15 with fail
        have b20 := (BoxL.new w8 [.int .i64 r.t, .int .u64 (r.v : Int)] 42).onA (.cells #[.int .i64 (r.s.n : Int), .int .i64 r.s.t, .int .i64 r.s.d, .int .u64 (r.s.v : Int), .int .u64 (r.s.e : Int), .int .u64 (r.s.x.prev : Int), .int .i64 (r.s.x.lead : Int), .int .i64 (r.s.x.len : Int)] 32)
        have b21 := BoxL.new (w8.alloc (.cells #[.int .i64 r.t, .int .u64 (r.v : Int)] 42)) [.int .i64 (r.s.n : Int), .int .i64 r.s.t, .int .i64 r.s.d, .int .u64 (r.s.v : Int), .int .u64 (r.s.e : Int), .int .u64 (r.s.x.prev : Int), .int .i64 (r.s.x.lead : Int), .int .i64 (r.s.x.len : Int)] 32
        simp only [World.size_alloc] at b21
        have hal : Below w8.heap.size w8 ((w8.alloc (.cells #[.int .i64 r.t, .int .u64 (r.v : Int)] 42)).alloc (.cells #[.int .i64 (r.s.n : Int), .int .i64 r.s.t, .int .i64 r.s.d, .int .u64 (r.s.v : Int), .int .u64 (r.s.e : Int), .int .u64 (r.s.x.prev : Int), .int .i64 (r.s.x.lead : Int), .int .i64 (r.s.x.len : Int)] 32)) := by repeat (first | with_reducible exact Below.refl _ _ | with_reducible assumption | with_reducible refine Below.drew ?_ | with_reducible refine below_drewN ?_ _ | with_reducible refine Below.alloc ?_ (by (first | assumption | omega | (simp; done) | (simp; omega))) _ | with_reducible refine below_set ?_ (by (first | assumption | omega | (simp; done) | (simp; omega))) _ _)
        change BoxL ((w8.alloc (.cells #[.int .i64 r.t, .int .u64 (r.v : Int)] 42)).alloc (.cells #[.int .i64 (r.s.n : Int), .int .i64 r.s.t, .int .i64 r.s.d, .int .u64 (r.s.v : Int), .int .u64 (r.s.e : Int), .int .u64 (r.s.x.prev : Int), .int .i64 (r.s.x.lead : Int), .int .i64 (r.s.x.len : Int)] 32)) w8.heap.size [.int .i64 r.t, .int .u64 (r.v : Int)] at b20
        change BoxL ((w8.alloc (.cells #[.int .i64 r.t, .int .u64 (r.v : Int)] 42)).alloc (.cells #[.int .i64 (r.s.n : Int), .int .i64 r.s.t, .int .i64 r.s.d, .int .u64 (r.s.v : Int), .int .u64 (r.s.e : Int), .int .u64 (r.s.x.prev : Int), .int .i64 (r.s.x.lead : Int), .int .i64 (r.s.x.len : Int)] 32)) (w8.heap.size + 1) [.int .i64 (r.s.n : Int), .int .i64 r.s.t, .int .i64 r.s.d, .int .u64 (r.s.v : Int), .int .u64 (r.s.e : Int), .int .u64 (r.s.x.prev : Int), .int .i64 (r.s.x.lead : Int), .int .i64 (r.s.x.len : Int)] at b21
        have hgx : w7.heap.size ≤ w8.heap.size := hb8.size
        replace hb8 := hb8.trans (hal.mono hb8.size)
        clear hal
        generalize (w8.alloc (.cells #[.int .i64 r.t, .int .u64 (r.v : Int)] 42)).alloc (.cells #[.int .i64 (r.s.n : Int), .int .i64 r.s.t, .int .i64 r.s.d, .int .u64 (r.s.v : Int), .int .u64 (r.s.e : Int), .int .u64 (r.s.x.prev : Int), .int .i64 (r.s.x.lead : Int), .int .i64 (r.s.x.len : Int)] 32) = w9 at *
        generalize w8.heap.size = gx at *
        clear w8
        have l18 := x18.lt
        have l14 := x14.lt
        replace x13 := x13.below hb8
        replace x14 := x14.below hb8
        replace x18 := x18.below hb8
        replace hr1 := hr1.below hb8
        replace hq1 := (hq1.below hb8).more hb8.size
        replace hw7 := hw7.trans (hb8.mono hw7.size)
        have hB9 := hB7.trans (hb8.mono (by omega))
        have hg18 : g18 < gx := by omega
        have hg14 : g12 + 1 + 1 < gx := by omega
        clear hb8 hB7 hgx l18 l14
        clear w7
        have sg := kst_guard
        by_cases he : r.e = 0
        · obtain ⟨rfl, rfl, hp1e⟩ := hyes he
          obtain rfl : L1 = 1 := HL1'.out.symm
          obtain ⟨hok1, hok2, _⟩ := hok he
          obtain ⟨hil, hxi, hrem1⟩ := HREM.out.step HLT.out HKG.out he
          rw [HL.out] at hil
          rw [List.drop_drop] at hrem1 hp1e
          obtain rfl : a1 = a + r.n := by
            have h1 := congrArg List.length (hp1e.symm.trans (HP1.out he))
            have h2 := hr1.at_
            rw [List.length_drop] at hok1
            rw [List.length_drop, List.length_drop, flat_length, HL1.out] at h1
            rw [flat_length, HL1.out] at hok1
            omega
          obtain ⟨ad1, rfl, hbl1, p0, p1'⟩ := hq1.at_ (k := 0) (by omega)
          have pp0 : w9.cell? ad1 = some (.int .i64 r.t) := by simpa [Addr.add] using p0
          have pp1 : w9.cell? ⟨ad1.block, ad1.off + 1, none⟩ = some (.int .u64 (r.v : Int)) := by simpa [Addr.add] using p1'
          obtain ⟨ad2, rfl, hbl2, q0, q1⟩ := (hq.below hB9).at_ hil
          rw [hxi] at q0 q1
          have hev : ev1 = .nilIface := by rw [← HE1.out, he]; rfl
          have hSN := Lib.hid (show r.s.n = i + 1 by rw [hok2, HSN.out])
          have HREM1 := Lib.hid hrem1
          have hil' : (i : Int) < (L : Int) := by omega
          have hRS := Lib.hid hrs
          clear hrem1 hok1 hok2 hok hyes hno hp1e HP1 HREM HKG hxi hq hq1 p0 p1' hre hrt hrv hrs he
          subst hev
          go_wp2_with fail
          refine (hCd _).mono ?_
          rintro e w10 ⟨rfl, rfl⟩
          go_wp2_with fail
          refine (hCd _).mono ?_
          rintro e w10 ⟨rfl, rfl⟩
          go_upto_region 21 with fail
          go_cut [131] (fun x131 wx => x131 = .bool false ∧ Below w9.heap.size w9 wx)
          case first =>
            have qs := fun w => run_neq_kst w r.s
            have qm := fun w => run_neq_smp w r.t (r.v : Int)
            have mg := smp_guard
            obtain ⟨a0, a1⟩ := b20.get2
            obtain ⟨d0, d1, d2, d3, d4, d5, d6, d7⟩ := b21.get8
            obtain ⟨e0, e1, e2, e3, e4, e5, e6, e7⟩ := x18.get8
            clear x10 x13 x14 x18 hr1 b20 b21 hCd
            go_quiet (fail)
            go_wp2
            go_meet
            exact ⟨rfl, by repeat (first | with_reducible exact Below.refl _ _ | with_reducible assumption | with_reducible refine Below.drew ?_ | with_reducible refine below_drewN ?_ _ | with_reducible refine Below.alloc ?_ (by (first | assumption | omega | (simp; done) | (simp; omega))) _ | with_reducible refine below_set ?_ (by (first | assumption | omega | (simp; done) | (simp; omega))) _ _)⟩
          case rest =>
            obtain ⟨rfl, hbe⟩ := hcut
            have y13 := x13.below hbe
            have y14 := x14.below hbe
            have y18 := x18.below hbe
            have y21 := b21.below hbe
            have hrz := hr1.below hbe
            have hgw : g12 ≤ w9.heap.size := by have := x13.lt; omega
            have hB10 := hB9.trans (hbe.mono hgw)
            have n14 : g12 + 1 + 1 ≠ g12 + 1 := by omega
            have n21 : gx + 1 ≠ g12 + 1 := by omega
            obtain ⟨d0, d1, d2, d3, d4, d5, d6, d7⟩ := y18.get8
            obtain ⟨k0, k1, k2, k3, k4, k5, k6, k7⟩ := y13.get8
            obtain ⟨f0, f1, f2, f3, f4, f5, f6, f7⟩ := y13.free8
            clear x13 x14 x18 b20 b21 hr1 hB9 hCd x10 hbe
            go_upto_region 24 with fail
            have z13 := y13.all8 (.int .i64 (r.s.n : Int)) (.int .i64 r.s.t) (.int .i64 r.s.d) (.int .u64 (r.s.v : Int)) (.int .u64 (r.s.e : Int)) (.int .u64 (r.s.x.prev : Int)) (.int .i64 (r.s.x.lead : Int)) (.int .i64 (r.s.x.len : Int))
            have z14 := y14.oth8 n14 (.int .i64 (r.s.n : Int)) (.int .i64 r.s.t) (.int .i64 r.s.d) (.int .u64 (r.s.v : Int)) (.int .u64 (r.s.e : Int)) (.int .u64 (r.s.x.prev : Int)) (.int .i64 (r.s.x.lead : Int)) (.int .i64 (r.s.x.len : Int))
            have z21 := y21.oth8 n21 (.int .i64 (r.s.n : Int)) (.int .i64 r.s.t) (.int .i64 r.s.d) (.int .u64 (r.s.v : Int)) (.int .u64 (r.s.e : Int)) (.int .u64 (r.s.x.prev : Int)) (.int .i64 (r.s.x.lead : Int)) (.int .i64 (r.s.x.len : Int))
            have hz := hrz.farG (gr_set8 wc (g12 + 1) (.int .i64 (r.s.n : Int)) (.int .i64 r.s.t) (.int .i64 r.s.d) (.int .u64 (r.s.v : Int)) (.int .u64 (r.s.e : Int)) (.int .u64 (r.s.x.prev : Int)) (.int .i64 (r.s.x.lead : Int)) (.int .i64 (r.s.x.len : Int))) (Nat.lt_succ_self g12)
            have hBz := below_set8 hB10 (Nat.le_succ g12) (.int .i64 (r.s.n : Int)) (.int .i64 r.s.t) (.int .i64 r.s.d) (.int .u64 (r.s.v : Int)) (.int .u64 (r.s.e : Int)) (.int .u64 (r.s.x.prev : Int)) (.int .i64 (r.s.x.lead : Int)) (.int .i64 (r.s.x.len : Int))
            clear d0 d1 d2 d3 d4 d5 d6 d7 k0 k1 k2 k3 k4 k5 k6 k7 f0 f1 f2 f3 f4 f5 f6 f7 y13 y14 y18 y21 hrz hB10
            generalize ((((((((wc.setCell ⟨g12 + 1, 0, none⟩ (.int .i64 (r.s.n : Int))).setCell ⟨g12 + 1, 1, none⟩ (.int .i64 r.s.t)).setCell ⟨g12 + 1, 2, none⟩ (.int .i64 r.s.d)).setCell ⟨g12 + 1, 3, none⟩ (.int .u64 (r.s.v : Int))).setCell ⟨g12 + 1, 4, none⟩ (.int .u64 (r.s.e : Int))).setCell ⟨g12 + 1, 5, none⟩ (.int .u64 (r.s.x.prev : Int))).setCell ⟨g12 + 1, 6, none⟩ (.int .i64 (r.s.x.lead : Int))).setCell ⟨g12 + 1, 7, none⟩ (.int .i64 (r.s.x.len : Int))) = W5 at *
            obtain ⟨d0, d1, d2, d3, d4, d5, d6, d7⟩ := z21.get8
            obtain ⟨k0, k1, k2, k3, k4, k5, k6, k7⟩ := z14.get8
            obtain ⟨f0, f1, f2, f3, f4, f5, f6, f7⟩ := z14.free8
            have t13 := z13.oth8 n14.symm (.int .i64 (r.s.n : Int)) (.int .i64 r.s.t) (.int .i64 r.s.d) (.int .u64 (r.s.v : Int)) (.int .u64 (r.s.e : Int)) (.int .u64 (r.s.x.prev : Int)) (.int .i64 (r.s.x.lead : Int)) (.int .i64 (r.s.x.len : Int))
            have t14 := z14.all8 (.int .i64 (r.s.n : Int)) (.int .i64 r.s.t) (.int .i64 r.s.d) (.int .u64 (r.s.v : Int)) (.int .u64 (r.s.e : Int)) (.int .u64 (r.s.x.prev : Int)) (.int .i64 (r.s.x.lead : Int)) (.int .i64 (r.s.x.len : Int))
            have hrt := hz.farG (gr_set8 W5 (g12 + 1 + 1) (.int .i64 (r.s.n : Int)) (.int .i64 r.s.t) (.int .i64 r.s.d) (.int .u64 (r.s.v : Int)) (.int .u64 (r.s.e : Int)) (.int .u64 (r.s.x.prev : Int)) (.int .i64 (r.s.x.lead : Int)) (.int .i64 (r.s.x.len : Int))) (Nat.lt_succ_of_lt (Nat.lt_succ_self g12))
            have hBt := below_set8 hBz (Nat.le_trans (Nat.le_succ g12) (Nat.le_succ _)) (.int .i64 (r.s.n : Int)) (.int .i64 r.s.t) (.int .i64 r.s.d) (.int .u64 (r.s.v : Int)) (.int .u64 (r.s.e : Int)) (.int .u64 (r.s.x.prev : Int)) (.int .i64 (r.s.x.lead : Int)) (.int .i64 (r.s.x.len : Int))
            have hiN : i + 1 ≤ N := HLT.out
            clear z13 z14 z21 hz hBz
            go_wp2_with fail
            go_roundw
            case rel => exact ⟨i + 1, a + r.n, r.s, hiN, by go_num, by go_num, HREM1.out, hRS.out, hSN.out, hrt, t13, t14, hBt⟩
            case measure => simp [intOf]; omega
        · obtain ⟨rfl, rfl⟩ := hno he
          obtain rfl : L1 = 0 := HL1'.out.symm
          obtain ⟨hxl, rfl, rfl⟩ := HREM.out.err HLT.out HKG.out he
          obtain rfl : ev = ev1 := HE.out.symm.trans HE1.out
          obtain rfl : L = i := HL.out.symm.trans hxl
          have hev : ev = .iface 55 (.int .i64 (r.e : Int)) := HE1.out.symm.trans (errV_some he)
          subst hev
          have x10c := x10.belowB hB9 hl10
          obtain ⟨d0, d1, d2, d3, d4, d5, d6, d7⟩ := x10c.get8
          obtain ⟨e0, e1, e2, e3, e4, e5, e6, e7⟩ := x14.get8
          obtain ⟨f0, f1, f2, f3, f4, f5, f6, f7⟩ := x18.get8
          obtain ⟨k0, k1, k2, k3, k4, k5, k6, k7⟩ := x13.get8
          have qs := fun w => run_eql_kst w sT
          clear x10 x10c x13 x14 x18 hq hq1 hr1 b20 b21 hyes hno hxl HREM HKG hok hB9 HST
          go_wp2_with fail
          refine (hCd _).mono ?_
          rintro e w10 ⟨rfl, rfl⟩
          go_wp2_with fail
          refine (hCd _).mono ?_
          rintro e w10 ⟨rfl, rfl⟩
          go_wp2_with fail
          refine (hCd _).mono ?_
          rintro e w10 ⟨rfl, rfl⟩
          go_wp2_with fail
          refine (hCd _).mono ?_
          rintro e w10 ⟨rfl, rfl⟩
          go_wp2
          go_ret
          exact ⟨rfl, hw7⟩
      · obtain rfl : i = N := by omega
        have HO : Hid (OutBS W g12 m bs z i xs sT pT eT (.int .i64 ((a : Nat) : Int)) wr) := Lib.hid ⟨a, s, rfl, hrem, hat, x14, hB⟩
        clear hrem x13 x14 hB hrd
        by_cases hc1 : (i : Int) < n
        · have hc2 : ¬ (i : Int) < 32 := by omega
          go_wp2_with fail
          go_meet
          exact HO.out
        · go_wp2_with fail
          go_meet
          exact HO.out
  case rest =>
    obtain ⟨a, s, rfl, hrem, hale, y14, hB⟩ := hcut
    have y10 := x10.belowB hB hl10
    have hr := hr8.keep (fun k hk => hB.block k (by omega))
    have hw := hw3.trans (hB.mono hg12)
    clear x10 x13 x14 hr8 hr12 hq hB hw3 hT12 hl10 hl8
    by_cases hz : z ≠ 1 ∧ z ≠ 2
    · obtain ⟨hl, he⟩ := hrem.bad hz
      have hl0 := HL.out.symm.trans hl
      subst hl0
      have hCd := fun X => code_any eT X (by omega)
      rw [HE.out] at hCd
      have e1 : (z != 1) = true := by simpa using hz.1
      have e2 : (z != 2) = true := by simpa using hz.2
      have e6 : ((eT : Int) == 6) = true := by rw [he]; rfl
      clear hrem he hl hz y10 y14 hr
      go_wp2_with fail
      refine (hCd _).mono ?_
      rintro e w10 ⟨rfl, rfl⟩
      go_wp2
      go_ret
      exact ⟨rfl, hw⟩
    · have hz' : z = 1 ∨ z = 2 := by omega
      obtain ⟨hl, rfl, hp, he⟩ := hrem.done hz'
      have hev : ev = .nilIface := by rw [← HE.out, he]; rfl
      subst hev
      obtain rfl : aT = a := by
        have h1 := congrArg List.length ((HP.out he).symm.trans hp)
        have h2 := hr.at_
        rw [List.length_drop, List.length_drop, flat_length, HL1.out] at h1
        omega
      have hlN := HL.out.symm.trans hl
      have hNN := HNN.out
      have hat := hr.at_
      have hlf := left_any g8 A m c bs aT wc hr
      have hcst : ((8 * m - aT : Nat) : Int) = 8 * (m : Int) - (aT : Int) := by omega
      rw [hcst] at hlf
      have hmm : ((if n < 32 then n else 32) : Int) = min n 32 := by omega
      obtain ⟨q0, q1, q2, q3, q4, q5, q6, q7⟩ := y14.get8
      obtain ⟨k0, k1, k2, k3, k4, k5, k6, k7⟩ := y10.get8
      have qs := fun w => run_eql_kst w sT
      have sg := kst_guard
      have hm2 : (m : Int) ≤ 600 := by omega
      have hat2 : (aT : Int) ≤ 8 * (m : Int) := by omega
      have hat0 : (0 : Int) ≤ (aT : Int) := by omega
      have hL : (L : Int) = max (min n 32) 0 := by omega
      clear hrem he hl hp hr y10 y14 hlN hNN hat hcst HST HP HL HNN hale
      clear hz
      rcases hz' with rfl | rfl <;> rcases (show n < 0 ∨ (0 ≤ n ∧ n < 32) ∨ 32 ≤ n by omega) with hn1 | hn1 | hn1
      all_goals
        go_wp2_with (go_at_call 13; refine hlf.mono ?_; rintro e w5 ⟨rfl, k5', rfl⟩)
      all_goals
        go_ret
        exact ⟨rfl, below_drewN hw k5'⟩

end Go.Proofs.YtchkpbhbdbafdaaDoor
