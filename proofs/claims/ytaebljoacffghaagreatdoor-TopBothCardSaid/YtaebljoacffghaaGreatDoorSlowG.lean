/-
  Texts of this proof, one behind the other: SlowFill, SlowDec.
-/
import Derived.Test.YtaebljoacffghaaGreatDoorSlowP
import Derived.Test.YtaebljoacffghaaGreatDoorGets
import Derived.Test.YtaebljoacffghaaGreatDoorKGs
import Derived.Test.YtaebljoacffghaaGreatDoorWords
import Derived.Deep.CutBlock

/-
  The contract of onlyFill: whether the bits from a place on only fill up a byte.
-/
namespace Go.Proofs.YtaebljoacffghaaGreatDoor
open Go.RowKit

set_option maxRecDepth 20000 in
set_option maxHeartbeats 400000 in
theorem onlyfill_any (A : Option Addr) (m c B : Nat) (bs : List Nat) (a : Nat) (w : World) (h : Rd w B A m c bs) (hb : ∀ x ∈ bs, x < 256) (hm : m ≤ 140737488355328) (ha : a ≤ 8 * m) :
    Calls Tryz.prog 91 #[.slice A m c, .int .i64 (a : Int)] w fun e w' => e = .returned (.bool (decide (tailE ((flat bs).drop a) = 0))) ∧ w = w' := by
  have hl := h.len
  have hpl : ((flat bs).drop a).length = 8 * m - a := by rw [List.length_drop, flat_length, hl]
  obtain ⟨L, HL⟩ : ∃ L, Hid (8 * m - a = L) := ⟨_, Lib.hid rfl⟩
  have hLi : 8 * (m : Int) - (a : Int) = (L : Int) := by have := HL.out; omega
  rw [HL.out] at hpl
  by_cases h8 : 8 ≤ L
  · have HT := Lib.hid (tailE_long (p := (flat bs).drop a) (by omega))
    have h8i : 8 ≤ 8 * (m : Int) - (a : Int) := by omega
    clear hpl hl hLi
    go_enter Tryz.func91, Tryz.ntmps91
    go_wp2
    go_ret
    rw [HT.out]
    exact ⟨rfl, rfl⟩
  · have HT := Lib.hid (tailE_short (p := (flat bs).drop a) (by omega))
    have hY := takeB_yes (bs := bs) (a := a) (n := L) (by omega) (by have := HL.out; omega)
    have hcut : cut (flat bs) a L = (flat bs).drop a := by
      unfold cut
      exact List.take_of_length_le (by omega)
    rw [hcut] at hY
    have HY := Lib.hid hY
    have hT := take_yes A m c B bs a L w h hb (by omega) (by omega) (by have := HL.out; omega)
    unfold RetS at hT
    rw [hY.1, hY.2, ← hLi] at hT
    have h8i : 8 * (m : Int) - (a : Int) < 8 := by omega
    clear hpl hl hY hcut HY hLi
    generalize num ((flat bs).drop a) = x at *
    go_enter Tryz.func91, Tryz.ntmps91
    by_cases hx : x = 0
    · subst hx
      go_wp2_with fail
      refine hT.mono ?_
      rintro e w1 ⟨rfl, rfl⟩
      go_wp2
      go_ret
      rw [HT.out]
      exact ⟨rfl, rfl⟩
    · have hx0 : ((x : Int) == 0) = false := by simp; omega
      go_wp2_with fail
      refine hT.mono ?_
      rintro e w1 ⟨rfl, rfl⟩
      go_wp2
      go_ret
      rw [HT.out, if_neg hx]
      exact ⟨rfl, rfl⟩

end Go.Proofs.YtaebljoacffghaaGreatDoor

/-
  The contract of layer 10's Decode: the samples of any bytes, up to what is amiss.
-/
namespace Go.Proofs.YtaebljoacffghaaGreatDoor
open Go.RowKit

/-- what Decode comes to -/
def RetSD (w : World) (z : Int) (bs : List Nat) (n : Int) (e : Ending) (w' : World) : Prop :=
  ∃ xs er A c, DecA z bs n xs er ∧ e = .returned (.tuple #[.slice A xs.length c, errV er]) ∧ OwnQ w w' (.slice A xs.length c) xs
/-- behind some samples: these, the place, the state in a box -/
def AtSD (w : World) (B g n : Nat) (z : Int) (bs : List Nat) (l q i : Value) (wr : World) : Prop :=
  ∃ (j a : Nat) (xs : List (Int × Nat)) (s : KS), j ≤ n ∧ i = .int .i64 ((j : Nat) : Int) ∧ q = .int .i64 ((a : Nat) : Int) ∧ a ≤ 8 * bs.length ∧ 2 * j ≤ a ∧ GoneD z (flat bs) n xs (n - j) s ((flat bs).drop a) ∧ xs.length = j ∧ s.May ∧ s.n = j ∧
    MidQ w B wr l xs ∧ BoxL wr g [.int .i64 (s.n : Int), .int .i64 s.t, .int .i64 s.d, .int .u64 (s.v : Int), .int .u64 (s.e : Int), .int .u64 (s.x.prev : Int), .int .i64 (s.x.lead : Int), .int .i64 (s.x.len : Int)]

set_option maxRecDepth 20000 in
set_option maxHeartbeats 1000000 in
theorem slowdec_arg (A : Option Addr) (m c : Nat) (bs : List Nat) (z n : Int) (w : World) (_hn : -9223372036854775808 ≤ n ∧ n ≤ 9223372036854775807) (h : n < 1 ∨ (1 ≤ n ∧ 65535 < n)) :
    Calls Tryz.prog 74 #[.int .i64 z, .slice A m c, .int .i64 n] w (RetSD w z bs n) := by
  have HD : Hid (DecA z bs n [] 1) := Lib.hid (.inl ⟨by omega, rfl, rfl⟩)
  rcases h with h | h
  all_goals
    go_enter Tryz.func74, Tryz.ntmps74
    go_wp2
    go_ret2
    exact ⟨[], 1, none, 0, HD.out, rfl, OwnQ.nil_ _ _ (Below.refl _ _)⟩

set_option maxRecDepth 20000 in
set_option maxHeartbeats 4000000 in
theorem slowdec_in (A : Option Addr) (m c : Nat) (bs : List Nat) (z : Int) (n : Nat) (w : World) (h : Rd w w.heap.size A m c bs) (hb : ∀ x ∈ bs, x < 256) (hm : m ≤ 140737488355328) (hn : 1 ≤ n ∧ n ≤ 65535) (hR : RoomW w) (hT : TzW w) :
    Calls Tryz.prog 74 #[.int .i64 z, .slice A m c, .int .i64 (n : Int)] w (RetSD w z bs (n : Int)) := by
  have HL : Hid (bs.length = m) := Lib.hid h.len
  have HB := Lib.hid hb
  have hn1 : ¬ (n : Int) < 1 := by omega
  have hn2 : ¬ 65535 < (n : Int) := by omega
  have HDA : Hid (∀ xs e, Dec z n zeroK (flat bs) xs e → DecA z bs (n : Int) xs e) := Lib.hid fun xs e hd => .inr ⟨by omega, by simpa using hd⟩
  clear hb
  go_enter Tryz.func74, Tryz.ntmps74
  go_upto_block 0 with fail
  have b9 := BoxL.new w [.int .i64 0, .int .i64 0, .int .i64 0, .int .u64 0, .int .u64 0, .int .u64 0, .int .i64 0, .int .i64 0] 151
  have hW : Below w.heap.size w (w.alloc (.cells #[.int .i64 0, .int .i64 0, .int .i64 0, .int .u64 0, .int .u64 0, .int .u64 0, .int .i64 0, .int .i64 0] 151)) := by repeat (first | with_reducible exact Below.refl _ _ | with_reducible assumption | with_reducible refine Below.drew ?_ | with_reducible refine below_drewN ?_ _ | with_reducible refine Below.alloc ?_ (by (first | assumption | omega | (simp; done) | (simp; omega))) _ | with_reducible refine below_set ?_ (by (first | assumption | omega | (simp; done) | (simp; omega))) _ _)
  generalize w.alloc (.cells #[.int .i64 0, .int .i64 0, .int .i64 0, .int .u64 0, .int .u64 0, .int .u64 0, .int .i64 0, .int .i64 0] 151) = W at *
  obtain ⟨g9, hg9⟩ : ∃ g, w.heap.size = g := ⟨_, rfl⟩
  rw [hg9] at b9
  rw [show w.heap.size = g9 from hg9]
  have HG9 := Lib.hid hg9
  clear hg9 hn1 hn2
  go_wp2_with fail
  go_loopw [8, 10, 23] (fun l q i wr => AtSD w (g9 + 1) g9 n z bs l q i wr) (fun _ _ i _ => n - (intOf i).toNat)
  case atStart =>
    exact ⟨0, 0, [], zeroK, Nat.zero_le _, rfl, rfl, Nat.zero_le _, Nat.le_refl _, GoneD.zero z (flat bs) n, rfl, zeroK_may, rfl, MidQ.nil_ hW (by rw [HG9.out]; omega), b9⟩
  case round =>
    clear b9 hW
    obtain ⟨j, a, xs, s, hj, rfl, rfl, ha, h2j, hgone, hxl, hs, hsn, hmr, x9⟩ := hrel
    have hwrs := hmr.bel.size
    have l9 := x9.lt
    rw [HL.out] at ha
    by_cases hlt : j < n
    · have hget := get_all z A m c w.heap.size bs a s wr (h.below hmr.bel) hwrs HB.out (by omega) (by omega) hs (by omega) (hR.bel hmr.bel) (hT.bel hmr.bel)
      rw [restL_yes (by rw [HL.out]; exact ha)] at hget
      have hpl : ((flat bs).drop a).length = 8 * m - a := by rw [List.length_drop, flat_length, HL.out]
      rw [show n - j = (n - (j + 1)) + 1 by omega] at hgone
      have HWE := Lib.hid hgone
      have HXL := Lib.hid hxl
      have HPL := Lib.hid hpl
      have HSN := Lib.hid hsn
      obtain ⟨f0, f1, f2, f3, f4, f5, f6, f7⟩ := x9.get8
      clear hgone hxl hpl hsn
      go_wp2_with fail
      refine hget.mono ?_
      rintro e w3 ⟨r, hkg, rfl, hb3⟩
      obtain ⟨hrt, hrv, hrs, hrn, hre, hok⟩ := kg_in hs hkg
      have HKG := Lib.hid hkg
      have HOK := Lib.hid hok
      clear hget f0 f1 f2 f3 f4 f5 f6 f7 hkg hok
      by_cases he : r.e = 0
      · rw [he, show errV 0 = .nilIface from rfl]
        obtain ⟨hok1, hok2, hok3⟩ := HOK.out he
        rw [HPL.out] at hok1
        rw [HSN.out] at hok2
        have HS := Lib.hid (HWE.out.step HKG.out he)
        rw [List.drop_drop] at HS
        have HOK2 := Lib.hid hok2
        clear hok2 HKG HWE HOK
        go_upto_region 9 with fail
        have b11 := (BoxL.new w3 [.int .i64 r.t, .int .u64 (r.v : Int)] 74).onA (.cells #[.int .i64 (r.s.n : Int), .int .i64 r.s.t, .int .i64 r.s.d, .int .u64 (r.s.v : Int), .int .u64 (r.s.e : Int), .int .u64 (r.s.x.prev : Int), .int .i64 (r.s.x.lead : Int), .int .i64 (r.s.x.len : Int)] 151)
        have b12 := BoxL.new (w3.alloc (.cells #[.int .i64 r.t, .int .u64 (r.v : Int)] 74)) [.int .i64 (r.s.n : Int), .int .i64 r.s.t, .int .i64 r.s.d, .int .u64 (r.s.v : Int), .int .u64 (r.s.e : Int), .int .u64 (r.s.x.prev : Int), .int .i64 (r.s.x.lead : Int), .int .i64 (r.s.x.len : Int)] 151
        simp only [World.size_alloc] at b12
        have hal : Below w3.heap.size w3 ((w3.alloc (.cells #[.int .i64 r.t, .int .u64 (r.v : Int)] 74)).alloc (.cells #[.int .i64 (r.s.n : Int), .int .i64 r.s.t, .int .i64 r.s.d, .int .u64 (r.s.v : Int), .int .u64 (r.s.e : Int), .int .u64 (r.s.x.prev : Int), .int .i64 (r.s.x.lead : Int), .int .i64 (r.s.x.len : Int)] 151)) := by repeat (first | with_reducible exact Below.refl _ _ | with_reducible assumption | with_reducible refine Below.drew ?_ | with_reducible refine below_drewN ?_ _ | with_reducible refine Below.alloc ?_ (by (first | assumption | omega | (simp; done) | (simp; omega))) _ | with_reducible refine below_set ?_ (by (first | assumption | omega | (simp; done) | (simp; omega))) _ _)
        have hgx : wr.heap.size ≤ w3.heap.size := hb3.size
        replace hb3 := hb3.trans (hal.mono hb3.size)
        clear hal
        generalize (w3.alloc (.cells #[.int .i64 r.t, .int .u64 (r.v : Int)] 74)).alloc (.cells #[.int .i64 (r.s.n : Int), .int .i64 r.s.t, .int .i64 r.s.d, .int .u64 (r.s.v : Int), .int .u64 (r.s.e : Int), .int .u64 (r.s.x.prev : Int), .int .i64 (r.s.x.lead : Int), .int .i64 (r.s.x.len : Int)] 151) = V at *
        generalize w3.heap.size = gx at *
        have hub : ∀ g, u8.ownBlock = some g → g < wr.heap.size := fun g hg => (hmr.row.lt g hg).2
        have nx : u8.ownBlock ≠ some (gx + 1) := fun e => by have := hub _ e; omega
        have mC := (hmr.on hb3).onA (.cells #[.int .i64 r.t, .int .u64 (r.v : Int)] 74)
        have r9 := RdQ.one V (r.t, r.v) ⟨hrt.1, hrt.2, hrv⟩
        have x9V := (x9.below hb3).onA (.cells #[.int .i64 r.t, .int .u64 (r.v : Int)] 74)
        have b12V := b12.onA (.cells #[.int .i64 r.t, .int .u64 (r.v : Int)] 74)
        obtain ⟨y0, y1⟩ := b11.get2
        have hVs : g9 + 1 ≤ (V.alloc (.cells #[.int .i64 r.t, .int .u64 (r.v : Int)] 74)).heap.size := by have := hb3.size; simp; omega
        have hxm : xs.length + 1 ≤ 8796093022208 := by rw [HXL.out]; omega
        have hrt1 := hrt.1
        clear hub hmr x9 b12 b11 hb3
        go_upto_region 12 with (at_builtin; (refine wpList_appMQ rfl (.tmp 39) (.tmp 41) rfl rfl rfl mC hVs r9 hxm ?_; intro v' w' m' hb' hg'))
        clear y0 y1
        have x9W := x9V.belowB hb' (Nat.lt_succ_self _)
        have b12W := b12V.grown hg' nx
        have hne : g9 ≠ gx + 1 := by omega
        obtain ⟨z0, z1, z2, z3, z4, z5, z6, z7⟩ := b12W.get8
        obtain ⟨k0, k1, k2, k3, k4, k5, k6, k7⟩ := x9W.get8
        obtain ⟨kf0, kf1, kf2, kf3, kf4, kf5, kf6, kf7⟩ := x9W.free8
        clear x9V b12V hg' mC r9
        have hsum : (a : Int) + (r.n : Int) ≤ 2251799813685248 := by omega
        go_wp2_with fail
        clear z0 z1 z2 z3 z4 z5 z6 z7 k0 k1 k2 k3 k4 k5 k6 k7 kf0 kf1 kf2 kf3 kf4 kf5 kf6 kf7
        go_roundw
        case rel =>
          refine ⟨j + 1, a + r.n, xs ++ [(r.t, r.v)], r.s, by omega, by go_num, by go_num, by rw [HL.out]; omega, by omega, HS.out, by rw [List.length_append, HXL.out]; rfl, hrs, HOK2.out, ?_, x9W.all8 _ _ _ _ _ _ _ _⟩
          exact m'.set8 (by rw [HG9.out]; exact Nat.le_refl _) (Nat.lt_succ_self _) _ _ _ _ _ _ _ _
        case measure => simp [intOf]; omega
      · have hev : errV r.e = .iface 59 (.int .i64 (r.e : Int)) := by unfold errV; rw [if_neg he]
        have HD := Lib.hid (HDA.out _ _ (HWE.out.err HKG.out he))
        have hown := (hmr.on hb3).own
        obtain ⟨A', c', rfl, _⟩ := hown.form
        have hwb := hown.bel
        rw [hev]
        clear HWE HKG
        go_wp2_with fail
        go_ret2
        exact ⟨xs, r.e, A', c', HD.out, (by rw [hev]; kernel_rfl), hown.keep (by repeat (first | with_reducible exact Below.refl _ _ | with_reducible assumption | with_reducible refine Below.drew ?_ | with_reducible refine below_drewN ?_ _ | with_reducible refine Below.alloc ?_ (by (first | assumption | omega | (simp; done) | (simp; omega))) _ | with_reducible refine below_set ?_ (by (first | assumption | omega | (simp; done) | (simp; omega))) _ _))⟩
    · obtain rfl : j = n := by omega
      rw [Nat.sub_self] at hgone
      have HD := Lib.hid (HDA.out _ _ hgone.done)
      have hF := onlyfill_any A m c w.heap.size bs a wr (h.below hmr.bel) HB.out (by omega) ha
      have hown := hmr.own
      obtain ⟨A', c', rfl, _⟩ := hown.form
      clear hgone x9 hmr hxl hsn
      rcases tailE_zero ((flat bs).drop a) with h0 | h0
      · rw [h0] at hF HD
        rw [show decide ((0 : Nat) = 0) = true from rfl] at hF
        clear h0
        go_wp2_with fail
        refine hF.mono ?_
        rintro e w1 ⟨rfl, rfl⟩
        go_wp2
        go_ret2
        exact ⟨xs, 0, A', c', HD.out, rfl, hown⟩
      · rw [h0] at hF HD
        rw [show decide ((3 : Nat) = 0) = false from rfl] at hF
        clear h0
        go_wp2_with fail
        refine hF.mono ?_
        rintro e w1 ⟨rfl, rfl⟩
        go_wp2
        go_ret2
        exact ⟨xs, 3, A', c', HD.out, (by kernel_rfl), hown⟩

theorem slowdec_any (A : Option Addr) (m c : Nat) (bs : List Nat) (z n : Int) (w : World) (hn : -9223372036854775808 ≤ n ∧ n ≤ 9223372036854775807) (h : Rd w w.heap.size A m c bs) (hb : ∀ x ∈ bs, x < 256) (hm : m ≤ 140737488355328) (hR : RoomW w) (hT : TzW w) :
    Calls Tryz.prog 74 #[.int .i64 z, .slice A m c, .int .i64 n] w (RetSD w z bs n) := by
  by_cases h1 : 1 ≤ n ∧ n ≤ 65535
  · obtain ⟨k, rfl⟩ := Int.eq_ofNat_of_zero_le (show 0 ≤ n by omega)
    exact slowdec_in A m c bs z k w h hb hm (by omega) hR hT
  · exact slowdec_arg A m c bs z n w hn (by omega)

end Go.Proofs.YtaebljoacffghaaGreatDoor
