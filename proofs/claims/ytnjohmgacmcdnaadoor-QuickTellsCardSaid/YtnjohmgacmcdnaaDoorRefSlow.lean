/-
  The contract of the reference's Decode: the samples of any bytes, up to what is amiss.
-/
import Derived.Test.YtnjohmgacmcdnaaDoorSlow2
import Derived.Test.YtnjohmgacmcdnaaDoorKinAll
import Derived.Test.YtnjohmgacmcdnaaDoorMidQ
import Derived.Test.YtnjohmgacmcdnaaDoorWords
import Derived.Test.YtnjohmgacmcdnaaDoorRGets
import Derived.Deep.CutBlock
namespace Go.Proofs.YtnjohmgacmcdnaaDoor
open Go.RowKit

/-- what the reference's Decode comes to -/
def RetRSD (w : World) (z : Int) (bs : List Nat) (n : Int) (e : Ending) (w' : World) : Prop :=
  ∃ xs er A c, DecA z bs n xs er ∧ e = .returned (.tuple #[.slice A xs.length c, .int .i64 (er : Int)]) ∧ OwnQ w w' (.slice A xs.length c) xs
/-- behind some samples: these, the bits that are left, the state in a box -/
def AtRSD (w : World) (B g n : Nat) (z : Int) (bs : List Nat) (l q i : Value) (wr : World) : Prop :=
  ∃ (j : Nat) (xs : List (Int × Nat)) (s : KS) (p : List Bool) (A : Option Addr) (m c : Nat), j ≤ n ∧ i = .int .i64 ((j : Nat) : Int) ∧ q = .slice A m c ∧ Rd wr g A m c (enc p) ∧ p.length + 2 * j ≤ 8 * bs.length ∧ GoneD z (flat bs) n xs (n - j) s p ∧ xs.length = j ∧ s.May ∧ s.n = j ∧
    MidQ w B wr l xs ∧ BoxL wr g [.int .i64 (s.n : Int), .int .i64 s.t, .int .i64 s.d, .int .u64 (s.v : Int), .int .u64 (s.e : Int), .int .u64 (s.x.prev : Int), .int .i64 (s.x.lead : Int), .int .i64 (s.x.len : Int)]

set_option maxRecDepth 20000 in
set_option maxHeartbeats 1000000 in
theorem rslowdec_arg (A : Option Addr) (m c : Nat) (bs : List Nat) (z n : Int) (w : World) (_hn : -9223372036854775808 ≤ n ∧ n ≤ 9223372036854775807) (h : n < 1 ∨ (1 ≤ n ∧ 65535 < n)) :
    Calls Tryd.prog 7 #[.int .i64 z, .slice A m c, .int .i64 n] w (RetRSD w z bs n) := by
  have HD : Hid (DecA z bs n [] 1) := Lib.hid (.inl ⟨by omega, rfl, rfl⟩)
  rcases h with h | h
  all_goals
    go_enter Tryd.func7, Tryd.ntmps7
    go_wp2
    go_ret2
    exact ⟨[], 1, none, 0, HD.out, rfl, OwnQ.nil_ _ _ (Below.refl _ _)⟩

/-- a slice value cut from a place on, as the program cuts it -/
theorem Rd.cutBits {w : World} {B n c k : Nat} {A : Option Addr} {p : List Bool} (h : Rd w B A n c (enc p)) (hk : k ≤ n) : Rd w B (if c = k then A else A.map (fun x => x.add k)) (n - k) (c - k) (enc (p.drop k)) := by
  rw [← enc_drop]
  by_cases hc : c = k
  · rw [if_pos hc]
    subst hc
    have := h.tailEnd hk
    rw [Nat.sub_self]
    exact this
  · rw [if_neg hc]
    exact h.tail hk

set_option maxRecDepth 20000 in
set_option maxHeartbeats 4000000 in
theorem rslowdec_in (A0 : Option Addr) (m0 c0 : Nat) (bs : List Nat) (z : Int) (n : Nat) (w : World) (h : Rd w w.heap.size A0 m0 c0 bs) (hb : ∀ x ∈ bs, x < 256) (hm : m0 ≤ 10000) (hn : 1 ≤ n ∧ n ≤ 65535) :
    Calls Tryd.prog 7 #[.int .i64 z, .slice A0 m0 c0, .int .i64 (n : Int)] w (RetRSD w z bs (n : Int)) := by
  have HL : Hid (bs.length = m0) := Lib.hid h.len
  have hn1 : ¬ (n : Int) < 1 := by omega
  have hn2 : ¬ 65535 < (n : Int) := by omega
  have HDA : Hid (∀ xs e, Dec z n zeroK (flat bs) xs e → DecA z bs (n : Int) xs e) := Lib.hid fun xs e hd => .inr ⟨by omega, by simpa using hd⟩
  have hF := flat_any A0 m0 c0 bs w h hb (by omega)
  clear hb h
  go_enter Tryd.func7, Tryd.ntmps7
  go_wp2_with fail
  refine hF.mono ?_
  rintro e w1 ⟨A1, c1, rfl, ho1⟩
  clear hF
  go_upto_block 0 with fail
  have hr1 := ho1.rd
  rw [enc_length, flat_length, HL.out] at hr1
  rw [show (enc (flat bs)).length = 8 * m0 by rw [enc_length, flat_length, HL.out]]
  have b10 := BoxL.new w1 [.int .i64 0, .int .i64 0, .int .i64 0, .int .u64 0, .int .u64 0, .int .u64 0, .int .i64 0, .int .i64 0] 55
  have hal : Below w1.heap.size w1 (w1.alloc (.cells #[.int .i64 0, .int .i64 0, .int .i64 0, .int .u64 0, .int .u64 0, .int .u64 0, .int .i64 0, .int .i64 0] 55)) := by repeat (first | with_reducible exact Below.refl _ _ | with_reducible assumption | with_reducible refine Below.drew ?_ | with_reducible refine below_drewN ?_ _ | with_reducible refine Below.alloc ?_ (by (first | assumption | omega | (simp; done) | (simp; omega))) _ | with_reducible refine below_set ?_ (by (first | assumption | omega | (simp; done) | (simp; omega))) _ _)
  have hW := ho1.bel.trans (hal.mono ho1.bel.size)
  have hg0 : w.heap.size ≤ w1.heap.size := ho1.bel.size
  replace hr1 := hr1.below hal
  clear ho1 hal
  generalize w1.alloc (.cells #[.int .i64 0, .int .i64 0, .int .i64 0, .int .u64 0, .int .u64 0, .int .u64 0, .int .i64 0, .int .i64 0] 55) = W at *
  generalize w1.heap.size = g10 at *
  clear hn1 hn2
  go_wp2_with fail
  go_loopw [9, 8, 11] (fun l q i wr => AtRSD w (g10 + 1) g10 n z bs l q i wr) (fun _ _ i _ => n - (intOf i).toNat)
  case atStart =>
    exact ⟨0, [], zeroK, flat bs, A1, 8 * m0, c1, Nat.zero_le _, rfl, rfl, hr1, by rw [flat_length]; omega, GoneD.zero z (flat bs) n, rfl, zeroK_may, rfl, MidQ.nil_ hW (by omega), b10⟩
  case round =>
    clear b10 hW hr1
    obtain ⟨j, xs, s, p, A, m, c, hj, rfl, rfl, hr, hpj, hgone, hxl, hs, hsn, hmr, x10⟩ := hrel
    have hwrs := hmr.bel.size
    have l10 := x10.lt
    have hpm : p.length = m := by have := hr.len; rw [enc_length] at this; exact this
    have HPM := Lib.hid hpm
    rw [hpm, HL.out] at hpj
    have hcap := hr.cap
    clear hpm
    by_cases hlt : j < n
    · have hget := rget_all8 z s A m c p wr hs (by omega) (hr.more (by omega)) (by omega)
      rw [show n - j = (n - (j + 1)) + 1 by omega] at hgone
      have HWE := Lib.hid hgone
      have HXL := Lib.hid hxl
      have HSN := Lib.hid hsn
      obtain ⟨f0, f1, f2, f3, f4, f5, f6, f7⟩ := x10.get8
      clear hgone hxl hsn
      go_wp2_with fail
      refine hget.mono ?_
      rintro e w3 ⟨r, hkg, rfl, hb3⟩
      obtain ⟨hrt, hrv, hrs, hrn, hre, hok⟩ := kg_in hs hkg
      have HKG := Lib.hid hkg
      have HOK := Lib.hid hok
      clear hget f0 f1 f2 f3 f4 f5 f6 f7 hkg hok
      by_cases he : r.e = 0
      · obtain ⟨hok1, hok2, hok3⟩ := HOK.out he
        rw [HPM.out] at hok1
        rw [HSN.out] at hok2
        have HS := Lib.hid (HWE.out.step HKG.out he)
        have HOK2 := Lib.hid hok2
        have he' : ((r.e : Int) != 0) = false := by simp [he]
        clear hok2 HKG HWE HOK
        go_upto_region 10 with fail
        have b12 := (BoxL.new w3 [.int .i64 r.t, .int .u64 (r.v : Int)] 41).onA (.cells #[.int .i64 (r.s.n : Int), .int .i64 r.s.t, .int .i64 r.s.d, .int .u64 (r.s.v : Int), .int .u64 (r.s.e : Int), .int .u64 (r.s.x.prev : Int), .int .i64 (r.s.x.lead : Int), .int .i64 (r.s.x.len : Int)] 55)
        have b13 := BoxL.new (w3.alloc (.cells #[.int .i64 r.t, .int .u64 (r.v : Int)] 41)) [.int .i64 (r.s.n : Int), .int .i64 r.s.t, .int .i64 r.s.d, .int .u64 (r.s.v : Int), .int .u64 (r.s.e : Int), .int .u64 (r.s.x.prev : Int), .int .i64 (r.s.x.lead : Int), .int .i64 (r.s.x.len : Int)] 55
        simp only [World.size_alloc] at b13
        have hal : Below w3.heap.size w3 ((w3.alloc (.cells #[.int .i64 r.t, .int .u64 (r.v : Int)] 41)).alloc (.cells #[.int .i64 (r.s.n : Int), .int .i64 r.s.t, .int .i64 r.s.d, .int .u64 (r.s.v : Int), .int .u64 (r.s.e : Int), .int .u64 (r.s.x.prev : Int), .int .i64 (r.s.x.lead : Int), .int .i64 (r.s.x.len : Int)] 55)) := by repeat (first | with_reducible exact Below.refl _ _ | with_reducible assumption | with_reducible refine Below.drew ?_ | with_reducible refine below_drewN ?_ _ | with_reducible refine Below.alloc ?_ (by (first | assumption | omega | (simp; done) | (simp; omega))) _ | with_reducible refine below_set ?_ (by (first | assumption | omega | (simp; done) | (simp; omega))) _ _)
        have hgx : wr.heap.size ≤ w3.heap.size := hb3.size
        replace hb3 := hb3.trans (hal.mono hb3.size)
        clear hal
        generalize (w3.alloc (.cells #[.int .i64 r.t, .int .u64 (r.v : Int)] 41)).alloc (.cells #[.int .i64 (r.s.n : Int), .int .i64 r.s.t, .int .i64 r.s.d, .int .u64 (r.s.v : Int), .int .u64 (r.s.e : Int), .int .u64 (r.s.x.prev : Int), .int .i64 (r.s.x.lead : Int), .int .i64 (r.s.x.len : Int)] 55) = V at *
        generalize w3.heap.size = gx at *
        have hub : ∀ g, u9.ownBlock = some g → g < wr.heap.size := fun g hg => (hmr.row.lt g hg).2
        have nx : u9.ownBlock ≠ some (gx + 1) := fun e => by have := hub _ e; omega
        have mC := (hmr.on hb3).onA (.cells #[.int .i64 r.t, .int .u64 (r.v : Int)] 41)
        have r9 := RdQ.one V (r.t, r.v) ⟨hrt.1, hrt.2, hrv⟩
        have hb4 : Below wr.heap.size wr (V.alloc (.cells #[.int .i64 r.t, .int .u64 (r.v : Int)] 41)) := hb3.alloc hb3.size _
        have x10V := x10.below hb4
        have b13V := b13.onA (.cells #[.int .i64 r.t, .int .u64 (r.v : Int)] 41)
        replace hr := hr.below (hb4.mono (by omega))
        obtain ⟨y0, y1⟩ := b12.get2
        have hVs : g10 + 1 ≤ (V.alloc (.cells #[.int .i64 r.t, .int .u64 (r.v : Int)] 41)).heap.size := by have := hb3.size; simp; omega
        have hxm : xs.length + 1 ≤ 1073741824 := by rw [HXL.out]; omega
        clear hub hmr x10 b13 b12 hb3 hb4
        go_upto_region 13 with (at_builtin; (refine wpList_appMQ rfl (.tmp 42) (.tmp 44) rfl rfl rfl mC hVs r9 hxm ?_; intro v' w' m' hb' hg'))
        clear y0 y1
        have x10W := x10V.belowB hb' (Nat.lt_succ_self _)
        have b13W := b13V.grown hg' nx
        replace hr := hr.below (hb'.mono (Nat.le_succ _))
        have hne : g10 ≠ gx + 1 := by omega
        obtain ⟨z0, z1, z2, z3, z4, z5, z6, z7⟩ := b13W.get8
        obtain ⟨k0, k1, k2, k3, k4, k5, k6, k7⟩ := x10W.get8
        obtain ⟨kf0, kf1, kf2, kf3, kf4, kf5, kf6, kf7⟩ := x10W.free8
        clear x10V b13V hg' mC r9
        go_wp2_with fail
        clear z0 z1 z2 z3 z4 z5 z6 z7 k0 k1 k2 k3 k4 k5 k6 k7 kf0 kf1 kf2 kf3 kf4 kf5 kf6 kf7
        go_roundw
        case rel =>
          refine ⟨j + 1, xs ++ [(r.t, r.v)], r.s, p.drop r.n, _, m - r.n, c - r.n, by omega, by go_num, rfl, ?_, ?_, HS.out, by rw [List.length_append, HXL.out]; rfl, hrs, HOK2.out, ?_, x10W.all8 _ _ _ _ _ _ _ _⟩
          · exact Rd.below (hr.cutBits hok1) (below_set8 (Below.refl _ _) (Nat.le_refl _) _ _ _ _ _ _ _ _)
          · rw [List.length_drop, HPM.out, HL.out]; omega
          · exact m'.set8 hg0 (Nat.lt_succ_self _) _ _ _ _ _ _ _ _
        case measure => simp [intOf]; omega
      · have HD := Lib.hid (HDA.out _ _ (HWE.out.err HKG.out he))
        have he' : ((r.e : Int) != 0) = true := by simp [he]
        have hown := (hmr.on hb3).own
        obtain ⟨A', c', rfl, _⟩ := hown.form
        have hwb := hown.bel
        clear HWE HKG
        go_wp2_with fail
        go_ret2
        exact ⟨xs, r.e, A', c', HD.out, rfl, hown.keep (by repeat (first | with_reducible exact Below.refl _ _ | with_reducible assumption | with_reducible refine Below.drew ?_ | with_reducible refine below_drewN ?_ _ | with_reducible refine Below.alloc ?_ (by (first | assumption | omega | (simp; done) | (simp; omega))) _ | with_reducible refine below_set ?_ (by (first | assumption | omega | (simp; done) | (simp; omega))) _ _))⟩
    · obtain rfl : j = n := by omega
      rw [Nat.sub_self] at hgone
      have HD := Lib.hid (HDA.out _ _ hgone.done)
      have hown := hmr.own
      obtain ⟨A', c', rfl, _⟩ := hown.form
      clear hgone x10 hmr hxl hsn
      by_cases h8 : 8 ≤ m
      · have HE := Lib.hid (tailE_long (p := p) (by rw [HPM.out]; exact h8))
        rw [HE.out] at HD
        have h8i : 8 ≤ (m : Int) := by omega
        go_wp2_with fail
        go_ret2
        exact ⟨xs, 3, A', c', HD.out, rfl, hown⟩
      · have HE := Lib.hid (tailE_short (p := p) (by rw [HPM.out]; omega))
        have hN := number_any A m c g10 p wr hr (by omega)
        have h8i : (m : Int) < 8 := by omega
        generalize num p = x at *
        by_cases hx : x = 0
        · subst hx
          rw [HE.out, if_pos rfl] at HD
          go_wp2_with fail
          refine hN.mono ?_
          rintro e w2 ⟨rfl, rfl⟩
          go_wp2
          go_ret2
          exact ⟨xs, 0, A', c', HD.out, rfl, hown⟩
        · rw [HE.out, if_neg hx] at HD
          have hx0 : ((x : Int) != 0) = true := by simp; omega
          go_wp2_with fail
          refine hN.mono ?_
          rintro e w2 ⟨rfl, rfl⟩
          go_wp2
          go_ret2
          exact ⟨xs, 3, A', c', HD.out, rfl, hown⟩

theorem rslowdec_any (A : Option Addr) (m c : Nat) (bs : List Nat) (z n : Int) (w : World) (hn : -9223372036854775808 ≤ n ∧ n ≤ 9223372036854775807) (h : Rd w w.heap.size A m c bs) (hb : ∀ x ∈ bs, x < 256) (hm : m ≤ 10000) :
    Calls Tryd.prog 7 #[.int .i64 z, .slice A m c, .int .i64 n] w (RetRSD w z bs n) := by
  by_cases h1 : 1 ≤ n ∧ n ≤ 65535
  · obtain ⟨k, rfl⟩ := Int.eq_ofNat_of_zero_le (show 0 ≤ n by omega)
    exact rslowdec_in A m c bs z k w h hb hm (by omega)
  · exact rslowdec_arg A m c bs z n w hn (by omega)

end Go.Proofs.YtnjohmgacmcdnaaDoor
