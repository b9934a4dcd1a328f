/-
  BatchTells, walked: it returns true, whatever the arguments.
-/
import Derived.Test.YtchkpbhbdbafdaaDoorBatMem
import Derived.Test.YtchkpbhbdbafdaaDoorKinAll
import Derived.Test.YtchkpbhbdbafdaaDoorKinLaw
import Derived.Test.YtchkpbhbdbafdaaDoorKinEq
import Derived.Test.YtchkpbhbdbafdaaDoorSame
import Derived.Test.YtchkpbhbdbafdaaDoorCode
import Derived.Test.YtchkpbhbdbafdaaDoorLists
import Derived.Deep.CutBlock
namespace Go.Proofs.YtchkpbhbdbafdaaDoor
open Go.RowKit

set_option maxRecDepth 20000 in
set_option maxHeartbeats 1000000 in
theorem btells_big (A1 A2 : Option Addr) (m1 c1 m2 c2 : Nat) (z : Int) (w : World) (_hl : m1 ≤ 9223372036854775807 ∧ m2 ≤ 9223372036854775807) (h : 600 < m1 ∨ (m1 ≤ 600 ∧ 40 < m2)) (hT : TabsW w) :
    Calls Tryd.prog 3 #[.int .i64 z, .slice A1 m1 c1, .slice A2 m2 c2] w (RetTrue w) := by
  rcases h with h | h
  all_goals
    go_enter Tryd.func3, Tryd.ntmps3
    go_wp2_with (go_at_call 5; refine (up11_any _ hT).mono ?_; rintro e w1 ⟨rfl, hb1⟩)
    go_ret
    exact ⟨rfl, hb1⟩

/-- behind some calls: where the reader stands, the bits from there on, the state in both boxes -/
def AtBT (w : World) (g8 g10 : Nat) (A1 : Option Addr) (m1 c1 : Nat) (bs : List Nat) (m2 : Nat) (x9 i : Value) (wr : World) : Prop :=
  ∃ (j a : Nat) (s : KS) (A : Option Addr) (n c : Nat), j ≤ m2 ∧ i = .int .i64 ((j : Nat) : Int) ∧ x9 = .slice A n c ∧ Rd wr g10 A n c (enc ((flat bs).drop a)) ∧ (∀ ad, A = some ad → g8 < ad.block) ∧ Rdr wr g8 A1 m1 c1 bs a ∧ s.May ∧ s.n ≤ 32 * j ∧
    Below w.heap.size w wr ∧ BoxL wr g10 [.int .i64 (s.n : Int), .int .i64 s.t, .int .i64 s.d, .int .u64 (s.v : Int), .int .u64 (s.e : Int), .int .u64 (s.x.prev : Int), .int .i64 (s.x.lead : Int), .int .i64 (s.x.len : Int)] ∧ BoxL wr (g10 + 1) [.int .i64 (s.n : Int), .int .i64 s.t, .int .i64 s.d, .int .u64 (s.v : Int), .int .u64 (s.e : Int), .int .u64 (s.x.prev : Int), .int .i64 (s.x.lead : Int), .int .i64 (s.x.len : Int)]

set_option maxRecDepth 20000 in
set_option maxHeartbeats 20000000 in
theorem btells_in (z : Int) (A1 A2 : Option Addr) (m1 c1 m2 c2 : Nat) (bs : List Nat) (ns : List Int) (w : World) (h1 : Rd w w.heap.size A1 m1 c1 bs) (hb1 : ∀ x ∈ bs, x < 256) (h2 : RdI w w.heap.size A2 m2 ns) (hm1 : m1 ≤ 600) (hm2 : m2 ≤ 40) (hT : TabsW w) :
    Calls Tryd.prog 3 #[.int .i64 z, .slice A1 m1 c1, .slice A2 m2 c2] w (RetTrue w) := by
  have HBy := Lib.hid hb1
  have HL1 : Hid (bs.length = m1) := Lib.hid h1.len
  have hN := bnext_any
  unfold NextC at hN
  have HN := Lib.hid hN
  clear hb1 hN
  go_enter Tryd.func3, Tryd.ntmps3
  go_wp2_with fail
  refine (up11_any w hT).mono ?_
  rintro e w1 ⟨rfl, hw1⟩
  go_wp2_with fail
  refine (new_any A1 m1 c1 bs w1 ((h1.below hw1).more hw1.size) HBy.out (by omega)).mono ?_
  rintro e w2 ⟨rfl, hrd, hb2, hs2⟩
  have hg8 := hw1.size
  have hT1 := (hT.bel hw1).lt
  replace hw1 := hw1.trans (hb2.mono hw1.size)
  have hgs : w1.heap.size < w2.heap.size := hrd.lt
  generalize w1.heap.size = g8 at *
  clear hb2
  clear w1
  go_wp2_with fail
  refine (flat_any A1 m1 c1 bs w2 ((h1.below hw1).more hw1.size) HBy.out (by omega)).mono ?_
  rintro e w3 ⟨A3, c3, rfl, ho3⟩
  have hr3 := ho3.rd
  have hf3 : ∀ ad, A3 = some ad → g8 < ad.block := fun ad e => by
    have := ho3.block ad e
    omega
  have hfl : (enc (flat bs)).length = 8 * m1 := by rw [enc_length, flat_length, HL1.out]
  have hb3 := ho3.bel
  rw [hfl] at hr3 ⊢
  have hrd3 := hrd.below hb3
  replace hw1 := hw1.trans (hb3.mono hw1.size)
  have hgs3 : g8 < w3.heap.size := hrd3.lt
  clear ho3 hrd hgs hb3 hs2
  clear w2
  go_upto_block 0 with fail
  have b10 := (BoxL.new w3 [.int .i64 0, .int .i64 0, .int .i64 0, .int .u64 0, .int .u64 0, .int .u64 0, .int .i64 0, .int .i64 0] 32).onA (.cells #[.int .i64 0, .int .i64 0, .int .i64 0, .int .u64 0, .int .u64 0, .int .u64 0, .int .i64 0, .int .i64 0] 35)
  have b11 := BoxL.new (w3.alloc (.cells #[.int .i64 0, .int .i64 0, .int .i64 0, .int .u64 0, .int .u64 0, .int .u64 0, .int .i64 0, .int .i64 0] 32)) [.int .i64 0, .int .i64 0, .int .i64 0, .int .u64 0, .int .u64 0, .int .u64 0, .int .i64 0, .int .i64 0] 35
  simp only [World.size_alloc] at b11
  have hal : Below w3.heap.size w3 ((w3.alloc (.cells #[.int .i64 0, .int .i64 0, .int .i64 0, .int .u64 0, .int .u64 0, .int .u64 0, .int .i64 0, .int .i64 0] 32)).alloc (.cells #[.int .i64 0, .int .i64 0, .int .i64 0, .int .u64 0, .int .u64 0, .int .u64 0, .int .i64 0, .int .i64 0] 35)) := by repeat (first | with_reducible exact Below.refl _ _ | with_reducible assumption | with_reducible refine Below.drew ?_ | with_reducible refine below_drewN ?_ _ | with_reducible refine Below.alloc ?_ (by (first | assumption | omega | (simp; done) | (simp; omega))) _ | with_reducible refine below_set ?_ (by (first | assumption | omega | (simp; done) | (simp; omega))) _ _)
  change BoxL ((w3.alloc (.cells #[.int .i64 0, .int .i64 0, .int .i64 0, .int .u64 0, .int .u64 0, .int .u64 0, .int .i64 0, .int .i64 0] 32)).alloc (.cells #[.int .i64 0, .int .i64 0, .int .i64 0, .int .u64 0, .int .u64 0, .int .u64 0, .int .i64 0, .int .i64 0] 35)) w3.heap.size [.int .i64 0, .int .i64 0, .int .i64 0, .int .u64 0, .int .u64 0, .int .u64 0, .int .i64 0, .int .i64 0] at b10
  change BoxL ((w3.alloc (.cells #[.int .i64 0, .int .i64 0, .int .i64 0, .int .u64 0, .int .u64 0, .int .u64 0, .int .i64 0, .int .i64 0] 32)).alloc (.cells #[.int .i64 0, .int .i64 0, .int .i64 0, .int .u64 0, .int .u64 0, .int .u64 0, .int .i64 0, .int .i64 0] 35)) (w3.heap.size + 1) [.int .i64 0, .int .i64 0, .int .i64 0, .int .u64 0, .int .u64 0, .int .u64 0, .int .i64 0, .int .i64 0] at b11
  have hg10 : w.heap.size ≤ w3.heap.size := hw1.size
  replace hr3 := hr3.below hal
  replace hrd3 := hrd3.below hal
  replace hw1 := hw1.trans (hal.mono hw1.size)
  clear hal
  generalize (w3.alloc (.cells #[.int .i64 0, .int .i64 0, .int .i64 0, .int .u64 0, .int .u64 0, .int .u64 0, .int .i64 0, .int .i64 0] 32)).alloc (.cells #[.int .i64 0, .int .i64 0, .int .i64 0, .int .u64 0, .int .u64 0, .int .u64 0, .int .i64 0, .int .i64 0] 35) = W at *
  generalize w3.heap.size = g10 at *
  clear w3
  clear hfl
  go_wp2_with fail
  go_loopw [9, 12] (fun x9 i wr => AtBT w g8 g10 A1 m1 c1 bs m2 x9 i wr) (fun _ i _ => m2 - (intOf i).toNat)
  case atStart => exact ⟨0, 0, zeroK, A3, _, c3, Nat.zero_le _, rfl, rfl, hr3, hf3, hrd3, zeroK_may, Nat.le_refl _, hw1, b10, b11⟩
  case round =>
    clear hr3 hf3 hrd3 hw1 b10 b11 h1
    obtain ⟨j, a, s, A, n, c, hj, rfl, rfl, hr, hfar, hrd, hs, hsn, hw, x10, x11⟩ := hrel
    have l11 := x11.lt
    by_cases hlt : j < m2
    · obtain ⟨ad0, x, rfl, hbl, hc0, hx1, hx2, _⟩ := (h2.below hw).at_ hlt
      have hTr := hT.bel hw
      have hcj : (j : Int) < (m2 : Int) := by omega
      have hcj0 : (0 : Int) ≤ (j : Int) := by omega
      have hsn9 : s.n ≤ 900000 := by omega
      go_upto_region 11 with fail
      go_cut [13, 14, 15] (fun x13 x14 x15 wx => NXAt wr g8 A1 m1 c1 bs z x s ((flat bs).drop a) x13 x14 x15 wx)
      case first =>
        -- DONE
        have kg : ∀ X, wr.grownBy X (some g8) → (X.cell? ⟨g10, 0, none⟩ = some (.int .i64 (s.n : Int)) ∧ X.cell? ⟨g10, 1, none⟩ = some (.int .i64 s.t) ∧ X.cell? ⟨g10, 2, none⟩ = some (.int .i64 s.d) ∧ X.cell? ⟨g10, 3, none⟩ = some (.int .u64 (s.v : Int)) ∧ X.cell? ⟨g10, 4, none⟩ = some (.int .u64 (s.e : Int)) ∧ X.cell? ⟨g10, 5, none⟩ = some (.int .u64 (s.x.prev : Int)) ∧ X.cell? ⟨g10, 6, none⟩ = some (.int .i64 (s.x.lead : Int)) ∧ X.cell? ⟨g10, 7, none⟩ = some (.int .i64 (s.x.len : Int))) ∧ X.cell? (ad0.add j) = some (.int .i64 x) := fun X hX =>
          ⟨(x10.grown hX (by simp; omega)).get8, hX.cell hc0 (by rw [add_block]; simp; omega)⟩
        have hrdX : ∀ X, Below wr.heap.size wr X → Rdr X g8 A1 m1 c1 bs a := fun X hX => hrd.below hX
        have x14A := (BoxL.new wr [.int .i64 0, .int .i64 0, .int .i64 0, .int .u64 0, .int .u64 0, .int .u64 0, .int .i64 0, .int .i64 0] 32).drew
        change BoxL (wr.alloc (.cells #[.int .i64 0, .int .i64 0, .int .i64 0, .int .u64 0, .int .u64 0, .int .u64 0, .int .i64 0, .int .i64 0] 32)).drew wr.heap.size [.int .i64 0, .int .i64 0, .int .i64 0, .int .u64 0, .int .u64 0, .int .u64 0, .int .i64 0, .int .i64 0] at x14A
        have l10 := x10.lt
        have hl8 : g8 < wr.heap.size := hrd.lt
        clear hr hfar x10 x11 hc0 h2 hrd hcj
        go_region_held3 (fun w' => (w'.cell? ⟨g10, 0, none⟩ = some (.int .i64 (s.n : Int)) ∧ w'.cell? ⟨g10, 1, none⟩ = some (.int .i64 s.t) ∧ w'.cell? ⟨g10, 2, none⟩ = some (.int .i64 s.d) ∧ w'.cell? ⟨g10, 3, none⟩ = some (.int .u64 (s.v : Int)) ∧ w'.cell? ⟨g10, 4, none⟩ = some (.int .u64 (s.e : Int)) ∧ w'.cell? ⟨g10, 5, none⟩ = some (.int .u64 (s.x.prev : Int)) ∧ w'.cell? ⟨g10, 6, none⟩ = some (.int .i64 (s.x.lead : Int)) ∧ w'.cell? ⟨g10, 7, none⟩ = some (.int .i64 (s.x.len : Int))) ∧ w'.cell? (ad0.add j) = some (.int .i64 x))
          (with_reducible first | exact kg _ (by repeat (first | with_reducible exact World.grownBy.refl _ _ | with_reducible assumption | with_reducible refine gr_drew ?_ | with_reducible refine gr_alloc ?_ _ | with_reducible refine gr_put ?_ (by (first | assumption | omega | (simp; done) | (simp; omega))) _ _))) (first
          | (go_at_call 8; refine (HN.out _ _ _ _ _ _ _ _ _ _ (hrdX _ (by repeat (first | with_reducible exact Below.refl _ _ | with_reducible assumption | with_reducible refine Below.drew ?_ | with_reducible refine below_drewN ?_ _ | with_reducible refine Below.alloc ?_ (by (first | assumption | omega | (simp; done) | (simp; omega))) _ | with_reducible refine below_set ?_ (by (first | assumption | omega | (simp; done) | (simp; omega))) _ _))) (by omega) hT1 (hTr.bel (by repeat (first | with_reducible exact Below.refl _ _ | with_reducible assumption | with_reducible refine Below.drew ?_ | with_reducible refine below_drewN ?_ _ | with_reducible refine Below.alloc ?_ (by (first | assumption | omega | (simp; done) | (simp; omega))) _ | with_reducible refine below_set ?_ (by (first | assumption | omega | (simp; done) | (simp; omega))) _ _))) ⟨hx1, hx2⟩ hs hsn9).mono ?_; rintro e w9 ⟨xs9, s9, p9, er9, A9, c9, a9, hd9, rfl, hq9, hA9, hr9, hp9, hg9⟩; have hgr : wr.grownBy w9 (some g8) := World.grownBy.trans (by repeat (first | with_reducible exact World.grownBy.refl _ _ | with_reducible assumption | with_reducible refine gr_drew ?_ | with_reducible refine gr_alloc ?_ _ | with_reducible refine gr_put ?_ (by (first | assumption | omega | (simp; done) | (simp; omega))) _ _)) hg9; have hs9 : wr.heap.size ≤ w9.heap.size := hgr.size; (first | (have x14 : BoxL w9 wr.heap.size [.int .i64 0, .int .i64 0, .int .i64 0, .int .u64 0, .int .u64 0, .int .u64 0, .int .i64 0, .int .i64 0] := (by with_reducible exact BoxL.grown x14A hg9 (by simp; omega))) | skip); (first | (obtain ⟨y0, y1, y2, y3, y4, y5, y6, y7⟩ := x14.get8; obtain ⟨f0, f1, f2, f3, f4, f5, f6, f7⟩ := x14.free8) | skip)))
        all_goals
          go_wp2_with fail
          go_meet
          first
          | exact NXAt.after hd9 hq9 hA9 hr9 hp9 (by repeat (first | with_reducible exact Below.refl _ _ | with_reducible assumption | with_reducible refine Below.drew ?_ | with_reducible refine below_drewN ?_ _ | with_reducible refine Below.alloc ?_ (by (first | assumption | omega | (simp; done) | (simp; omega))) _ | with_reducible refine below_set ?_ (by (first | assumption | omega | (simp; done) | (simp; omega))) _ _)) hg9 _
          | exact NXAt.ahead hd9 hq9 hA9 hr9 hp9 (by repeat (first | with_reducible exact Below.refl _ _ | with_reducible assumption | with_reducible refine Below.drew ?_ | with_reducible refine below_drewN ?_ _ | with_reducible refine Below.alloc ?_ (by (first | assumption | omega | (simp; done) | (simp; omega))) _ | with_reducible refine below_set ?_ (by (first | assumption | omega | (simp; done) | (simp; omega))) _ _)) (by simp) hg9 hl8 rfl x14
      case rest =>
        obtain ⟨xs, s1, p1, er, A', c', a', gs, hd, rfl, rfl, rfl, hq, hA, hrd1, hp, hgr, x14, hgs⟩ := hcut
        replace x10 := x10.grown hgr (by simp; omega)
        replace x11 := x11.grown hgr (by simp; omega)
        replace hr := hr.farN hgr (fun ad e => by have := hfar ad e; simp; omega)
        replace hw := below_far hw hgr hg8
        have hcc := hgr.cell hc0 (by rw [add_block]; simp; omega)
        obtain ⟨hle1, hle2, hle3, hle4⟩ := hd.le hs
        obtain ⟨ev, HE⟩ : ∃ ev, Hid (errV er = ev) := ⟨_, Lib.hid rfl⟩
        obtain ⟨L, HL⟩ : ∃ L, Hid (xs.length = L) := ⟨_, Lib.hid rfl⟩
        rw [HL.out] at hq hle2 ⊢
        rw [HE.out]
        have hwr := hgr.size
        have HD := Lib.hid hd
        have HP := Lib.hid hp
        have l11 := x11.lt
        have l14 := x14.lt
        clear hd hp hrd hgr hc0 hTr
        go_upto_region 14 with fail
        go_cut [55, 56, 57, 58, 59, 60] (fun _ _ _ _ _ x60 wx => x60 = .bool (decide (z ≠ 1 ∧ z ≠ 2)) ∧ wx = wc)
        case first =>
          -- DONE
          clear x10 x11 hr hcc hq hrd1 x14
          rcases (show z = 1 ∨ z = 2 ∨ (z ≠ 1 ∧ z ≠ 2) by omega) with rfl | rfl | ⟨hz1, hz2⟩
          · go_wp2
            go_meet
            exact ⟨rfl, rfl⟩
          · go_wp2
            go_meet
            exact ⟨rfl, rfl⟩
          · have e1 : (z != 1) = true := by simpa using hz1
            have e2 : (z != 2) = true := by simpa using hz2
            go_wp2
            go_meet
            exact ⟨by rw [decide_eq_true ⟨hz1, hz2⟩], rfl⟩
        case rest =>
          obtain ⟨rfl, rfl⟩ := hcut
          obtain ⟨b0, HB0⟩ : ∃ b0 : Nat, Hid ((if z ≠ 1 ∧ z ≠ 2 then 6 else 0) = b0) := ⟨_, Lib.hid rfl⟩
          go_upto_if 60 with fail
          go_cut [17] (fun x17 wx => x17 = .int .i64 ((b0 : Nat) : Int) ∧ wx = wc)
          case first =>
            -- DONE
            clear x10 x11 hr hcc hq hrd1 x14
            by_cases hz : z ≠ 1 ∧ z ≠ 2
            · have hb := HB0.out
              rw [if_pos hz] at hb
              subst hb
              rw [decide_eq_true hz]
              go_wp2
              go_meet
              exact ⟨rfl, rfl⟩
            · have hb := HB0.out
              rw [if_neg hz] at hb
              subst hb
              rw [decide_eq_false hz]
              go_wp2
              go_meet
              exact ⟨rfl, rfl⟩
          case rest =>
            obtain ⟨rfl, rfl⟩ := hcut
            obtain ⟨N, HNN⟩ : ∃ N, Hid ((min x 32).toNat = N) := ⟨_, Lib.hid rfl⟩
            have hz0 := HB0.out
            go_upto_block 2 with fail
            have hpl : ((flat bs).drop a).length ≤ 8 * m1 := by rw [List.length_drop, flat_length, HL1.out]; omega
            go_cut [9, 16, 17, 18] (fun x9 x16 x17 _ wx => OutIn g8 g10 z x s ((flat bs).drop a) wc x9 x16 x17 wx)
            case first =>
              -- DONE
              clear x10 x14 hq hrd1 hle1 hle2 hle3 hle4 HD HP HE HL
              go_wp2_with fail
              go_loopw [9, 16, 17, 18] (fun x9 x16 x17 x18 wq => AtIn g8 g10 m1 z x s ((flat bs).drop a) wc N x9 x16 x17 x18 wq) (fun _ _ _ k _ => 33 - (intOf k).toNat)
              case atStart =>
                refine ⟨0, [], s, b0, A, n, c, Nat.zero_le _, rfl, rfl, rfl, hs, Nat.le_refl _, Nat.le_refl _, MidQ.nil_ (bare_below (World.grownBy.refl wc none)) (Nat.zero_le _), x11, World.grownBy.refl _ _, hfar, ?_⟩
                by_cases hz : z ≠ 1 ∧ z ≠ 2
                · rw [if_pos hz] at hz0
                  exact .inr ⟨by omega, [], .inl ⟨hz, rfl, rfl, hz0.symm⟩⟩
                · rw [if_neg hz] at hz0
                  exact .inl ⟨hz0.symm, by omega, Nat.zero_le _, rfl, _, GoneB.zero z s _ N, hr, hpl⟩
              case round =>
                clear x11 hr hz0 hpl hfar
                obtain ⟨k, ys, su, bad, Aq, l, cq, hk, rfl, rfl, rfl, hsu, hsun, hyl, hm, y11, hgq, hfq, hst⟩ := hrel
                have hcq := hgq.cell hcc (by rw [add_block]; simp; omega)
                have l11q := y11.lt
                have hNN := HNN.out
                rcases hst with ⟨rfl, hz, hkN, hyk, q, hG, hRq, hql⟩ | ⟨hbad, p2, hB⟩
                · by_cases hkn : k < N
                  · have hc1 : (k : Int) < x := by omega
                    have hc2 : (k : Int) < 32 := by omega
                    have hll : l = q.length := by have := hRq.len; rw [enc_length] at this; omega
                    rw [show N - k = (N - (k + 1)) + 1 by omega] at hG
                    have HG := Lib.hid hG
                    have HLL := Lib.hid hll
                    have hl5 : l ≤ 100000 := by omega
                    have hrget := rget_all8 z su Aq l cq q wr hsu (by omega) (hRq.more (by omega)) hl5
                    have HYK := Lib.hid hyk
                    clear hG hll hNN hyk
                    obtain ⟨d0, d1, d2, d3, d4, d5, d6, d7⟩ := y11.get8
                    go_wp2_with fail
                    refine hrget.mono ?_
                    rintro e w5 ⟨r, hkg, rfl, hb5⟩
                    obtain ⟨hrt, hrv, hrs, hrn, hre, hok⟩ := kg_in hsu hkg
                    have HKG := Lib.hid hkg
                    clear hrget d0 d1 d2 d3 d4 d5 d6 d7 hkg
                    go_upto_region 20 with fail
                    have b19 := (BoxL.new w5 [.int .i64 r.t, .int .u64 (r.v : Int)] 42).onA (.cells #[.int .i64 (r.s.n : Int), .int .i64 r.s.t, .int .i64 r.s.d, .int .u64 (r.s.v : Int), .int .u64 (r.s.e : Int), .int .u64 (r.s.x.prev : Int), .int .i64 (r.s.x.lead : Int), .int .i64 (r.s.x.len : Int)] 35)
                    have b20 := BoxL.new (w5.alloc (.cells #[.int .i64 r.t, .int .u64 (r.v : Int)] 42)) [.int .i64 (r.s.n : Int), .int .i64 r.s.t, .int .i64 r.s.d, .int .u64 (r.s.v : Int), .int .u64 (r.s.e : Int), .int .u64 (r.s.x.prev : Int), .int .i64 (r.s.x.lead : Int), .int .i64 (r.s.x.len : Int)] 35
                    simp only [World.size_alloc] at b20
                    have hal : Below w5.heap.size w5 ((w5.alloc (.cells #[.int .i64 r.t, .int .u64 (r.v : Int)] 42)).alloc (.cells #[.int .i64 (r.s.n : Int), .int .i64 r.s.t, .int .i64 r.s.d, .int .u64 (r.s.v : Int), .int .u64 (r.s.e : Int), .int .u64 (r.s.x.prev : Int), .int .i64 (r.s.x.lead : Int), .int .i64 (r.s.x.len : Int)] 35)) := by repeat (first | with_reducible exact Below.refl _ _ | with_reducible assumption | with_reducible refine Below.drew ?_ | with_reducible refine below_drewN ?_ _ | with_reducible refine Below.alloc ?_ (by (first | assumption | omega | (simp; done) | (simp; omega))) _ | with_reducible refine below_set ?_ (by (first | assumption | omega | (simp; done) | (simp; omega))) _ _)
                    have hgx : wr.heap.size ≤ w5.heap.size := hb5.size
                    replace hb5 := hb5.trans (hal.mono hb5.size)
                    clear hal
                    change BoxL ((w5.alloc (.cells #[.int .i64 r.t, .int .u64 (r.v : Int)] 42)).alloc (.cells #[.int .i64 (r.s.n : Int), .int .i64 r.s.t, .int .i64 r.s.d, .int .u64 (r.s.v : Int), .int .u64 (r.s.e : Int), .int .u64 (r.s.x.prev : Int), .int .i64 (r.s.x.lead : Int), .int .i64 (r.s.x.len : Int)] 35)) w5.heap.size [.int .i64 r.t, .int .u64 (r.v : Int)] at b19
                    change BoxL ((w5.alloc (.cells #[.int .i64 r.t, .int .u64 (r.v : Int)] 42)).alloc (.cells #[.int .i64 (r.s.n : Int), .int .i64 r.s.t, .int .i64 r.s.d, .int .u64 (r.s.v : Int), .int .u64 (r.s.e : Int), .int .u64 (r.s.x.prev : Int), .int .i64 (r.s.x.lead : Int), .int .i64 (r.s.x.len : Int)] 35)) (w5.heap.size + 1) [.int .i64 (r.s.n : Int), .int .i64 r.s.t, .int .i64 r.s.d, .int .u64 (r.s.v : Int), .int .u64 (r.s.e : Int), .int .u64 (r.s.x.prev : Int), .int .i64 (r.s.x.lead : Int), .int .i64 (r.s.x.len : Int)] at b20
                    generalize (w5.alloc (.cells #[.int .i64 r.t, .int .u64 (r.v : Int)] 42)).alloc (.cells #[.int .i64 (r.s.n : Int), .int .i64 r.s.t, .int .i64 r.s.d, .int .u64 (r.s.v : Int), .int .u64 (r.s.e : Int), .int .u64 (r.s.x.prev : Int), .int .i64 (r.s.x.lead : Int), .int .i64 (r.s.x.len : Int)] 35) = V at *
                    generalize w5.heap.size = gx at *
                    clear w5
                    have hmV := hm.on hb5
                    have y11V := y11.below hb5
                    have hgV := gr_below hgq hb5
                    have hRV := hRq.below (hb5.mono (show g10 ≤ wr.heap.size by omega))
                    by_cases he : r.e = 0
                    · rw [he]
                      have HS := Lib.hid (HG.out.step HKG.out he)
                      obtain ⟨hok1, hok2, hok3⟩ := hok he
                      have hkl : r.n ≤ l := by have := HLL.out; omega
                      have hkc : l ≤ cq := hRq.cap
                      have hqd : (q.drop r.n).length ≤ 8 * m1 := by rw [List.length_drop]; omega
                      have HQD := Lib.hid hqd
                      have HOK2 := Lib.hid hok2
                      have hub : ∀ b, u16.ownBlock = some b → b < wr.heap.size := fun b hb => (hm.row.lt b hb).2
                      have hlo : ∀ b, u16.ownBlock = some b → wc.heap.size ≤ b := fun b hb => (hm.row.lt b hb).1
                      have nx : u16.ownBlock ≠ some (gx + 1) := fun e => by have := hub _ e; omega
                      have mC := hmV.onA (.cells #[.int .i64 r.t, .int .u64 (r.v : Int)] 42)
                      have r9 := RdQ.one V (r.t, r.v) ⟨hrt.1, hrt.2, hrv⟩
                      have y11A := y11V.onA (.cells #[.int .i64 r.t, .int .u64 (r.v : Int)] 42)
                      have b20A := b20.onA (.cells #[.int .i64 r.t, .int .u64 (r.v : Int)] 42)
                      have hgA := gr_alloc hgV (.cells #[.int .i64 r.t, .int .u64 (r.v : Int)] 42)
                      have hRA := hRV.below (Below.mono (B := V.heap.size) ((Below.refl _ V).alloc (Nat.le_refl _) (.cells #[.int .i64 r.t, .int .u64 (r.v : Int)] 42)) (by have := y11V.lt; omega))
                      obtain ⟨p0, p1'⟩ := b19.get2
                      have hVs : wc.heap.size ≤ (V.alloc (.cells #[.int .i64 r.t, .int .u64 (r.v : Int)] 42)).heap.size := hgA.size
                      have hxm : ys.length + 1 ≤ 1073741824 := by rw [HYK.out]; omega
                      have hl11 : g10 + 1 < wc.heap.size := by omega
                      have hgs0 : g10 ≤ wc.heap.size := by omega
                      clear hok hok1 hok2 hm hmV y11 y11V hgq hgV hRq hRV hb5 b19 b20 HG HKG HLL hqd
                      go_upto_region 23 with (at_builtin; (refine wpList_appMQ rfl (.tmp 89) (.tmp 91) rfl rfl rfl mC hVs r9 hxm ?_; intro v' w' m' hb' hg'))
                      clear p0 p1'
                      have y11W := y11A.belowB hb' hl11
                      have b20W := b20A.grown hg' nx
                      have hgW := gr_own hgA hg' hlo
                      have hRW := hRA.below (hb'.mono hgs0)
                      have hne : g10 + 1 ≠ gx + 1 := by omega
                      obtain ⟨z0, z1, z2, z3, z4, z5, z6, z7⟩ := b20W.get8
                      obtain ⟨k0, k1, k2, k3, k4, k5, k6, k7⟩ := y11W.get8
                      obtain ⟨kf0, kf1, kf2, kf3, kf4, kf5, kf6, kf7⟩ := y11W.free8
                      have hRF := (rd_slice hRW hkl).below (below_set8 (Below.refl g10 w') (Nat.le_succ g10) (.int .i64 (r.s.n : Int)) (.int .i64 r.s.t) (.int .i64 r.s.d) (.int .u64 (r.s.v : Int)) (.int .u64 (r.s.e : Int)) (.int .u64 (r.s.x.prev : Int)) (.int .i64 (r.s.x.lead : Int)) (.int .i64 (r.s.x.len : Int)))
                      have hfF := far_slice (c := cq) (k := r.n) hfq
                      have hgF := hgW.trans (gr_set8 w' (g10 + 1) (.int .i64 (r.s.n : Int)) (.int .i64 r.s.t) (.int .i64 r.s.d) (.int .u64 (r.s.v : Int)) (.int .u64 (r.s.e : Int)) (.int .u64 (r.s.x.prev : Int)) (.int .i64 (r.s.x.lead : Int)) (.int .i64 (r.s.x.len : Int)))
                      have mF := m'.set8 (g := g10 + 1) (Nat.zero_le _) hl11 (.int .i64 (r.s.n : Int)) (.int .i64 r.s.t) (.int .i64 r.s.d) (.int .u64 (r.s.v : Int)) (.int .u64 (r.s.e : Int)) (.int .u64 (r.s.x.prev : Int)) (.int .i64 (r.s.x.lead : Int)) (.int .i64 (r.s.x.len : Int))
                      have yF := y11W.all8 (.int .i64 (r.s.n : Int)) (.int .i64 r.s.t) (.int .i64 r.s.d) (.int .u64 (r.s.v : Int)) (.int .u64 (r.s.e : Int)) (.int .u64 (r.s.x.prev : Int)) (.int .i64 (r.s.x.lead : Int)) (.int .i64 (r.s.x.len : Int))
                      have HRF := Lib.hid hRF
                      have HFF := Lib.hid hfF
                      clear hgA hg' mC r9 y11A b20A hRA hRW hgW m' y11W b20W hRF hfF hfq
                      go_wp2_with fail
                      clear z0 z1 z2 z3 z4 z5 z6 z7 k0 k1 k2 k3 k4 k5 k6 k7 kf0 kf1 kf2 kf3 kf4 kf5 kf6 kf7
                      go_roundw
                      case rel =>
                        exact ⟨k + 1, ys ++ [(r.t, r.v)], r.s, 0, _, _, _, by omega, by go_num, rfl, rfl, hrs, by rw [HOK2.out]; omega, by rw [List.length_append, HYK.out]; exact Nat.le_refl _, mF, yF, hgF, HFF.out, .inl ⟨rfl, hz, by omega, by rw [List.length_append, HYK.out]; rfl, _, HS.out, HRF.out, HQD.out⟩⟩
                      case measure => simp [intOf]; omega
                    · have hz1 : ((r.e : Int) == 0) = false := by simp [he]
                      have HB : Hid (BatA z x s ((flat bs).drop a) ys su [] r.e) := Lib.hid (.inr ⟨hz, by rw [HNN.out]; exact HG.out.err HKG.out he []⟩)
                      have HE0 := Lib.hid he
                      clear hm y11 hgq hRq hRV b19 b20 HG HKG HLL hb5 hok he
                      go_wp2_with fail
                      go_roundw
                      case rel =>
                        exact ⟨k + 1, ys, su, r.e, Aq, l, cq, by omega, by go_num, rfl, rfl, hsu, by omega, by omega, hmV, y11V, hgV, hfq, .inr ⟨HE0.out, [], HB.out⟩⟩
                      case measure => simp [intOf]; omega
                  · obtain rfl : k = N := by omega
                    rw [Nat.sub_self] at hG
                    have HO : Hid (OutIn g8 g10 z x s ((flat bs).drop a) wc (.slice Aq l cq) u16 (.int .i64 ((0 : Nat) : Int)) wr) := Lib.hid ⟨ys, su, 0, Aq, l, cq, q, rfl, rfl, .inr ⟨hz, by rw [HNN.out]; exact hG.done⟩, hm, y11, hgq, hfq, fun _ => hRq⟩
                    clear hG hRq y11 hgq hm hfq
                    by_cases hc1 : (k : Int) < x
                    · have hc2 : ¬ (k : Int) < 32 := by omega
                      go_wp2_with fail
                      go_meet
                      exact HO.out
                    · go_wp2_with fail
                      go_meet
                      exact HO.out
                · have hb : ((bad : Int) == 0) = false := by simp; omega
                  have HO : Hid (OutIn g8 g10 z x s ((flat bs).drop a) wc (.slice Aq l cq) u16 (.int .i64 ((bad : Nat) : Int)) wr) := Lib.hid ⟨ys, su, bad, Aq, l, cq, p2, rfl, rfl, hB, hm, y11, hgq, hfq, fun h => absurd h hbad⟩
                  clear hB y11 hgq hm hfq hbad
                  by_cases hc1 : (k : Int) < x
                  · by_cases hc2 : (k : Int) < 32
                    · go_wp2_with fail
                      go_meet
                      exact HO.out
                    · go_wp2_with fail
                      go_meet
                      exact HO.out
                  · go_wp2_with fail
                    go_meet
                    exact HO.out
            case rest =>
              obtain ⟨ys, su, bad, Aq, l, cq, p2, rfl, rfl, hB, hm, y11, hgq, hfq, hRp⟩ := hcut
              obtain ⟨rfl, rfl, rfl, hpe⟩ := HD.out.same hB
              have hn8 : g8 < g10 + 1 := by omega
              have hqc := hq.farN hgq (fun ad e => by have := hA ad e; simp; omega)
              replace x14 := x14.grown hgq (by simp; omega)
              replace x10 := x10.grown hgq (by simp)
              replace hrd1 := hrd1.farG hgq hn8
              have hw' := below_far hw hgq (by omega)
              obtain ⟨A16, c16, rfl, hq16⟩ := hm.own.form
              rw [HL.out] at hq16 ⊢
              replace hqc := hqc.more hgq.size
              have hwcs := hgq.size
              have HPE := Lib.hid hpe
              have HRP := Lib.hid hRp
              clear hB hm hgq hq x11 hr hcc hpe hRp HNN HB0 hz0 HD hw hA
              have hCd := fun X => code_any er X (by omega)
              rw [HE.out] at hCd
              have hSt := fun X => lawstate_any s1 X
              have qs := fun w => run_neq_rst w s1
              have sg := rst_guard
              have hne : ((er : Int) != (er : Int)) = false := by simp
              have l14 := x14.lt
              have l11 := y11.lt
              have l10 := x10.lt
              go_upto_region 25 with fail
              go_cut [112] (fun x112 wx => x112 = .bool false ∧ Below wc.heap.size wc wx)
              case first =>
                -- DONE
                have hSm : ∀ X, Below wc.heap.size wc X → Calls Tryd.prog 10 #[.slice A' L c', .slice A16 L c16] X fun e w' => e = .returned (.int .i64 1) ∧ Below X.heap.size X w' := fun X hX =>
                  (same_any A' A16 L c' L c16 xs xs X ((hqc.below hX).more hX.size) ((hq16.below hX).more hX.size) (by omega) (by omega)).mono fun e w' ⟨⟨b, h1, h2⟩, h3⟩ => by
                    obtain rfl := h2.2 rfl
                    exact ⟨h1, h3⟩
                have q0 := (x14.belowB (w' := wc.drew) (by repeat (first | with_reducible exact Below.refl _ _ | with_reducible assumption | with_reducible refine Below.drew ?_ | with_reducible refine below_drewN ?_ _ | with_reducible refine Below.alloc ?_ (by (first | assumption | omega | (simp; done) | (simp; omega))) _ | with_reducible refine below_set ?_ (by (first | assumption | omega | (simp; done) | (simp; omega))) _ _)) l14).get8
                have q1 := (y11.belowB (w' := wc.drew) (by repeat (first | with_reducible exact Below.refl _ _ | with_reducible assumption | with_reducible refine Below.drew ?_ | with_reducible refine below_drewN ?_ _ | with_reducible refine Below.alloc ?_ (by (first | assumption | omega | (simp; done) | (simp; omega))) _ | with_reducible refine below_set ?_ (by (first | assumption | omega | (simp; done) | (simp; omega))) _ _)) l11).get8
                clear x10 hrd1
                go_region_held3 (fun w' => (w'.cell? ⟨gs, 0, none⟩ = some (.int .i64 (s1.n : Int)) ∧ w'.cell? ⟨gs, 1, none⟩ = some (.int .i64 s1.t) ∧ w'.cell? ⟨gs, 2, none⟩ = some (.int .i64 s1.d) ∧ w'.cell? ⟨gs, 3, none⟩ = some (.int .u64 (s1.v : Int)) ∧ w'.cell? ⟨gs, 4, none⟩ = some (.int .u64 (s1.e : Int)) ∧ w'.cell? ⟨gs, 5, none⟩ = some (.int .u64 (s1.x.prev : Int)) ∧ w'.cell? ⟨gs, 6, none⟩ = some (.int .i64 (s1.x.lead : Int)) ∧ w'.cell? ⟨gs, 7, none⟩ = some (.int .i64 (s1.x.len : Int))) ∧ (w'.cell? ⟨g10 + 1, 0, none⟩ = some (.int .i64 (s1.n : Int)) ∧ w'.cell? ⟨g10 + 1, 1, none⟩ = some (.int .i64 s1.t) ∧ w'.cell? ⟨g10 + 1, 2, none⟩ = some (.int .i64 s1.d) ∧ w'.cell? ⟨g10 + 1, 3, none⟩ = some (.int .u64 (s1.v : Int)) ∧ w'.cell? ⟨g10 + 1, 4, none⟩ = some (.int .u64 (s1.e : Int)) ∧ w'.cell? ⟨g10 + 1, 5, none⟩ = some (.int .u64 (s1.x.prev : Int)) ∧ w'.cell? ⟨g10 + 1, 6, none⟩ = some (.int .i64 (s1.x.lead : Int)) ∧ w'.cell? ⟨g10 + 1, 7, none⟩ = some (.int .i64 (s1.x.len : Int))))
                  (with_reducible first | exact ⟨q0, q1⟩ | exact ⟨(x14.belowB (by repeat (first | with_reducible exact Below.refl _ _ | with_reducible assumption | with_reducible refine Below.drew ?_ | with_reducible refine below_drewN ?_ _ | with_reducible refine Below.alloc ?_ (by (first | assumption | omega | (simp; done) | (simp; omega))) _ | with_reducible refine below_set ?_ (by (first | assumption | omega | (simp; done) | (simp; omega))) _ _)) l14).get8, (y11.belowB (by repeat (first | with_reducible exact Below.refl _ _ | with_reducible assumption | with_reducible refine Below.drew ?_ | with_reducible refine below_drewN ?_ _ | with_reducible refine Below.alloc ?_ (by (first | assumption | omega | (simp; done) | (simp; omega))) _ | with_reducible refine below_set ?_ (by (first | assumption | omega | (simp; done) | (simp; omega))) _ _)) l11).get8⟩) (first
                  | (go_at_call 12; (with_reducible refine (hCd _).mono ?_); rintro e w20 ⟨rfl, rfl⟩)
                  | (go_at_call 10; (with_reducible refine (hSm _ (by repeat (first | with_reducible exact Below.refl _ _ | with_reducible assumption | with_reducible refine Below.drew ?_ | with_reducible refine below_drewN ?_ _ | with_reducible refine Below.alloc ?_ (by (first | assumption | omega | (simp; done) | (simp; omega))) _ | with_reducible refine below_set ?_ (by (first | assumption | omega | (simp; done) | (simp; omega))) _ _))).mono ?_); rintro e w21 ⟨rfl, HB⟩; have hb21 : Below wc.heap.size wc w21 := (Below.trans (by repeat (first | with_reducible exact Below.refl _ _ | with_reducible assumption | with_reducible refine Below.drew ?_ | with_reducible refine below_drewN ?_ _ | with_reducible refine Below.alloc ?_ (by (first | assumption | omega | (simp; done) | (simp; omega))) _ | with_reducible refine below_set ?_ (by (first | assumption | omega | (simp; done) | (simp; omega))) _ _)) (HB.mono (by first | exact Nat.le_refl _ | (simp; done) | (simp; omega) | omega))); have hs21 := hb21.size; clear HB)
                  | (go_at_call 11; (with_reducible refine (hSt _).mono ?_); rintro e w22 ⟨rfl, HB⟩; have hb22 : Below wc.heap.size wc w22 := (Below.trans (by repeat (first | with_reducible exact Below.refl _ _ | with_reducible assumption | with_reducible refine Below.drew ?_ | with_reducible refine below_drewN ?_ _ | with_reducible refine Below.alloc ?_ (by (first | assumption | omega | (simp; done) | (simp; omega))) _ | with_reducible refine below_set ?_ (by (first | assumption | omega | (simp; done) | (simp; omega))) _ _)) (HB.mono (by first | exact Nat.le_refl _ | (simp; done) | (simp; omega) | omega))); have hs22 := hb22.size; clear HB))
                all_goals
                  clear q0 q1 hCd hSt hSm
                  go_wp2_with fail
                  go_meet
                  exact ⟨rfl, by repeat (first | with_reducible exact Below.refl _ _ | with_reducible assumption | with_reducible refine Below.drew ?_ | with_reducible refine below_drewN ?_ _ | with_reducible refine Below.alloc ?_ (by (first | assumption | omega | (simp; done) | (simp; omega))) _ | with_reducible refine below_set ?_ (by (first | assumption | omega | (simp; done) | (simp; omega))) _ _)⟩
              case rest =>
                obtain ⟨rfl, hbe⟩ := hcut
                replace hw' := hw'.trans (hbe.mono hw'.size)
                replace x14 := x14.below hbe
                replace x10 := x10.below hbe
                replace y11 := y11.below hbe
                replace hrd1 := hrd1.below hbe
                have hRP2 : Hid (er = 0 → Rd wc g10 Aq l cq (enc p2)) := Lib.hid fun h => (HRP.out h).below (hbe.mono (by omega))
                clear hCd hSt qs sg hne hqc hq16 HRP hbe
                by_cases hz : er = 0
                · have hz1 : ((er : Int) != 0) = false := by simp [hz]
                  have hR := hRP2.out hz
                  rw [← HPE.out hz, HP.out hz] at hR
                  have hat := hrd1.at_
                  have hll : l = 8 * m1 - a' := by have := hR.len; rw [enc_length, List.length_drop, flat_length, HL1.out] at this; omega
                  have hll2 : ((8 * m1 - a' : Nat) : Int) = (l : Int) := by omega
                  have hlf := left_any g8 A1 m1 c1 bs a' wc hrd1
                  rw [hll2] at hlf
                  have hHL := Lib.hid hll
                  have hnn : ((l : Int) != (l : Int)) = false := by simp
                  clear hll hll2 hz hRP2 HPE HP HE
                  go_wp2_with fail
                  refine hlf.mono ?_
                  rintro e w5 ⟨rfl, k5, rfl⟩
                  replace x14 := x14.drewN k5
                  replace x10 := x10.drewN k5
                  replace y11 := y11.drewN k5
                  replace hrd1 := hrd1.drewN k5
                  replace hR := hR.drewN k5
                  replace hw' := below_drewN hw' k5
                  clear hlf
                  generalize wc.drewN k5 = w5 at *
                  have n14 : gs ≠ g10 := by omega
                  have n11 : g10 + 1 ≠ g10 := by omega
                  obtain ⟨z0, z1, z2, z3, z4, z5, z6, z7⟩ := x14.get8
                  obtain ⟨k0, k1, k2, k3, k4, k5', k6, k7⟩ := x10.get8
                  obtain ⟨kf0, kf1, kf2, kf3, kf4, kf5, kf6, kf7⟩ := x10.free8
                  have y10F := x10.all8 (.int .i64 (s1.n : Int)) (.int .i64 s1.t) (.int .i64 s1.d) (.int .u64 (s1.v : Int)) (.int .u64 (s1.e : Int)) (.int .u64 (s1.x.prev : Int)) (.int .i64 (s1.x.lead : Int)) (.int .i64 (s1.x.len : Int))
                  have y11F := y11.oth8 n11 (.int .i64 (s1.n : Int)) (.int .i64 s1.t) (.int .i64 s1.d) (.int .u64 (s1.v : Int)) (.int .u64 (s1.e : Int)) (.int .u64 (s1.x.prev : Int)) (.int .i64 (s1.x.lead : Int)) (.int .i64 (s1.x.len : Int))
                  have hwF := below_set8 hw' hg10 (.int .i64 (s1.n : Int)) (.int .i64 s1.t) (.int .i64 s1.d) (.int .u64 (s1.v : Int)) (.int .u64 (s1.e : Int)) (.int .u64 (s1.x.prev : Int)) (.int .i64 (s1.x.lead : Int)) (.int .i64 (s1.x.len : Int))
                  have HRF := Lib.hid (hR.below (below_set8 (Below.refl g10 w5) (Nat.le_refl _) (.int .i64 (s1.n : Int)) (.int .i64 s1.t) (.int .i64 s1.d) (.int .u64 (s1.v : Int)) (.int .u64 (s1.e : Int)) (.int .u64 (s1.x.prev : Int)) (.int .i64 (s1.x.lead : Int)) (.int .i64 (s1.x.len : Int))))
                  have hrdF := hrd1.farG (gr_set8 w5 g10 (.int .i64 (s1.n : Int)) (.int .i64 s1.t) (.int .i64 s1.d) (.int .u64 (s1.v : Int)) (.int .u64 (s1.e : Int)) (.int .u64 (s1.x.prev : Int)) (.int .i64 (s1.x.lead : Int)) (.int .i64 (s1.x.len : Int))) hgs3
                  clear x14 x10 y11 hrd1 hR hw' hat
                  go_wp2_with fail
                  clear z0 z1 z2 z3 z4 z5 z6 z7 k0 k1 k2 k3 k4 k5' k6 k7 kf0 kf1 kf2 kf3 kf4 kf5 kf6 kf7
                  go_roundw
                  case rel => exact ⟨j + 1, a', s1, Aq, l, cq, by omega, by go_num, rfl, HRF.out, hfq, hrdF, hle3, by omega, hwF, y10F, y11F⟩
                  case measure => simp [intOf]; omega
                · have hz1 : ((er : Int) != 0) = true := by simp [hz]
                  clear x14 x10 y11 hrd1 hRP2 HPE HP
                  go_wp2_with fail
                  go_ret
                  exact ⟨rfl, hw'⟩
    · go_wp2_with fail
      go_ret
      exact ⟨rfl, hw⟩

end Go.Proofs.YtchkpbhbdbafdaaDoor
