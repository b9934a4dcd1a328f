/-
  KindsBack, walked: it returns true, whatever the arguments.
-/
import Derived.Test.YtcnhoohcdkfgkaaDoorYKinAll
import Derived.Test.YtcnhoohcdkfgkaaDoorM8
import Derived.Test.YtcnhoohcdkfgkaaDoorM11
import Derived.Test.YtcnhoohcdkfgkaaDoorYRising
import Derived.Test.YtcnhoohcdkfgkaaDoorM3
import Derived.Test.YtcnhoohcdkfgkaaDoorM2
import Derived.Test.YtcnhoohcdkfgkaaDoorYSQ
import Derived.Deep.DeepCutAuto
import Derived.Deep.CutBlock
namespace Go.Proofs.YtcnhoohcdkfgkaaDoor
open Go.RowKit

set_option maxRecDepth 20000 in
set_option maxHeartbeats 1000000 in
theorem kback_big (b : Bool) (A1 A2 A3 : Option Addr) (m1 c1 m2 c2 m3 c3 : Nat) (w : World) (_hl : m1 ≤ 9223372036854775807 ∧ m2 ≤ 9223372036854775807 ∧ m3 ≤ 9223372036854775807) (h : 60 < m1 ∨ (m1 ≤ 60 ∧ 300 < m2) ∨ (m1 ≤ 60 ∧ m2 ≤ 300 ∧ 300 < m3)) (hR : RoomW w) (hT : TzW w) :
    Calls Tryd.prog 4 #[.bool b, .slice A1 m1 c1, .slice A2 m2 c2, .slice A3 m3 c3] w (RetTrue w) := by
  rcases h with h | h | h
  all_goals
    go_enter Tryd.func4, Tryd.ntmps4
    go_wp2_with (go_at_call 5; refine (up8_any _ hR hT).mono ?_; rintro e w1 ⟨rfl, hb1⟩)
    go_ret
    exact ⟨rfl, hb1⟩

/-- behind j samples: all bits so far, and the state, in their boxes -/
def AtKB (w : World) (g12 g13 n k : Nat) (l : List Bool) (ys : List (Int × Nat)) (i : Value) (wr : World) : Prop :=
  ∃ j A c, j ≤ n ∧ i = .int .i64 ((j : Nat) : Int) ∧ Below w.heap.size w wr ∧ Rd wr wr.heap.size A (pack (l ++ cdK k ys j)).length c (pack (l ++ cdK k ys j)) ∧
    BoxL wr g12 [.slice A (pack (l ++ cdK k ys j)).length c, .int .i64 (((l ++ cdK k ys j).length : Nat) : Int)] ∧ BoxL wr g13 [.int .i64 ((stK k ys j).n : Int), .int .i64 (stK k ys j).t, .int .i64 (stK k ys j).d, .int .u64 ((stK k ys j).v : Int), .int .u64 ((stK k ys j).e : Int), .int .u64 ((stK k ys j).x.prev : Int), .int .i64 ((stK k ys j).x.lead : Int), .int .i64 ((stK k ys j).x.len : Int)]
/-- behind j samples that were got: all bits, the state, and the place -/
def AtKY (w : World) (g12 g13 n k : Nat) (l : List Bool) (ys : List (Int × Nat)) (A : Option Addr) (c B : Nat) (r : List Bool) (RM : Nat) (x18 i : Value) (wr : World) : Prop :=
  ∃ j, j ≤ n ∧ i = .int .i64 ((j : Nat) : Int) ∧ x18 = .int .i64 (((l ++ cdK k ys j).length : Nat) : Int) ∧ Mid w B wr (.slice A (pack r).length c) (pack r) ∧
    BoxL wr g12 [.slice A (pack r).length c, .int .i64 (RM : Int)] ∧ BoxL wr g13 [.int .i64 ((stK k ys j).n : Int), .int .i64 (stK k ys j).t, .int .i64 (stK k ys j).d, .int .u64 ((stK k ys j).v : Int), .int .u64 ((stK k ys j).e : Int), .int .u64 ((stK k ys j).x.prev : Int), .int .i64 ((stK k ys j).x.lead : Int), .int .i64 ((stK k ys j).x.len : Int)]
/-- a sample's bits in a box of their own, and the state behind it in another one, both new -/
def BitsAt (wr : World) (p : List Bool) (s : KS) (N : Nat) (gx gs : Nat) (wx : World) : Prop :=
  ∃ A c B, BoxL wx gx [.slice A (pack p).length c, .int .i64 (N : Int)] ∧ BoxL wx gs [.int .i64 (s.n : Int), .int .i64 s.t, .int .i64 s.d, .int .u64 (s.v : Int), .int .u64 (s.e : Int), .int .u64 (s.x.prev : Int), .int .i64 (s.x.lead : Int), .int .i64 (s.x.len : Int)] ∧ Mid wr B wx (.slice A (pack p).length c) (pack p) ∧ wr.heap.size ≤ gx ∧ wr.heap.size ≤ gs ∧ gx ≠ gs

set_option maxRecDepth 20000 in
set_option maxHeartbeats 100000000 in
theorem kback_in (b : Bool) (A1 A2 A3 : Option Addr) (m1 c1 m2 c2 m3 c3 : Nat) (xs : List (Int × Nat)) (l rest : List Nat) (w : World) (h1 : RdQ w w.heap.size A1 m1 c1 xs) (h2 : Rd w w.heap.size A2 m2 c2 l) (h3 : Rd w w.heap.size A3 m3 c3 rest)
    (hb2 : ∀ x ∈ l, x < 256) (hb3 : ∀ x ∈ rest, x < 256) (hm1 : m1 ≤ 60) (hm2 : m2 ≤ 300) (hm3 : m3 ≤ 300) (hR : RoomW w) (hT : TzW w) :
    Calls Tryd.prog 4 #[.bool b, .slice A1 m1 c1, .slice A2 m2 c2, .slice A3 m3 c3] w (RetTrue w) := by
  obtain ⟨k, HK⟩ : ∃ k : Nat, Hid (k = if b = true then 2 else 1) := ⟨_, Lib.hid rfl⟩
  have hk12 : k = 1 ∨ k = 2 := by have := HK.out; split at this <;> omega
  obtain ⟨p, HP⟩ : ∃ p, Hid (p = odd l) := ⟨_, Lib.hid rfl⟩
  have HPL : Hid (p.length = m2) := Lib.hid (by rw [HP.out, odd_length, h2.len])
  go_enter Tryd.func4, Tryd.ntmps4
  go_wp2_with fail
  refine (up8_any w hR hT).mono ?_
  rintro e w1 ⟨rfl, hw1⟩
  go_upto_if 42 with fail
  go_cut [10] (fun x10 wx => x10 = .int .i64 (k : Int) ∧ w1 = wx)
  case first =>
    cases b
    · obtain rfl : k = 1 := HK.out
      go_wp2_with fail
      go_meet
      exact ⟨rfl, rfl⟩
    · obtain rfl : k = 2 := HK.out
      go_wp2_with fail
      go_meet
      exact ⟨rfl, rfl⟩
  case rest =>
    obtain ⟨rfl, rfl⟩ := hcut
    go_wp2_with fail
    refine (rising_any A1 m1 c1 xs w1 ((h1.below hw1).more hw1.size) (by omega)).mono ?_
    rintro e w7 ⟨ys, A11, c11, rfl, hq, hri, hyl⟩
    have hw7 := hw1.trans (hq.bel.mono hw1.size)
    have hqr := hq.rd
    have HA : Hid (AllQ ys) := Lib.hid fun j => ⟨⟨(hqr.fitAt j).1, (hqr.fitAt j).2.1⟩, (hqr.fitAt j).2.2⟩
    have HRI := Lib.hid hri
    obtain ⟨n, HN⟩ : ∃ n, Hid (ys.length = n) := ⟨_, Lib.hid rfl⟩
    rw [HN.out] at hqr hyl ⊢
    replace h2 := (h2.below hw7).more hw7.size
    replace h3 := (h3.below hw7).more hw7.size
    replace hR := hR.bel hw7
    replace hT := hT.bel hw7
    clear h1 hq hri hw1
    go_wp2_with fail
    refine (bits_as A2 m2 c2 l p w7 h2 hb2 (by omega) HP.out).mono ?_
    rintro e w2 ⟨A5, c5, rfl, ho5⟩
    have b12 := (BoxL.new w2 [.slice A5 (pack p).length c5, .int .i64 (m2 : Int)] 34).onA (.cells #[.int .i64 0, .int .i64 0, .int .i64 0, .int .u64 0, .int .u64 0, .int .u64 0, .int .i64 0, .int .i64 0] 29)
    have b13 := BoxL.new (w2.alloc (.cells #[.slice A5 (pack p).length c5, .int .i64 (m2 : Int)] 34)) [.int .i64 0, .int .i64 0, .int .i64 0, .int .u64 0, .int .u64 0, .int .u64 0, .int .i64 0, .int .i64 0] 29
    simp only [World.size_alloc] at b13
    have hal : Below w2.heap.size w2 ((w2.alloc (.cells #[.slice A5 (pack p).length c5, .int .i64 (m2 : Int)] 34)).alloc (.cells #[.int .i64 0, .int .i64 0, .int .i64 0, .int .u64 0, .int .u64 0, .int .u64 0, .int .i64 0, .int .i64 0] 29)) := by repeat (first | with_reducible exact Below.refl _ _ | with_reducible assumption | with_reducible refine Below.drew ?_ | with_reducible refine below_drewN ?_ _ | with_reducible refine Below.alloc ?_ (by (first | assumption | omega | (simp; done) | (simp; omega))) _ | with_reducible refine below_set ?_ (by (first | assumption | omega | (simp; done) | (simp; omega))) _ _)
    have hr5 := (ho5.rd.below hal).more hal.size
    have hw2 := ho5.bel
    have hg12 : w7.heap.size ≤ w2.heap.size := hw2.size
    replace hw2 := hw2.trans (hal.mono hw2.size)
    clear ho5 hal
    go_upto_block 0 with fail
    generalize (w2.alloc (.cells #[.slice A5 (pack p).length c5, .int .i64 (m2 : Int)] 34)).alloc (.cells #[.int .i64 0, .int .i64 0, .int .i64 0, .int .u64 0, .int .u64 0, .int .u64 0, .int .i64 0, .int .i64 0] 29) = W at *
    generalize w2.heap.size = g12 at *
    go_cut [14] (fun i wx => AtKB w7 g12 (g12 + 1) n k p ys i wx ∧ i = .int .i64 (n : Int))
    case first =>
      go_wp2_with fail
      go_loopw [14] (fun i wr => AtKB w7 g12 (g12 + 1) n k p ys i wr) (fun i _ => n - (intOf i).toNat)
      case atStart =>
        have e0 : p ++ cdK k ys 0 = p := List.append_nil p
        refine ⟨0, A5, c5, Nat.zero_le _, rfl, hw2, ?_⟩
        rw [e0]
        exact ⟨hr5, by rw [HPL.out]; exact b12, b13⟩
      case round =>
        obtain ⟨j, A, c, hj, rfl, hwr, hrd, x12, x13⟩ := hrel
        by_cases hlt : j < n
        · obtain ⟨ad0, rfl, hbl, hc0, hc1⟩ := (hqr.below hwr).at_ hlt
          obtain ⟨ht, hv⟩ := HA.out j
          have hs := stK_may (k := k) HA.out j
          have hsn : (stK k ys j).n = j := stK_n j
          have hri := stK_rises (k := k) HRI.out (j := j) (by have := HN.out; omega)
          have hcl := cdK_le (k := k) HA.out j
          have hcl1 := (putK_len (k := k) (t := (ys.getD j (0, 0)).1) hs hv).2
          have HST : Hid (stK k ys (j + 1) = nextK k (stK k ys j) (ys.getD j (0, 0)).1 (ys.getD j (0, 0)).2) := Lib.hid rfl
          have HCD : Hid (p ++ cdK k ys (j + 1) = (p ++ cdK k ys j) ++ putK k (stK k ys j) (ys.getD j (0, 0)).1 (ys.getD j (0, 0)).2) := Lib.hid (by rw [List.append_assoc]; rfl)
          have hpkl : (p ++ cdK k ys j).length ≤ 10000 := by rw [List.length_append, HPL.out]; omega
          have hbl' : (ad0.add (j * 2)).block < w7.heap.size := by rw [add_block]; exact hbl
          generalize p ++ cdK k ys j = pk at *
          generalize stK k ys j = s at *
          generalize (ys.getD j (0, 0)).1 = t at *
          generalize (ys.getD j (0, 0)).2 = v at *
          obtain ⟨ck, HCK⟩ : ∃ ck, Hid (putK k s t v = ck) := ⟨_, Lib.hid rfl⟩
          obtain ⟨nx, HNX⟩ : ∃ nx, Hid (nextK k s t v = nx) := ⟨_, Lib.hid rfl⟩
          have hPA : ∀ X, Below wr.heap.size wr X → Calls Tryd.prog 6 #[.int .i64 (k : Int), (.agg #[.int .i64 (s.n : Int), .int .i64 s.t, .int .i64 s.d, .int .u64 (s.v : Int), .int .u64 (s.e : Int), .int .u64 (s.x.prev : Int), .int .i64 (s.x.lead : Int), .int .i64 (s.x.len : Int)]), (.agg #[.int .i64 t, .int .u64 (v : Int)])] X (RetPut X ck nx) := fun X hX => by
            rw [← HCK.out, ← HNX.out]; exact put_yes8 k s t v X hk12 hs (by omega) hv hri ((hR.bel hwr).bel hX) ((hT.bel hwr).bel hX)
          unfold RetPut at hPA
          rw [HCK.out] at HCD hcl1
          rw [HNX.out] at HST
          obtain ⟨N, HCM⟩ : ∃ N, Hid (ck.length = N) := ⟨_, Lib.hid rfl⟩
          rw [HCM.out] at hPA hcl1
          obtain ⟨g13, hg13⟩ : ∃ g13, g12 + 1 = g13 := ⟨_, rfl⟩
          rw [hg13] at x13 ⊢
          have HG13 := Lib.hid hg13
          have hwrs := hwr.size
          have lt13 := x13.lt
          have src0 : SQ wr wr.heap.size g13 s (ad0.add (j * 2)) t v := ⟨x13, by omega, by omega, hc0, hc1⟩
          clear hg13 hc0 hc1 ht hv hs hri HCK HNX hsn
          go_upto_region 13 with fail
          go_cut [15, 16, 17] (fun x15 x16 x17 wx => ∃ gx gs, x15 = .pointer (some ⟨gx, 0, none⟩) ∧ x16 = .pointer (some ⟨gs, 0, none⟩) ∧ x17 = .nilIface ∧ BitsAt wr ck nx N gx gs wx)
          case first =>
            -- DONE
            have q0 := (src0.below (X' := wr.drew) (by repeat (first | with_reducible exact Below.refl _ _ | with_reducible assumption | with_reducible refine Below.drew ?_ | with_reducible refine below_drewN ?_ _ | with_reducible refine Below.alloc ?_ (by (first | assumption | omega | (simp; done) | (simp; omega))) _ | with_reducible refine below_set ?_ (by (first | assumption | omega | (simp; done) | (simp; omega))) _ _))).cells
            clear x12 x13 hrd
            go_region_held3 (fun w' => (w'.cell? ⟨g13, 0, none⟩ = some (.int .i64 (s.n : Int)) ∧ w'.cell? ⟨g13, 1, none⟩ = some (.int .i64 s.t) ∧ w'.cell? ⟨g13, 2, none⟩ = some (.int .i64 s.d) ∧ w'.cell? ⟨g13, 3, none⟩ = some (.int .u64 (s.v : Int)) ∧ w'.cell? ⟨g13, 4, none⟩ = some (.int .u64 (s.e : Int)) ∧ w'.cell? ⟨g13, 5, none⟩ = some (.int .u64 (s.x.prev : Int)) ∧ w'.cell? ⟨g13, 6, none⟩ = some (.int .i64 (s.x.lead : Int)) ∧ w'.cell? ⟨g13, 7, none⟩ = some (.int .i64 (s.x.len : Int))) ∧ w'.cell? (ad0.add (j * 2)) = some (.int .i64 t) ∧ w'.cell? ⟨(ad0.add (j * 2)).block, (ad0.add (j * 2)).off + 1, none⟩ = some (.int .u64 (v : Int)))
              (with_reducible first | exact q0 | exact (src0.below (by repeat (first | with_reducible exact Below.refl _ _ | with_reducible assumption | with_reducible refine Below.drew ?_ | with_reducible refine below_drewN ?_ _ | with_reducible refine Below.alloc ?_ (by (first | assumption | omega | (simp; done) | (simp; omega))) _ | with_reducible refine below_set ?_ (by (first | assumption | omega | (simp; done) | (simp; omega))) _ _))).cells) (first
              | (go_at_call 6; (with_reducible refine (hPA _ (by repeat (first | with_reducible exact Below.refl _ _ | with_reducible assumption | with_reducible refine Below.drew ?_ | with_reducible refine below_drewN ?_ _ | with_reducible refine Below.alloc ?_ (by (first | assumption | omega | (simp; done) | (simp; omega))) _ | with_reducible refine below_set ?_ (by (first | assumption | omega | (simp; done) | (simp; omega))) _ _))).mono ?_); rintro e w9 ⟨A9, c9, rfl, ho9⟩; have hb9 : Below wr.heap.size wr w9 := (Below.trans (by repeat (first | with_reducible exact Below.refl _ _ | with_reducible assumption | with_reducible refine Below.drew ?_ | with_reducible refine below_drewN ?_ _ | with_reducible refine Below.alloc ?_ (by (first | assumption | omega | (simp; done) | (simp; omega))) _ | with_reducible refine below_set ?_ (by (first | assumption | omega | (simp; done) | (simp; omega))) _ _)) (ho9.bel.mono (by first | exact Nat.le_refl _ | (simp; done) | (simp; omega)))); have hs9 := hb9.size; obtain ⟨B9, HB9, hm9⟩ := Mid.some (w0 := wr) ho9 (by repeat (first | with_reducible exact Below.refl _ _ | with_reducible assumption | with_reducible refine Below.drew ?_ | with_reducible refine below_drewN ?_ _ | with_reducible refine Below.alloc ?_ (by (first | assumption | omega | (simp; done) | (simp; omega))) _ | with_reducible refine below_set ?_ (by (first | assumption | omega | (simp; done) | (simp; omega))) _ _)); (first | (have lB13 : wr.heap.size < B9 := (by rw [HB9.out]; first | (simp; done) | (simp; omega)); have lB14 : wr.heap.size + 1 < B9 := (by rw [HB9.out]; first | (simp; done) | (simp; omega)); (with_reducible have z13 := (((BoxL.new wr [.slice none 0 0, .int .i64 0] 34).onA (.cells #[.int .i64 0, .int .i64 0, .int .i64 0, .int .u64 0, .int .u64 0, .int .u64 0, .int .i64 0, .int .i64 0] 29)).drew).below ho9.bel); (with_reducible have x14 := ((BoxL.new_at (w := wr.alloc (.cells #[.slice none 0 0, .int .i64 0] 34)) (g := wr.heap.size + 1) [.int .i64 0, .int .i64 0, .int .i64 0, .int .u64 0, .int .u64 0, .int .u64 0, .int .i64 0, .int .i64 0] 29 (by simp)).drew).below ho9.bel); obtain ⟨u60, u61⟩ := z13.get2; obtain ⟨v60, v61⟩ := z13.free2; have l13 := z13.lt; obtain ⟨u70, u71, u72, u73, u74, u75, u76, u77⟩ := x14.get8; obtain ⟨v70, v71, v72, v73, v74, v75, v76, v77⟩ := x14.free8; have l14 := x14.lt) | (have lB13 : wr.heap.size < B9 := (by rw [HB9.out]; first | (simp; done) | (simp; omega)); have lB14 : wr.heap.size + 1 < B9 := (by rw [HB9.out]; first | (simp; done) | (simp; omega)); (with_reducible have x14 := (((BoxL.new wr [.int .i64 0, .int .i64 0, .int .i64 0, .int .u64 0, .int .u64 0, .int .u64 0, .int .i64 0, .int .i64 0] 29).onA (.cells #[.slice none 0 0, .int .i64 0] 34)).drew).below ho9.bel); (with_reducible have z13 := ((BoxL.new_at (w := wr.alloc (.cells #[.int .i64 0, .int .i64 0, .int .i64 0, .int .u64 0, .int .u64 0, .int .u64 0, .int .i64 0, .int .i64 0] 29)) (g := wr.heap.size + 1) [.slice none 0 0, .int .i64 0] 34 (by simp)).drew).below ho9.bel); obtain ⟨u60, u61⟩ := z13.get2; obtain ⟨v60, v61⟩ := z13.free2; have l13 := z13.lt; obtain ⟨u70, u71, u72, u73, u74, u75, u76, u77⟩ := x14.get8; obtain ⟨v70, v71, v72, v73, v74, v75, v76, v77⟩ := x14.free8; have l14 := x14.lt) | (have lB13 : wr.heap.size < B9 := (by rw [HB9.out]; first | (simp; done) | (simp; omega)); (with_reducible have z13 := ((BoxL.new wr [.slice none 0 0, .int .i64 0] 34).drew).below ho9.bel); obtain ⟨u60, u61⟩ := z13.get2; obtain ⟨v60, v61⟩ := z13.free2; have l13 := z13.lt) | (have lB13 : wr.heap.size < B9 := (by rw [HB9.out]; first | (simp; done) | (simp; omega)); (with_reducible have x14 := ((BoxL.new wr [.int .i64 0, .int .i64 0, .int .i64 0, .int .u64 0, .int .u64 0, .int .u64 0, .int .i64 0, .int .i64 0] 29).drew).below ho9.bel); obtain ⟨u70, u71, u72, u73, u74, u75, u76, u77⟩ := x14.get8; obtain ⟨v70, v71, v72, v73, v74, v75, v76, v77⟩ := x14.free8; have l14 := x14.lt) | skip)))
            all_goals
              clear q0 hPA src0
              go_wp2_with fail
              go_meet
              refine ⟨_, _, rfl, rfl, rfl, A9, c9, B9, ?h1, ?h2, ?h3, ?h4, ?h5, ?h6⟩
              case h1 => exact by repeat (first | with_reducible assumption | with_reducible refine BoxL.new_at _ _ (by (first | assumption | omega | (simp; done) | (simp; omega))) | with_reducible refine BoxL.onA ?_ _ | with_reducible refine BoxL.drew ?_ | with_reducible apply BoxL.all8_ | with_reducible apply BoxL.all3_ | with_reducible apply BoxL.all2_ | with_reducible apply BoxL.oth | rfl | omega)
              case h2 => exact by repeat (first | with_reducible assumption | with_reducible refine BoxL.new_at _ _ (by (first | assumption | omega | (simp; done) | (simp; omega))) | with_reducible refine BoxL.onA ?_ _ | with_reducible refine BoxL.drew ?_ | with_reducible apply BoxL.all8_ | with_reducible apply BoxL.all3_ | with_reducible apply BoxL.all2_ | with_reducible apply BoxL.oth | rfl | omega)
              case h3 => exact by repeat (first | with_reducible assumption | with_reducible refine Mid.onA ?_ _ | with_reducible refine Mid.drew ?_ | with_reducible refine Mid.setAt ?_ (by (first | assumption | omega | (simp; done) | (simp; omega))) (by (first | assumption | omega | (simp; done) | (simp; omega))) _ _)
              case h4 => (first | assumption | omega | (simp; done) | (simp; omega))
              case h5 => (first | assumption | omega | (simp; done) | (simp; omega))
              case h6 => (first | assumption | omega | (simp; done) | (simp; omega))
          case rest =>
            obtain ⟨gx, gs, rfl, rfl, rfl, A9, c9, B9, x15, x16, m15, hgx, hgs, hgn⟩ := hcut
            obtain ⟨r, HR'⟩ : ∃ r, Hid (p ++ cdK k ys (j + 1) = r) := ⟨_, Lib.hid rfl⟩
            rw [HR'.out] at HCD
            obtain ⟨RM, HRM⟩ : ∃ RM, Hid (r.length = RM) := ⟨_, Lib.hid rfl⟩
            obtain ⟨PM, HPM⟩ : ∃ PM, Hid (pk.length = PM) := ⟨_, Lib.hid rfl⟩
            rw [HPM.out] at x12 hpkl
            have hst := m15.bel
            have hr15 := m15.rd
            have lt12w : g12 < wr.heap.size := by have := HG13.out; omega
            replace hrd := (hrd.below hst).more hst.size
            have hwc := hwr.trans (hst.mono hwr.size)
            replace x12 := x12.below hst
            replace x13 := x13.below hst
            have hJ := join_as A A9 _ c _ c9 pk ck r (PM : Int) (N : Int) RM wc hrd hr15 (by rw [HPM.out]) (by rw [HCM.out]) HCD.out HRM.out (by rw [HPM.out]; omega) (by rw [HCM.out]; omega)
            have hws := hst.size
            clear hPA src0 hrd hr15 m15
            obtain ⟨y0, y1⟩ := x12.get2
            obtain ⟨z0, z1⟩ := x15.get2
            go_wp2_with fail
            refine hJ.mono ?_
            rintro e w10 ⟨A10, c10, rfl, ho10⟩
            clear hJ y0 y1 z0 z1 x15
            have l12 : g12 < wc.heap.size := x12.lt
            have l13 : g13 < wc.heap.size := x13.lt
            replace x12 := x12.below ho10.bel
            replace x13 := x13.below ho10.bel
            replace x16 := x16.below ho10.bel
            obtain ⟨y0, y1⟩ := x12.get2
            obtain ⟨yf0, yf1⟩ := x12.free2
            go_upto_region 17 with fail
            have hne1 : g13 ≠ g12 := by have := HG13.out; omega
            have hne2 : gs ≠ g12 := by omega
            have hne3 : g12 ≠ g13 := Ne.symm hne1
            have hne4 : gs ≠ g13 := by omega
            have hm := ((Mid.of ho10 hwc).setAt hg12 l12 0 (.slice A10 (pack r).length c10)).setAt hg12 l12 1 (.int .i64 (RM : Int))
            replace x12 := x12.all2 (.slice A10 (pack r).length c10) (.int .i64 (RM : Int))
            replace x13 := (x13.oth hne1 0 (.slice A10 (pack r).length c10)).oth hne1 1 (.int .i64 (RM : Int))
            replace x16 := (x16.oth hne2 0 (.slice A10 (pack r).length c10)).oth hne2 1 (.int .i64 (RM : Int))
            have hgw13 : w7.heap.size ≤ g13 := by have := HG13.out; omega
            clear ho10 y0 y1 yf0 yf1 hwc hst
            generalize (w10.setCell ⟨g12, 0, none⟩ (.slice A10 (pack r).length c10)).setCell ⟨g12, 1, none⟩ (.int .i64 (RM : Int)) = W11 at *
            obtain ⟨y0, y1, y2, y3, y4, y5, y6, y7⟩ := x13.get8
            obtain ⟨yf0, yf1, yf2, yf3, yf4, yf5, yf6, yf7⟩ := x13.free8
            obtain ⟨z0, z1, z2, z3, z4, z5, z6, z7⟩ := x16.get8
            go_wp2_with fail
            have hm2 := hm.set8 hgw13 l13 (.int .i64 (nx.n : Int)) (.int .i64 nx.t) (.int .i64 nx.d) (.int .u64 (nx.v : Int)) (.int .u64 (nx.e : Int)) (.int .u64 (nx.x.prev : Int)) (.int .i64 (nx.x.lead : Int)) (.int .i64 (nx.x.len : Int))
            have y12 := x12.oth8 hne3 (.int .i64 (nx.n : Int)) (.int .i64 nx.t) (.int .i64 nx.d) (.int .u64 (nx.v : Int)) (.int .u64 (nx.e : Int)) (.int .u64 (nx.x.prev : Int)) (.int .i64 (nx.x.lead : Int)) (.int .i64 (nx.x.len : Int))
            have y13 := x13.all8 (.int .i64 (nx.n : Int)) (.int .i64 nx.t) (.int .i64 nx.d) (.int .u64 (nx.v : Int)) (.int .u64 (nx.e : Int)) (.int .u64 (nx.x.prev : Int)) (.int .i64 (nx.x.lead : Int)) (.int .i64 (nx.x.len : Int))
            clear x12 x13 x16 y0 y1 y2 y3 y4 y5 y6 y7 yf0 yf1 yf2 yf3 yf4 yf5 yf6 yf7 z0 z1 z2 z3 z4 z5 z6 z7
            go_roundw
            case rel =>
              refine ⟨j + 1, A10, c10, by omega, by go_num, hm2.bel, ?_⟩
              rw [HR'.out, HRM.out, HST.out]
              exact ⟨hm2.rd, y12, y13⟩
            case measure => simp [intOf]; omega
        · obtain rfl : j = n := by omega
          go_wp2_with fail
          go_meet
          exact ⟨⟨_, A, c, Nat.le_refl _, rfl, hwr, hrd, x12, x13⟩, rfl⟩
    case rest =>
      obtain ⟨⟨j, A, c, hj, rfl, hwr, hrd, x12, x13⟩, hi⟩ := hcut
      injection hi with _ hi
      obtain rfl : j = n := by omega
      clear hi hj hr5 b12 b13 hw2
      obtain ⟨q, HQ⟩ : ∃ q, Hid (q = odd rest) := ⟨_, Lib.hid rfl⟩
      have HQL : Hid (q.length = m3) := Lib.hid (by rw [HQ.out, odd_length, h3.len])
      have hcl := cdK_le (k := k) HA.out j
      have hpkl : (p ++ cdK k ys j).length ≤ 10000 := by rw [List.length_append, HPL.out]; omega
      obtain ⟨pk, HPK⟩ : ∃ pk, Hid (p ++ cdK k ys j = pk) := ⟨_, Lib.hid rfl⟩
      rw [HPK.out] at hrd x12 hpkl
      obtain ⟨PM, HPM⟩ : ∃ PM, Hid (pk.length = PM) := ⟨_, Lib.hid rfl⟩
      rw [HPM.out] at x12 hpkl
      obtain ⟨r, HRR⟩ : ∃ r, Hid (r = pk ++ q) := ⟨_, Lib.hid rfl⟩
      obtain ⟨RM, HRM⟩ : ∃ RM, Hid (r.length = RM) := ⟨_, Lib.hid rfl⟩
      obtain ⟨sl, HSL⟩ : ∃ sl, Hid (stK k ys j = sl) := ⟨_, Lib.hid rfl⟩
      rw [HSL.out] at x13
      go_upto_region 18 with fail
      go_cut [73] (fun _ wx => ∃ A c B, Mid w7 B wx (.slice A (pack r).length c) (pack r) ∧ g12 + 1 < B ∧ BoxL wx g12 [.slice A (pack r).length c, .int .i64 (RM : Int)] ∧ BoxL wx (g12 + 1) [.int .i64 (sl.n : Int), .int .i64 sl.t, .int .i64 sl.d, .int .u64 (sl.v : Int), .int .u64 (sl.e : Int), .int .u64 (sl.x.prev : Int), .int .i64 (sl.x.lead : Int), .int .i64 (sl.x.len : Int)])
      case first =>
        -- DONE
        have hB := bits_as A3 m3 c3 rest q wc.drew ((h3.below hwr).more hwr.size).drew hb3 (by omega) HQ.out
        have hJ := fun B1 d1 (X : World) (ha : Rd X X.heap.size A (pack pk).length c (pack pk)) (hb : Rd X X.heap.size B1 (pack q).length d1 (pack q)) => join_as A B1 _ c _ d1 pk q r (PM : Int) (m3 : Int) RM X ha hb (by rw [HPM.out]) (by rw [HQL.out]) HRR.out HRM.out (by rw [HPM.out]; omega) (by rw [HQL.out]; omega)
        have hra := hrd.drew
        have y12 := x12.drew
        have y13 := x13.drew
        have hbw := hwr.drew
        obtain ⟨y0, y1⟩ := x12.drew.get2
        go_region_with (first
          | (go_at_call 16; (with_reducible refine hB.mono ?_); rintro e w5 ⟨B1, d1, rfl, ho1⟩; have hrb := ho1.rd; replace hra := (hra.below ho1.bel).more ho1.bel.size; replace y12 := y12.below ho1.bel; replace y13 := y13.below ho1.bel; replace hbw := hbw.trans (ho1.bel.mono hbw.size); clear y0 y1; obtain ⟨y0, y1⟩ := y12.get2)
          | (go_at_call 17; (with_reducible refine (hJ _ _ _ hra hrb).mono ?_); rintro e w6 ⟨B2, d2, rfl, ho2⟩; have l12 := y12.lt; have l13 := y13.lt; replace y12 := y12.below ho2.bel; replace y13 := y13.below ho2.bel; clear y0 y1; obtain ⟨y0, y1⟩ := y12.get2; obtain ⟨yf0, yf1⟩ := y12.free2))
        all_goals
          clear y0 y1 yf0 yf1
          go_wp2_with fail
          go_meet
          have hm := ((Mid.of ho2 hbw).setAt hg12 l12 0 (.slice B2 (pack r).length d2)).setAt hg12 l12 1 (.int .i64 (RM : Int))
          exact ⟨B2, d2, _, hm, l13, y12.all2 _ _, (y13.oth (by omega) 0 _).oth (by omega) 1 _⟩
      case rest =>
        clear hrd x12 x13 hwr
        obtain ⟨A5, c5, B5, hmr, hB5, x12, x13⟩ := hcut
        have hgw : w7.heap.size ≤ g12 + 1 := by omega
        have hgn : g12 ≠ g12 + 1 := by omega
        obtain ⟨y0, y1, y2, y3, y4, y5, y6, y7⟩ := x13.get8
        obtain ⟨yf0, yf1, yf2, yf3, yf4, yf5, yf6, yf7⟩ := x13.free8
        go_upto_region 21 with fail
        replace hmr := hmr.set8 hgw hB5 (.int .i64 0) (.int .i64 0) (.int .i64 0) (.int .u64 0) (.int .u64 0) (.int .u64 0) (.int .i64 0) (.int .i64 0)
        replace x12 := x12.oth8 hgn (.int .i64 0) (.int .i64 0) (.int .i64 0) (.int .u64 0) (.int .u64 0) (.int .u64 0) (.int .i64 0) (.int .i64 0)
        replace x13 := x13.all8 (.int .i64 0) (.int .i64 0) (.int .i64 0) (.int .u64 0) (.int .u64 0) (.int .u64 0) (.int .i64 0) (.int .i64 0)
        clear y0 y1 y2 y3 y4 y5 y6 y7 yf0 yf1 yf2 yf3 yf4 yf5 yf6 yf7
        go_upto_block 2 with fail
        generalize ((((((((wc.setCell ⟨g12 + 1, 0, none⟩ (.int .i64 0)).setCell ⟨g12 + 1, 1, none⟩ (.int .i64 0)).setCell ⟨g12 + 1, 2, none⟩ (.int .i64 0)).setCell ⟨g12 + 1, 3, none⟩ (.int .u64 0)).setCell ⟨g12 + 1, 4, none⟩ (.int .u64 0)).setCell ⟨g12 + 1, 5, none⟩ (.int .u64 0)).setCell ⟨g12 + 1, 6, none⟩ (.int .i64 0)).setCell ⟨g12 + 1, 7, none⟩ (.int .i64 0)) = W20 at *
        go_wp2_with fail
        go_loopw [18, 19] (fun x18 i wr => AtKY w7 g12 (g12 + 1) j k p ys A5 c5 B5 r RM x18 i wr) (fun _ i _ => j - (intOf i).toNat)
        case atStart =>
          have e0 : p ++ cdK k ys 0 = p := List.append_nil p
          refine ⟨0, Nat.zero_le _, rfl, ?_, hmr, x12, x13⟩
          rw [e0, HPL.out]
        case round =>
          clear x12 x13 hmr
          have HNJ := HN
          obtain ⟨i, hi, rfl, rfl, hmr, x12, x13⟩ := hrel
          by_cases hlt : i < j
          · obtain ⟨ad0, rfl, hbl, hc0, hc1⟩ := (hqr.below hmr.bel).at_ hlt
            obtain ⟨ht, hv⟩ := HA.out i
            have hs := stK_may (k := k) HA.out i
            have hsn : (stK k ys i).n = i := stK_n i
            have hri := stK_rises (k := k) HRI.out (j := i) (by have := HN.out; omega)
            have hcl := cdK_le (k := k) HA.out i
            have hcl1 := (putK_len (k := k) (t := (ys.getD i (0, 0)).1) hs hv).2
            have hcl2 := (putK_len (k := k) (t := (ys.getD i (0, 0)).1) hs hv).1
            have HST : Hid (stK k ys (i + 1) = nextK k (stK k ys i) (ys.getD i (0, 0)).1 (ys.getD i (0, 0)).2) := Lib.hid rfl
            have HCD : Hid ((p ++ cdK k ys (i + 1)).length = (p ++ cdK k ys i).length + (putK k (stK k ys i) (ys.getD i (0, 0)).1 (ys.getD i (0, 0)).2).length) := Lib.hid (by rw [← List.length_append, List.append_assoc]; rfl)
            have hpil : (p ++ cdK k ys i).length ≤ 10000 := by rw [List.length_append, HPL.out]; omega
            have hRL : (pack r).length ≤ 100000 := by rw [pack_length, HRR.out, List.length_append, HPM.out, HQL.out]; omega
            have hbk := back_k (k := k) HA.out HRI.out (j := i) (n := j) (by have := HN.out; omega) hlt p q r _ (by rw [HRR.out, ← HPK.out]) rfl
            have hbl' : (ad0.add (i * 2)).block < w7.heap.size := by rw [add_block]; exact hbl
            rw [HST.out] at hbk
            generalize (p ++ cdK k ys i).length = AT at *
            generalize stK k ys i = s at *
            generalize (ys.getD i (0, 0)).1 = t at *
            generalize (ys.getD i (0, 0)).2 = v at *
            obtain ⟨ck, HCK⟩ : ∃ ck, Hid (putK k s t v = ck) := ⟨_, Lib.hid rfl⟩
            obtain ⟨nx, HNX⟩ : ∃ nx, Hid (nextK k s t v = nx) := ⟨_, Lib.hid rfl⟩
            have hPA : ∀ X, Below wr.heap.size wr X → Calls Tryd.prog 6 #[.int .i64 (k : Int), (.agg #[.int .i64 (s.n : Int), .int .i64 s.t, .int .i64 s.d, .int .u64 (s.v : Int), .int .u64 (s.e : Int), .int .u64 (s.x.prev : Int), .int .i64 (s.x.lead : Int), .int .i64 (s.x.len : Int)]), (.agg #[.int .i64 t, .int .u64 (v : Int)])] X (RetPut X ck nx) := fun X hX => by
              rw [← HCK.out, ← HNX.out]; exact put_yes8 k s t v X hk12 hs (by omega) hv hri ((hR.bel hmr.bel).bel hX) ((hT.bel hmr.bel).bel hX)
            unfold RetPut at hPA
            rw [HCK.out] at HCD hcl1 hcl2 hbk
            rw [HNX.out] at HST hbk
            obtain ⟨N, HCM⟩ : ∃ N, Hid (ck.length = N) := ⟨_, Lib.hid rfl⟩
            rw [HCM.out] at hPA hcl1 hcl2 hbk HCD
            have hG : ∀ X, Below wr.heap.size wr X → Rd X X.heap.size A5 (pack r).length c5 (pack r) → Calls Tryd.prog 13 #[.int .i64 (k : Int), (.agg #[.int .i64 (s.n : Int), .int .i64 s.t, .int .i64 s.d, .int .u64 (s.v : Int), .int .u64 (s.e : Int), .int .u64 (s.x.prev : Int), .int .i64 (s.x.lead : Int), .int .i64 (s.x.len : Int)]), .slice A5 (pack r).length c5, .int .i64 (AT : Int)] X
                (fun e w' => e = .returned (.tuple #[(.agg #[.int .i64 t, .int .u64 (v : Int)]), (.agg #[.int .i64 (nx.n : Int), .int .i64 nx.t, .int .i64 nx.d, .int .u64 (nx.v : Int), .int .u64 (nx.e : Int), .int .u64 (nx.x.prev : Int), .int .i64 (nx.x.lead : Int), .int .i64 (nx.x.len : Int)]), .int .i64 (N : Int), .nilIface]) ∧ Below X.heap.size X w') := fun X hX hd =>
              (get_any k A5 (pack r).length c5 X.heap.size (pack r) (AT : Int) s X hk12 hd (Nat.le_refl _) (pack_lt r) hRL (by omega) hs (by omega) ((hR.bel hmr.bel).bel hX) ((hT.bel hmr.bel).bel hX)).mono fun e w' ⟨r', h1, h2, h3⟩ => by
                obtain rfl := h1.same hbk
                exact ⟨h2, h3⟩
            obtain ⟨g13, hg13⟩ : ∃ g13, g12 + 1 = g13 := ⟨_, rfl⟩
            rw [hg13] at x13 hB5 hgw hgn ⊢
            have HG13 := Lib.hid hg13
            have hwrs := hmr.bel.size
            have lt13 := x13.lt
            have src0 : SQ wr wr.heap.size g13 s (ad0.add (i * 2)) t v := ⟨x13, by omega, by omega, hc0, hc1⟩
            clear hg13 hc0 hc1 ht hv hs hri HCK HNX hsn hbk
            go_upto_region 24 with fail
            go_cut [20, 21, 22] (fun x20 x21 x22 wx => ∃ gx gs, x20 = .pointer (some ⟨gx, 0, none⟩) ∧ x21 = .pointer (some ⟨gs, 0, none⟩) ∧ x22 = .nilIface ∧ BitsAt wr ck nx N gx gs wx)
            case first =>
              -- DONE
              have q0 := (src0.below (X' := wr.drew) (by repeat (first | with_reducible exact Below.refl _ _ | with_reducible assumption | with_reducible refine Below.drew ?_ | with_reducible refine below_drewN ?_ _ | with_reducible refine Below.alloc ?_ (by (first | assumption | omega | (simp; done) | (simp; omega))) _ | with_reducible refine below_set ?_ (by (first | assumption | omega | (simp; done) | (simp; omega))) _ _))).cells
              clear x12 x13 hmr
              go_region_held3 (fun w' => (w'.cell? ⟨g13, 0, none⟩ = some (.int .i64 (s.n : Int)) ∧ w'.cell? ⟨g13, 1, none⟩ = some (.int .i64 s.t) ∧ w'.cell? ⟨g13, 2, none⟩ = some (.int .i64 s.d) ∧ w'.cell? ⟨g13, 3, none⟩ = some (.int .u64 (s.v : Int)) ∧ w'.cell? ⟨g13, 4, none⟩ = some (.int .u64 (s.e : Int)) ∧ w'.cell? ⟨g13, 5, none⟩ = some (.int .u64 (s.x.prev : Int)) ∧ w'.cell? ⟨g13, 6, none⟩ = some (.int .i64 (s.x.lead : Int)) ∧ w'.cell? ⟨g13, 7, none⟩ = some (.int .i64 (s.x.len : Int))) ∧ w'.cell? (ad0.add (i * 2)) = some (.int .i64 t) ∧ w'.cell? ⟨(ad0.add (i * 2)).block, (ad0.add (i * 2)).off + 1, none⟩ = some (.int .u64 (v : Int)))
                (with_reducible first | exact q0 | exact (src0.below (by repeat (first | with_reducible exact Below.refl _ _ | with_reducible assumption | with_reducible refine Below.drew ?_ | with_reducible refine below_drewN ?_ _ | with_reducible refine Below.alloc ?_ (by (first | assumption | omega | (simp; done) | (simp; omega))) _ | with_reducible refine below_set ?_ (by (first | assumption | omega | (simp; done) | (simp; omega))) _ _))).cells) (first
                | (go_at_call 6; (with_reducible refine (hPA _ (by repeat (first | with_reducible exact Below.refl _ _ | with_reducible assumption | with_reducible refine Below.drew ?_ | with_reducible refine below_drewN ?_ _ | with_reducible refine Below.alloc ?_ (by (first | assumption | omega | (simp; done) | (simp; omega))) _ | with_reducible refine below_set ?_ (by (first | assumption | omega | (simp; done) | (simp; omega))) _ _))).mono ?_); rintro e w9 ⟨A9, c9, rfl, ho9⟩; have hb9 : Below wr.heap.size wr w9 := (Below.trans (by repeat (first | with_reducible exact Below.refl _ _ | with_reducible assumption | with_reducible refine Below.drew ?_ | with_reducible refine below_drewN ?_ _ | with_reducible refine Below.alloc ?_ (by (first | assumption | omega | (simp; done) | (simp; omega))) _ | with_reducible refine below_set ?_ (by (first | assumption | omega | (simp; done) | (simp; omega))) _ _)) (ho9.bel.mono (by first | exact Nat.le_refl _ | (simp; done) | (simp; omega)))); have hs9 := hb9.size; obtain ⟨B9, HB9, hm9⟩ := Mid.some (w0 := wr) ho9 (by repeat (first | with_reducible exact Below.refl _ _ | with_reducible assumption | with_reducible refine Below.drew ?_ | with_reducible refine below_drewN ?_ _ | with_reducible refine Below.alloc ?_ (by (first | assumption | omega | (simp; done) | (simp; omega))) _ | with_reducible refine below_set ?_ (by (first | assumption | omega | (simp; done) | (simp; omega))) _ _)); (first | (have lB13 : wr.heap.size < B9 := (by rw [HB9.out]; first | (simp; done) | (simp; omega)); have lB14 : wr.heap.size + 1 < B9 := (by rw [HB9.out]; first | (simp; done) | (simp; omega)); (with_reducible have z13 := (((BoxL.new wr [.slice none 0 0, .int .i64 0] 34).onA (.cells #[.int .i64 0, .int .i64 0, .int .i64 0, .int .u64 0, .int .u64 0, .int .u64 0, .int .i64 0, .int .i64 0] 29)).drew).below ho9.bel); (with_reducible have x14 := ((BoxL.new_at (w := wr.alloc (.cells #[.slice none 0 0, .int .i64 0] 34)) (g := wr.heap.size + 1) [.int .i64 0, .int .i64 0, .int .i64 0, .int .u64 0, .int .u64 0, .int .u64 0, .int .i64 0, .int .i64 0] 29 (by simp)).drew).below ho9.bel); obtain ⟨u60, u61⟩ := z13.get2; obtain ⟨v60, v61⟩ := z13.free2; have l13 := z13.lt; obtain ⟨u70, u71, u72, u73, u74, u75, u76, u77⟩ := x14.get8; obtain ⟨v70, v71, v72, v73, v74, v75, v76, v77⟩ := x14.free8; have l14 := x14.lt) | (have lB13 : wr.heap.size < B9 := (by rw [HB9.out]; first | (simp; done) | (simp; omega)); have lB14 : wr.heap.size + 1 < B9 := (by rw [HB9.out]; first | (simp; done) | (simp; omega)); (with_reducible have x14 := (((BoxL.new wr [.int .i64 0, .int .i64 0, .int .i64 0, .int .u64 0, .int .u64 0, .int .u64 0, .int .i64 0, .int .i64 0] 29).onA (.cells #[.slice none 0 0, .int .i64 0] 34)).drew).below ho9.bel); (with_reducible have z13 := ((BoxL.new_at (w := wr.alloc (.cells #[.int .i64 0, .int .i64 0, .int .i64 0, .int .u64 0, .int .u64 0, .int .u64 0, .int .i64 0, .int .i64 0] 29)) (g := wr.heap.size + 1) [.slice none 0 0, .int .i64 0] 34 (by simp)).drew).below ho9.bel); obtain ⟨u60, u61⟩ := z13.get2; obtain ⟨v60, v61⟩ := z13.free2; have l13 := z13.lt; obtain ⟨u70, u71, u72, u73, u74, u75, u76, u77⟩ := x14.get8; obtain ⟨v70, v71, v72, v73, v74, v75, v76, v77⟩ := x14.free8; have l14 := x14.lt) | (have lB13 : wr.heap.size < B9 := (by rw [HB9.out]; first | (simp; done) | (simp; omega)); (with_reducible have z13 := ((BoxL.new wr [.slice none 0 0, .int .i64 0] 34).drew).below ho9.bel); obtain ⟨u60, u61⟩ := z13.get2; obtain ⟨v60, v61⟩ := z13.free2; have l13 := z13.lt) | (have lB13 : wr.heap.size < B9 := (by rw [HB9.out]; first | (simp; done) | (simp; omega)); (with_reducible have x14 := ((BoxL.new wr [.int .i64 0, .int .i64 0, .int .i64 0, .int .u64 0, .int .u64 0, .int .u64 0, .int .i64 0, .int .i64 0] 29).drew).below ho9.bel); obtain ⟨u70, u71, u72, u73, u74, u75, u76, u77⟩ := x14.get8; obtain ⟨v70, v71, v72, v73, v74, v75, v76, v77⟩ := x14.free8; have l14 := x14.lt) | skip)))
              all_goals
                clear q0 hPA src0
                go_wp2_with fail
                go_meet
                refine ⟨_, _, rfl, rfl, rfl, A9, c9, B9, ?h1, ?h2, ?h3, ?h4, ?h5, ?h6⟩
                case h1 => exact by repeat (first | with_reducible assumption | with_reducible refine BoxL.new_at _ _ (by (first | assumption | omega | (simp; done) | (simp; omega))) | with_reducible refine BoxL.onA ?_ _ | with_reducible refine BoxL.drew ?_ | with_reducible apply BoxL.all8_ | with_reducible apply BoxL.all3_ | with_reducible apply BoxL.all2_ | with_reducible apply BoxL.oth | rfl | omega)
                case h2 => exact by repeat (first | with_reducible assumption | with_reducible refine BoxL.new_at _ _ (by (first | assumption | omega | (simp; done) | (simp; omega))) | with_reducible refine BoxL.onA ?_ _ | with_reducible refine BoxL.drew ?_ | with_reducible apply BoxL.all8_ | with_reducible apply BoxL.all3_ | with_reducible apply BoxL.all2_ | with_reducible apply BoxL.oth | rfl | omega)
                case h3 => exact by repeat (first | with_reducible assumption | with_reducible refine Mid.onA ?_ _ | with_reducible refine Mid.drew ?_ | with_reducible refine Mid.setAt ?_ (by (first | assumption | omega | (simp; done) | (simp; omega))) (by (first | assumption | omega | (simp; done) | (simp; omega))) _ _)
                case h4 => (first | assumption | omega | (simp; done) | (simp; omega))
                case h5 => (first | assumption | omega | (simp; done) | (simp; omega))
                case h6 => (first | assumption | omega | (simp; done) | (simp; omega))
            case rest =>
              obtain ⟨gx, gs, rfl, rfl, rfl, A9, c9, B9, _, x21, m20, _, hgs, _⟩ := hcut
              have hst := m20.bel
              have lt12 : g12 < wr.heap.size := x12.lt
              replace hmr := hmr.on hst
              replace x12 := x12.below hst
              replace x13 := x13.below hst
              have src1 := src0.below hst
              have hws := hst.size
              replace hG := hG wc hst hmr.rd
              clear hPA src0 m20
              obtain ⟨y0, y1⟩ := x12.get2
              obtain ⟨z0, z1, z2, z3, z4, z5, z6, z7⟩ := x13.get8
              go_wp2_with fail
              refine hG.mono ?_
              rintro e w10 ⟨rfl, hb10⟩
              clear hG y0 y1 z0 z1 z2 z3 z4 z5 z6 z7
              go_upto_region 26 with fail
              have b23 := (BoxL.new w10 [.int .i64 t, .int .u64 (v : Int)] 40).onA (.cells #[.int .i64 (nx.n : Int), .int .i64 nx.t, .int .i64 nx.d, .int .u64 (nx.v : Int), .int .u64 (nx.e : Int), .int .u64 (nx.x.prev : Int), .int .i64 (nx.x.lead : Int), .int .i64 (nx.x.len : Int)] 29)
              have b24 := BoxL.new (w10.alloc (.cells #[.int .i64 t, .int .u64 (v : Int)] 40)) [.int .i64 (nx.n : Int), .int .i64 nx.t, .int .i64 nx.d, .int .u64 (nx.v : Int), .int .u64 (nx.e : Int), .int .u64 (nx.x.prev : Int), .int .i64 (nx.x.lead : Int), .int .i64 (nx.x.len : Int)] 29
              simp only [World.size_alloc] at b24
              have hal : Below w10.heap.size w10 ((w10.alloc (.cells #[.int .i64 t, .int .u64 (v : Int)] 40)).alloc (.cells #[.int .i64 (nx.n : Int), .int .i64 nx.t, .int .i64 nx.d, .int .u64 (nx.v : Int), .int .u64 (nx.e : Int), .int .u64 (nx.x.prev : Int), .int .i64 (nx.x.lead : Int), .int .i64 (nx.x.len : Int)] 29)) := by repeat (first | with_reducible exact Below.refl _ _ | with_reducible assumption | with_reducible refine Below.drew ?_ | with_reducible refine below_drewN ?_ _ | with_reducible refine Below.alloc ?_ (by (first | assumption | omega | (simp; done) | (simp; omega))) _ | with_reducible refine below_set ?_ (by (first | assumption | omega | (simp; done) | (simp; omega))) _ _)
              replace hb10 := hb10.trans (hal.mono hb10.size)
              clear hal
              generalize (w10.alloc (.cells #[.int .i64 t, .int .u64 (v : Int)] 40)).alloc (.cells #[.int .i64 (nx.n : Int), .int .i64 nx.t, .int .i64 nx.d, .int .u64 (nx.v : Int), .int .u64 (nx.e : Int), .int .u64 (nx.x.prev : Int), .int .i64 (nx.x.lead : Int), .int .i64 (nx.x.len : Int)] 29) = V at *
              generalize w10.heap.size = gg at *
              replace hmr := hmr.on hb10
              replace x12 := x12.below hb10
              replace x13 := x13.below hb10
              replace x21 := x21.below hb10
              have src2 := src1.below (hb10.mono hws)
              clear src1 hb10 hst
              have qs := fun w => run_neq_kst w nx
              have sg := kst_guard
              have qm := fun w => run_neq_smp w t (v : Int)
              have mg := smp_guard
              have hlt' : (i : Int) < (j : Int) := by omega
              have hN2 : (2 : Int) ≤ (N : Int) := by omega
              go_cut [127] (fun x127 wx => x127 = .bool false ∧ Below V.heap.size V wx)
              case first =>
                obtain ⟨a0, a1⟩ := b23.get2
                obtain ⟨d0, d1, d2, d3, d4, d5, d6, d7⟩ := b24.get8
                obtain ⟨e0, e1, e2, e3, e4, e5, e6, e7⟩ := x21.get8
                have c0 := src2.c0
                have c1 := src2.c1
                clear x12 x13 hmr b23 b24 x21 src2
                go_quiet (fail)
                go_wp2
                go_meet
                exact ⟨congrArg Value.bool (decide_eq_false (by omega)), by repeat (first | with_reducible exact Below.refl _ _ | with_reducible assumption | with_reducible refine Below.drew ?_ | with_reducible refine below_drewN ?_ _ | with_reducible refine Below.alloc ?_ (by (first | assumption | omega | (simp; done) | (simp; omega))) _ | with_reducible refine below_set ?_ (by (first | assumption | omega | (simp; done) | (simp; omega))) _ _)⟩
              case rest =>
                obtain ⟨rfl, hbe⟩ := hcut
                have l13 : g13 < B5 := hB5
                have hm2 := (hmr.on hbe).set8 hgw l13 (.int .i64 (nx.n : Int)) (.int .i64 nx.t) (.int .i64 nx.d) (.int .u64 (nx.v : Int)) (.int .u64 (nx.e : Int)) (.int .u64 (nx.x.prev : Int)) (.int .i64 (nx.x.lead : Int)) (.int .i64 (nx.x.len : Int))
                have y12 := (x12.below hbe).oth8 hgn (.int .i64 (nx.n : Int)) (.int .i64 nx.t) (.int .i64 nx.d) (.int .u64 (nx.v : Int)) (.int .u64 (nx.e : Int)) (.int .u64 (nx.x.prev : Int)) (.int .i64 (nx.x.lead : Int)) (.int .i64 (nx.x.len : Int))
                have x13e := x13.below hbe
                have x21e := x21.below hbe
                have y13 := x13e.all8 (.int .i64 (nx.n : Int)) (.int .i64 nx.t) (.int .i64 nx.d) (.int .u64 (nx.v : Int)) (.int .u64 (nx.e : Int)) (.int .u64 (nx.x.prev : Int)) (.int .i64 (nx.x.lead : Int)) (.int .i64 (nx.x.len : Int))
                obtain ⟨y0, y1, y2, y3, y4, y5, y6, y7⟩ := x13e.get8
                obtain ⟨yf0, yf1, yf2, yf3, yf4, yf5, yf6, yf7⟩ := x13e.free8
                obtain ⟨z0, z1, z2, z3, z4, z5, z6, z7⟩ := x21e.get8
                clear qs sg qm mg src2 b23 b24 x12 x13 x21 x13e x21e hmr
                go_wp2_with fail
                clear y0 y1 y2 y3 y4 y5 y6 y7 yf0 yf1 yf2 yf3 yf4 yf5 yf6 yf7 z0 z1 z2 z3 z4 z5 z6 z7
                go_roundw
                case rel =>
                  refine ⟨i + 1, by omega, by go_num, ?_, hm2, y12, ?_⟩
                  · rw [HCD.out]; go_num
                  · rw [HST.out]; exact y13
                case measure => simp [intOf]; omega
          · obtain rfl : i = j := by omega
            go_wp2_with fail
            go_ret
            exact ⟨rfl, hw7.trans (hmr.bel.mono hw7.size)⟩

end Go.Proofs.YtcnhoohcdkfgkaaDoor
