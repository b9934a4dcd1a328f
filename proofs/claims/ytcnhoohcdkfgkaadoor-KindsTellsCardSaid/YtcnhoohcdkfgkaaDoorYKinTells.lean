/-
  KindsTells, walked: it returns true, whatever the arguments.
-/
import Derived.Test.YtcnhoohcdkfgkaaDoorYKinAll
import Derived.Test.YtcnhoohcdkfgkaaDoorM8
import Derived.Test.YtcnhoohcdkfgkaaDoorYSamples
import Derived.Test.YtcnhoohcdkfgkaaDoorM3
import Derived.Test.YtcnhoohcdkfgkaaDoorM2
import Derived.Deep.DeepCutAuto
import Derived.Deep.CutBlock
namespace Go.Proofs.YtcnhoohcdkfgkaaDoor
open Go.RowKit

set_option maxRecDepth 20000 in
set_option maxHeartbeats 1000000 in
theorem ktells_big (A1 A2 : Option Addr) (m1 c1 m2 c2 : Nat) (z a : Int) (w : World) (_hl : m1 ≤ 9223372036854775807 ∧ m2 ≤ 9223372036854775807) (h : 60 < m1 ∨ (m1 ≤ 60 ∧ 500 < m2)) (hR : RoomW w) (hT : TzW w) :
    Calls Tryd.prog 3 #[.int .i64 z, .slice A1 m1 c1, .slice A2 m2 c2, .int .i64 a] w (RetTrue w) := by
  rcases h with h | h
  all_goals
    go_enter Tryd.func3, Tryd.ntmps3
    go_wp2_with (go_at_call 5; refine (up8_any _ hR hT).mono ?_; rintro e w1 ⟨rfl, hb1⟩)
    go_ret
    exact ⟨rfl, hb1⟩

/-- a state's box and a sample's two cells, all ahead of block B -/
structure SQ (X : World) (B g : Nat) (s : KS) (ad : Addr) (t : Int) (v : Nat) : Prop where
  b : BoxL X g [.int .i64 (s.n : Int), .int .i64 s.t, .int .i64 s.d, .int .u64 (s.v : Int), .int .u64 (s.e : Int), .int .u64 (s.x.prev : Int), .int .i64 (s.x.lead : Int), .int .i64 (s.x.len : Int)]
  hg : g < B
  ha : ad.block < B
  c0 : X.cell? ad = some (.int .i64 t)
  c1 : X.cell? ⟨ad.block, ad.off + 1, none⟩ = some (.int .u64 (v : Int))
section
variable {X X' : World} {B g : Nat} {s : KS} {ad : Addr} {t : Int} {v : Nat}
theorem SQ.below (h : SQ X B g s ad t v) (hb : Below B X X') : SQ X' B g s ad t v := ⟨h.b.belowB hb h.hg, h.hg, h.ha, (hb.cell h.ha).trans h.c0, (hb.cell (p := ⟨ad.block, ad.off + 1, none⟩) h.ha).trans h.c1⟩
theorem SQ.cells (h : SQ X B g s ad t v) : (X.cell? ⟨g, 0, none⟩ = some (.int .i64 (s.n : Int)) ∧ X.cell? ⟨g, 1, none⟩ = some (.int .i64 s.t) ∧ X.cell? ⟨g, 2, none⟩ = some (.int .i64 s.d) ∧ X.cell? ⟨g, 3, none⟩ = some (.int .u64 (s.v : Int)) ∧ X.cell? ⟨g, 4, none⟩ = some (.int .u64 (s.e : Int)) ∧ X.cell? ⟨g, 5, none⟩ = some (.int .u64 (s.x.prev : Int)) ∧ X.cell? ⟨g, 6, none⟩ = some (.int .i64 (s.x.lead : Int)) ∧ X.cell? ⟨g, 7, none⟩ = some (.int .i64 (s.x.len : Int))) ∧ X.cell? ad = some (.int .i64 t) ∧ X.cell? ⟨ad.block, ad.off + 1, none⟩ = some (.int .u64 (v : Int)) := ⟨h.b.get8, h.c0, h.c1⟩
end

/-- behind some samples: the state in both boxes -/
def AtKT (w : World) (g10 g11 n : Nat) (i : Value) (wr : World) : Prop :=
  ∃ j s, j ≤ n ∧ i = .int .i64 ((j : Nat) : Int) ∧ KS.May s ∧ s.n ≤ j ∧ Below w.heap.size w wr ∧ BoxL wr g10 [.int .i64 (s.n : Int), .int .i64 s.t, .int .i64 s.d, .int .u64 (s.v : Int), .int .u64 (s.e : Int), .int .u64 (s.x.prev : Int), .int .i64 (s.x.lead : Int), .int .i64 (s.x.len : Int)] ∧ BoxL wr g11 [.int .i64 (s.n : Int), .int .i64 s.t, .int .i64 s.d, .int .u64 (s.v : Int), .int .u64 (s.e : Int), .int .u64 (s.x.prev : Int), .int .i64 (s.x.lead : Int), .int .i64 (s.x.len : Int)]
/-- a sample's bits in a box of their own, and the state behind it in another one, both new -/
def PutAt (wr : World) (r : PA) (N : Nat) (gx gs : Nat) (wx : World) : Prop :=
  ∃ A c B, BoxL wx gx [.slice A (pack r.p).length c, .int .i64 (N : Int)] ∧ BoxL wx gs [.int .i64 (r.s.n : Int), .int .i64 r.s.t, .int .i64 r.s.d, .int .u64 (r.s.v : Int), .int .u64 (r.s.e : Int), .int .u64 (r.s.x.prev : Int), .int .i64 (r.s.x.lead : Int), .int .i64 (r.s.x.len : Int)] ∧ Mid wr B wx (.slice A (pack r.p).length c) (pack r.p) ∧ wr.heap.size ≤ gx ∧ wr.heap.size ≤ gs ∧ gx ≠ gs
/-- the reference's answer -/
def RPutAt (wr : World) (r : PA) (N : Nat) (gt : Nat) (x16 : Value) (wx : World) : Prop :=
  ∃ A c B, x16 = .slice A N c ∧ Mid wr B wx (.slice A N c) (enc r.p) ∧ BoxL wx gt [.int .i64 (r.s.n : Int), .int .i64 r.s.t, .int .i64 r.s.d, .int .u64 (r.s.v : Int), .int .u64 (r.s.e : Int), .int .u64 (r.s.x.prev : Int), .int .i64 (r.s.x.lead : Int), .int .i64 (r.s.x.len : Int)] ∧ wr.heap.size ≤ gt

theorem restL_le (bs : List Nat) (a : Int) : (restL bs a).length ≤ 8 * bs.length := by
  unfold restL
  split
  · rw [List.length_drop, flat_length]; omega
  · simp
/-- behind some samples that were got: the state in both boxes, the place, the bits from there on -/
def AtKG (w : World) (bs : List Nat) (g10 g11 : Nat) (i x3 x19 : Value) (wr : World) : Prop :=
  ∃ (j : Nat) (s : KS) (a : Int) (A : Option Addr) (n c : Nat), j ≤ 60 ∧ i = .int .i64 ((j : Nat) : Int) ∧ x3 = .int .i64 a ∧ x19 = .slice A n c ∧ (-9223372036854775808 ≤ a ∧ a ≤ 9223372036854775807) ∧ KS.May s ∧ s.n ≤ 60 + j ∧ Below w.heap.size w wr ∧ BoxL wr g10 [.int .i64 (s.n : Int), .int .i64 s.t, .int .i64 s.d, .int .u64 (s.v : Int), .int .u64 (s.e : Int), .int .u64 (s.x.prev : Int), .int .i64 (s.x.lead : Int), .int .i64 (s.x.len : Int)] ∧ BoxL wr g11 [.int .i64 (s.n : Int), .int .i64 s.t, .int .i64 s.d, .int .u64 (s.v : Int), .int .u64 (s.e : Int), .int .u64 (s.x.prev : Int), .int .i64 (s.x.lead : Int), .int .i64 (s.x.len : Int)] ∧ Rd wr wr.heap.size A n c (enc (restL bs a)) ∧ ∀ ad, A = some ad → g11 < ad.block

set_option maxRecDepth 20000 in
set_option maxHeartbeats 100000000 in
theorem ktells_in (A1 A2 : Option Addr) (m1 c1 m2 c2 : Nat) (z a : Int) (bs : List Nat) (xs : List (Int × Nat)) (w : World) (h1 : RdQ w w.heap.size A1 m1 c1 xs) (h2 : Rd w w.heap.size A2 m2 c2 bs) (hb2 : ∀ x ∈ bs, x < 256) (hm1 : m1 ≤ 60) (hm2 : m2 ≤ 500)
    (ha : -9223372036854775808 ≤ a ∧ a ≤ 9223372036854775807) (hR : RoomW w) (hT : TzW w) :
    Calls Tryd.prog 3 #[.int .i64 z, .slice A1 m1 c1, .slice A2 m2 c2, .int .i64 a] w (RetTrue w) := by
  go_enter Tryd.func3, Tryd.ntmps3
  go_wp2_with fail
  refine (up8_any w hR hT).mono ?_
  rintro e w1 ⟨rfl, hw1⟩
  go_upto_block 0 with fail
  have b10 := (BoxL.new w1 [.int .i64 0, .int .i64 0, .int .i64 0, .int .u64 0, .int .u64 0, .int .u64 0, .int .i64 0, .int .i64 0] 29).onA (.cells #[.int .i64 0, .int .i64 0, .int .i64 0, .int .u64 0, .int .u64 0, .int .u64 0, .int .i64 0, .int .i64 0] 32)
  have b11 := BoxL.new (w1.alloc (.cells #[.int .i64 0, .int .i64 0, .int .i64 0, .int .u64 0, .int .u64 0, .int .u64 0, .int .i64 0, .int .i64 0] 29)) [.int .i64 0, .int .i64 0, .int .i64 0, .int .u64 0, .int .u64 0, .int .u64 0, .int .i64 0, .int .i64 0] 32
  simp only [World.size_alloc] at b11
  have hal : Below w1.heap.size w1 ((w1.alloc (.cells #[.int .i64 0, .int .i64 0, .int .i64 0, .int .u64 0, .int .u64 0, .int .u64 0, .int .i64 0, .int .i64 0] 29)).alloc (.cells #[.int .i64 0, .int .i64 0, .int .i64 0, .int .u64 0, .int .u64 0, .int .u64 0, .int .i64 0, .int .i64 0] 32)) := by repeat (first | with_reducible exact Below.refl _ _ | with_reducible assumption | with_reducible refine Below.drew ?_ | with_reducible refine below_drewN ?_ _ | with_reducible refine Below.alloc ?_ (by (first | assumption | omega | (simp; done) | (simp; omega))) _ | with_reducible refine below_set ?_ (by (first | assumption | omega | (simp; done) | (simp; omega))) _ _)
  have hg10 : w.heap.size ≤ w1.heap.size := hw1.size
  replace hw1 := hw1.trans (hal.mono hw1.size)
  clear hal
  generalize (w1.alloc (.cells #[.int .i64 0, .int .i64 0, .int .i64 0, .int .u64 0, .int .u64 0, .int .u64 0, .int .i64 0, .int .i64 0] 29)).alloc (.cells #[.int .i64 0, .int .i64 0, .int .i64 0, .int .u64 0, .int .u64 0, .int .u64 0, .int .i64 0, .int .i64 0] 32) = W at *
  generalize w1.heap.size = g10 at *
  go_cut [12] (fun i wx => AtKT w g10 (g10 + 1) 60 i wx)
  case first =>
    go_wp2_with fail
    go_loopw [12] (fun i wr => AtKT w g10 (g10 + 1) m1 i wr) (fun i _ => m1 - (intOf i).toNat)
    case atStart => exact ⟨0, zeroK, Nat.zero_le _, rfl, zeroK_may, Nat.le_refl _, hw1, b10, b11⟩
    case round =>
      obtain ⟨j, s, hj, rfl, hs, hn, hwr, x10, x11⟩ := hrel
      by_cases hlt : j < m1
      · obtain ⟨ad0, rfl, hbl, hc0, hc1⟩ := (h1.below hwr).at_ hlt
        have hfit := h1.fitAt j
        obtain ⟨ht1, ht2, hv1⟩ := hfit
        have hbl' : (ad0.add (j * 2)).block < w.heap.size := by rw [add_block]; exact hbl
        generalize (xs.getD j (0, 0)).1 = t at *
        generalize (xs.getD j (0, 0)).2 = v at *
        obtain ⟨r, HRr⟩ : ∃ r, Hid (putA z s t v = r) := ⟨_, Lib.hid rfl⟩
        have hPA : ∀ X, Below wr.heap.size wr X → Calls Tryd.prog 6 #[.int .i64 z, (.agg #[.int .i64 (s.n : Int), .int .i64 s.t, .int .i64 s.d, .int .u64 (s.v : Int), .int .u64 (s.e : Int), .int .u64 (s.x.prev : Int), .int .i64 (s.x.lead : Int), .int .i64 (s.x.len : Int)]), (.agg #[.int .i64 t, .int .u64 (v : Int)])] X (RetPA X r) := fun X hX => by
          rw [← HRr.out]; exact put_all z s t v X hs (by omega) hv1 ((hR.bel hwr).bel hX) ((hT.bel hwr).bel hX)
        have hRPA : ∀ X, Calls Tryd.prog 7 #[.int .i64 z, (.agg #[.int .i64 (s.n : Int), .int .i64 s.t, .int .i64 s.d, .int .u64 (s.v : Int), .int .u64 (s.e : Int), .int .u64 (s.x.prev : Int), .int .i64 (s.x.lead : Int), .int .i64 (s.x.len : Int)]), (.agg #[.int .i64 t, .int .u64 (v : Int)])] X (RetRPA X r) := fun X => by
          rw [← HRr.out]; exact rput_all z s t v X hs (by omega) hv1
        have hre : r.e ≤ 6 := by rw [← HRr.out]; exact putA_e ..
        have hrl : r.p.length ≤ 146 := by rw [← HRr.out]; exact putA_len z hs hv1
        have hrm : r.s.May ∧ r.s.n ≤ s.n + 1 := by rw [← HRr.out]; exact putA_may z hs ⟨ht1, ht2⟩ hv1
        have HOK : Hid (r.e = 0 → ∃ k : Nat, z = (k : Int) ∧ (k = 1 ∨ k = 2) ∧ afterK k s t v r.s.x = r.s) := Lib.hid (by rw [← HRr.out]; exact putA_ok)
        unfold RetPA at hPA
        unfold RetRPA at hRPA
        obtain ⟨N, HN⟩ : ∃ N, Hid (r.p.length = N) := ⟨_, Lib.hid rfl⟩
        obtain ⟨ev, HE⟩ : ∃ ev, Hid (errV r.e = ev) := ⟨_, Lib.hid rfl⟩
        rw [HN.out] at hPA hRPA hrl
        rw [HE.out] at hPA
        have hg11w := x11.lt
        have hwrs := hwr.size
        have src0 : SQ wr wr.heap.size g10 s (ad0.add (j * 2)) t v := ⟨x10, by omega, by omega, hc0, hc1⟩
        clear HRr hc0 hc1 ht1 ht2 hv1
        go_upto_region 9 with fail
        go_cut [13, 14, 15] (fun x13 x14 x15 wx => ∃ gx gs, x13 = .pointer (some ⟨gx, 0, none⟩) ∧ x14 = .pointer (some ⟨gs, 0, none⟩) ∧ x15 = ev ∧ PutAt wr r N gx gs wx)
        case first =>
          -- DONE
          have q0 := (src0.below (X' := wr.drew) (by repeat (first | with_reducible exact Below.refl _ _ | with_reducible assumption | with_reducible refine Below.drew ?_ | with_reducible refine below_drewN ?_ _ | with_reducible refine Below.alloc ?_ (by (first | assumption | omega | (simp; done) | (simp; omega))) _ | with_reducible refine below_set ?_ (by (first | assumption | omega | (simp; done) | (simp; omega))) _ _))).cells
          clear x10 x11
          go_region_held3 (fun w' => (w'.cell? ⟨g10, 0, none⟩ = some (.int .i64 (s.n : Int)) ∧ w'.cell? ⟨g10, 1, none⟩ = some (.int .i64 s.t) ∧ w'.cell? ⟨g10, 2, none⟩ = some (.int .i64 s.d) ∧ w'.cell? ⟨g10, 3, none⟩ = some (.int .u64 (s.v : Int)) ∧ w'.cell? ⟨g10, 4, none⟩ = some (.int .u64 (s.e : Int)) ∧ w'.cell? ⟨g10, 5, none⟩ = some (.int .u64 (s.x.prev : Int)) ∧ w'.cell? ⟨g10, 6, none⟩ = some (.int .i64 (s.x.lead : Int)) ∧ w'.cell? ⟨g10, 7, none⟩ = some (.int .i64 (s.x.len : Int))) ∧ w'.cell? (ad0.add (j * 2)) = some (.int .i64 t) ∧ w'.cell? ⟨(ad0.add (j * 2)).block, (ad0.add (j * 2)).off + 1, none⟩ = some (.int .u64 (v : Int)))
            (with_reducible first | exact q0 | exact (src0.below (by repeat (first | with_reducible exact Below.refl _ _ | with_reducible assumption | with_reducible refine Below.drew ?_ | with_reducible refine below_drewN ?_ _ | with_reducible refine Below.alloc ?_ (by (first | assumption | omega | (simp; done) | (simp; omega))) _ | with_reducible refine below_set ?_ (by (first | assumption | omega | (simp; done) | (simp; omega))) _ _))).cells) (first
            | (go_at_call 6; (with_reducible refine (hPA _ (by repeat (first | with_reducible exact Below.refl _ _ | with_reducible assumption | with_reducible refine Below.drew ?_ | with_reducible refine below_drewN ?_ _ | with_reducible refine Below.alloc ?_ (by (first | assumption | omega | (simp; done) | (simp; omega))) _ | with_reducible refine below_set ?_ (by (first | assumption | omega | (simp; done) | (simp; omega))) _ _))).mono ?_); rintro e w9 ⟨A9, c9, rfl, ho9⟩; have hb9 : Below wr.heap.size wr w9 := (Below.trans (by repeat (first | with_reducible exact Below.refl _ _ | with_reducible assumption | with_reducible refine Below.drew ?_ | with_reducible refine below_drewN ?_ _ | with_reducible refine Below.alloc ?_ (by (first | assumption | omega | (simp; done) | (simp; omega))) _ | with_reducible refine below_set ?_ (by (first | assumption | omega | (simp; done) | (simp; omega))) _ _)) (ho9.bel.mono (by first | exact Nat.le_refl _ | (simp; done) | (simp; omega)))); have hs9 := hb9.size; obtain ⟨B9, HB9, hm9⟩ := Mid.some (w0 := wr) ho9 (by repeat (first | with_reducible exact Below.refl _ _ | with_reducible assumption | with_reducible refine Below.drew ?_ | with_reducible refine below_drewN ?_ _ | with_reducible refine Below.alloc ?_ (by (first | assumption | omega | (simp; done) | (simp; omega))) _ | with_reducible refine below_set ?_ (by (first | assumption | omega | (simp; done) | (simp; omega))) _ _)); (first | (have lB13 : wr.heap.size < B9 := (by rw [HB9.out]; first | (simp; done) | (simp; omega)); have lB14 : wr.heap.size + 1 < B9 := (by rw [HB9.out]; first | (simp; done) | (simp; omega)); (with_reducible have x13 := (((BoxL.new wr [.slice none 0 0, .int .i64 0] 34).onA (.cells #[.int .i64 0, .int .i64 0, .int .i64 0, .int .u64 0, .int .u64 0, .int .u64 0, .int .i64 0, .int .i64 0] 29)).drew).below ho9.bel); (with_reducible have x14 := ((BoxL.new_at (w := wr.alloc (.cells #[.slice none 0 0, .int .i64 0] 34)) (g := wr.heap.size + 1) [.int .i64 0, .int .i64 0, .int .i64 0, .int .u64 0, .int .u64 0, .int .u64 0, .int .i64 0, .int .i64 0] 29 (by simp)).drew).below ho9.bel); obtain ⟨u60, u61⟩ := x13.get2; obtain ⟨v60, v61⟩ := x13.free2; have l13 := x13.lt; obtain ⟨u70, u71, u72, u73, u74, u75, u76, u77⟩ := x14.get8; obtain ⟨v70, v71, v72, v73, v74, v75, v76, v77⟩ := x14.free8; have l14 := x14.lt) | (have lB13 : wr.heap.size < B9 := (by rw [HB9.out]; first | (simp; done) | (simp; omega)); have lB14 : wr.heap.size + 1 < B9 := (by rw [HB9.out]; first | (simp; done) | (simp; omega)); (with_reducible have x14 := (((BoxL.new wr [.int .i64 0, .int .i64 0, .int .i64 0, .int .u64 0, .int .u64 0, .int .u64 0, .int .i64 0, .int .i64 0] 29).onA (.cells #[.slice none 0 0, .int .i64 0] 34)).drew).below ho9.bel); (with_reducible have x13 := ((BoxL.new_at (w := wr.alloc (.cells #[.int .i64 0, .int .i64 0, .int .i64 0, .int .u64 0, .int .u64 0, .int .u64 0, .int .i64 0, .int .i64 0] 29)) (g := wr.heap.size + 1) [.slice none 0 0, .int .i64 0] 34 (by simp)).drew).below ho9.bel); obtain ⟨u60, u61⟩ := x13.get2; obtain ⟨v60, v61⟩ := x13.free2; have l13 := x13.lt; obtain ⟨u70, u71, u72, u73, u74, u75, u76, u77⟩ := x14.get8; obtain ⟨v70, v71, v72, v73, v74, v75, v76, v77⟩ := x14.free8; have l14 := x14.lt) | (have lB13 : wr.heap.size < B9 := (by rw [HB9.out]; first | (simp; done) | (simp; omega)); (with_reducible have x13 := ((BoxL.new wr [.slice none 0 0, .int .i64 0] 34).drew).below ho9.bel); obtain ⟨u60, u61⟩ := x13.get2; obtain ⟨v60, v61⟩ := x13.free2; have l13 := x13.lt) | (have lB13 : wr.heap.size < B9 := (by rw [HB9.out]; first | (simp; done) | (simp; omega)); (with_reducible have x14 := ((BoxL.new wr [.int .i64 0, .int .i64 0, .int .i64 0, .int .u64 0, .int .u64 0, .int .u64 0, .int .i64 0, .int .i64 0] 29).drew).below ho9.bel); obtain ⟨u70, u71, u72, u73, u74, u75, u76, u77⟩ := x14.get8; obtain ⟨v70, v71, v72, v73, v74, v75, v76, v77⟩ := x14.free8; have l14 := x14.lt) | skip)))
          all_goals
            clear q0 hPA hRPA src0
            go_wp2_with fail
            go_meet
            refine ⟨_, _, rfl, rfl, rfl, A9, c9, B9, ?h1, ?h2, ?h3, ?h4, ?h5, ?h6⟩
            case h1 => exact by repeat (first | with_reducible assumption | with_reducible refine BoxL.new_at _ _ (by (first | assumption | omega | (simp; done) | (simp; omega))) | with_reducible refine BoxL.onA ?_ _ | with_reducible refine BoxL.drew ?_ | with_reducible apply BoxL.all8_ | with_reducible apply BoxL.all3_ | with_reducible apply BoxL.all2_ | with_reducible apply BoxL.oth | rfl | omega)
            case h2 => exact by repeat (first | with_reducible assumption | with_reducible refine BoxL.new_at _ _ (by (first | assumption | omega | (simp; done) | (simp; omega))) | with_reducible refine BoxL.onA ?_ _ | with_reducible refine BoxL.drew ?_ | with_reducible apply BoxL.all8_ | with_reducible apply BoxL.all3_ | with_reducible apply BoxL.all2_ | with_reducible apply BoxL.oth | rfl | omega)
            case h3 => exact by repeat (first | with_reducible assumption | with_reducible refine Mid.onA ?_ _ | with_reducible refine Mid.drew ?_ | with_reducible refine Mid.setAt ?_ (by (first | assumption | omega | (simp; done) | (simp; omega))) (by (first | assumption | omega | (simp; done) | (simp; omega))) _ _)
            case h4 => (first | assumption | omega | (simp; done) | (simp; omega))
            case h5 => (first | assumption | omega | (simp; done) | (simp; omega))
            case h6 => (first | assumption | omega | (simp; done) | (simp; omega))
        case rest =>
          obtain ⟨gx, gs, rfl, rfl, rfl, A9, c9, B9, b13, b14, m13, hgx, hgs, hgn⟩ := hcut
          have hbc := m13.bel
          have src1 : SQ wc wc.heap.size (g10 + 1) s (ad0.add (j * 2)) t v := ⟨x11.below hbc, by have := hbc.size; omega, by have := hbc.size; omega, (src0.below hbc).c0, (src0.below hbc).c1⟩
          have src2 := src0.below hbc
          clear hPA x10 x11 src0
          go_upto_region 10 with fail
          go_cut [16, 17, 18] (fun x16 x17 x18 wx => ∃ gt, x17 = .pointer (some ⟨gt, 0, none⟩) ∧ x18 = .int .i64 (r.e : Int) ∧ RPutAt wc r N gt x16 wx)
          case first =>
            -- DONE
            have q0 := (src1.below (X' := wc.drew) (by repeat (first | with_reducible exact Below.refl _ _ | with_reducible assumption | with_reducible refine Below.drew ?_ | with_reducible refine below_drewN ?_ _ | with_reducible refine Below.alloc ?_ (by (first | assumption | omega | (simp; done) | (simp; omega))) _ | with_reducible refine below_set ?_ (by (first | assumption | omega | (simp; done) | (simp; omega))) _ _))).cells
            clear b13 b14 m13 hbc src2
            go_region_held3 (fun w' => (w'.cell? ⟨g10 + 1, 0, none⟩ = some (.int .i64 (s.n : Int)) ∧ w'.cell? ⟨g10 + 1, 1, none⟩ = some (.int .i64 s.t) ∧ w'.cell? ⟨g10 + 1, 2, none⟩ = some (.int .i64 s.d) ∧ w'.cell? ⟨g10 + 1, 3, none⟩ = some (.int .u64 (s.v : Int)) ∧ w'.cell? ⟨g10 + 1, 4, none⟩ = some (.int .u64 (s.e : Int)) ∧ w'.cell? ⟨g10 + 1, 5, none⟩ = some (.int .u64 (s.x.prev : Int)) ∧ w'.cell? ⟨g10 + 1, 6, none⟩ = some (.int .i64 (s.x.lead : Int)) ∧ w'.cell? ⟨g10 + 1, 7, none⟩ = some (.int .i64 (s.x.len : Int))) ∧ w'.cell? (ad0.add (j * 2)) = some (.int .i64 t) ∧ w'.cell? ⟨(ad0.add (j * 2)).block, (ad0.add (j * 2)).off + 1, none⟩ = some (.int .u64 (v : Int)))
              (with_reducible first | exact q0 | exact (src1.below (by repeat (first | with_reducible exact Below.refl _ _ | with_reducible assumption | with_reducible refine Below.drew ?_ | with_reducible refine below_drewN ?_ _ | with_reducible refine Below.alloc ?_ (by (first | assumption | omega | (simp; done) | (simp; omega))) _ | with_reducible refine below_set ?_ (by (first | assumption | omega | (simp; done) | (simp; omega))) _ _))).cells) (first
              | (go_at_call 7; (with_reducible refine (hRPA _).mono ?_); rintro e w9 ⟨A9, c9, rfl, ho9⟩; have hb9 : Below wc.heap.size wc w9 := (Below.trans (by repeat (first | with_reducible exact Below.refl _ _ | with_reducible assumption | with_reducible refine Below.drew ?_ | with_reducible refine below_drewN ?_ _ | with_reducible refine Below.alloc ?_ (by (first | assumption | omega | (simp; done) | (simp; omega))) _ | with_reducible refine below_set ?_ (by (first | assumption | omega | (simp; done) | (simp; omega))) _ _)) (ho9.bel.mono (by first | exact Nat.le_refl _ | (simp; done) | (simp; omega)))); have hs9 := hb9.size; obtain ⟨B9, HB9, hm9⟩ := Mid.some (w0 := wc) ho9 (by repeat (first | with_reducible exact Below.refl _ _ | with_reducible assumption | with_reducible refine Below.drew ?_ | with_reducible refine below_drewN ?_ _ | with_reducible refine Below.alloc ?_ (by (first | assumption | omega | (simp; done) | (simp; omega))) _ | with_reducible refine below_set ?_ (by (first | assumption | omega | (simp; done) | (simp; omega))) _ _)); (first | (have lB14 : wc.heap.size < B9 := (by rw [HB9.out]; first | (simp; done) | (simp; omega)); (with_reducible have x14 := ((BoxL.new wc [.int .i64 0, .int .i64 0, .int .i64 0, .int .u64 0, .int .u64 0, .int .u64 0, .int .i64 0, .int .i64 0] 32).drew).below ho9.bel); obtain ⟨u70, u71, u72, u73, u74, u75, u76, u77⟩ := x14.get8; obtain ⟨v70, v71, v72, v73, v74, v75, v76, v77⟩ := x14.free8; have l14 := x14.lt) | skip)))
            all_goals
              clear q0 hRPA src1
              go_wp2_with fail
              go_meet
              refine ⟨_, rfl, rfl, A9, c9, B9, rfl, ?h1, ?h2, ?h3⟩
              case h1 => exact by repeat (first | with_reducible assumption | with_reducible refine Mid.onA ?_ _ | with_reducible refine Mid.drew ?_ | with_reducible refine Mid.setAt ?_ (by (first | assumption | omega | (simp; done) | (simp; omega))) (by (first | assumption | omega | (simp; done) | (simp; omega))) _ _)
              case h2 => exact by repeat (first | with_reducible assumption | with_reducible refine BoxL.new_at _ _ (by (first | assumption | omega | (simp; done) | (simp; omega))) | with_reducible refine BoxL.onA ?_ _ | with_reducible refine BoxL.drew ?_ | with_reducible apply BoxL.all8_ | with_reducible apply BoxL.all3_ | with_reducible apply BoxL.all2_ | with_reducible apply BoxL.oth | rfl | omega)
              case h3 => (first | assumption | omega | (simp; done) | (simp; omega))
          case rest =>
            obtain ⟨gt, rfl, rfl, A16, c16, B16, rfl, m16, b17, hgt⟩ := hcut
            have hbd := m16.bel
            have hs13 := m13.bel.size
            have r13 := (m13.rd.below hbd).more hbd.size
            have r16 := m16.rd
            replace b13 := b13.below hbd
            replace b14 := b14.below hbd
            replace hbc := hbc.trans (hbd.mono (Nat.le_trans hbc.size (Nat.le_refl _)))
            replace src2 := src2.below (hbd.mono (Nat.le_trans m13.bel.size (Nat.le_refl _)))
            have x11 := src1.b.belowB hbd src1.hg
            clear m13 m16 src1 hRPA hbd
            have hCd := fun X => code_any r.e X (by omega)
            rw [HE.out] at hCd
            have hIs : ∀ X, Below wc.heap.size wc X → Calls Tryd.prog 9 #[.agg #[.slice A9 (pack r.p).length c9, .int .i64 (N : Int)], .slice A16 N c16] X fun e w' => e = .returned (.int .i64 1) ∧ Below X.heap.size X w' := fun X hX => by
              have := is_yes A9 A16 _ c9 N c16 r.p X ((r13.below hX).more hX.size) ((r16.below hX).more hX.size) (by omega)
              rwa [HN.out] at this
            have hSt := fun X => lawstate_any r.s X
            have qs := fun w => run_neq_rst w r.s
            have sg := rst_guard
            have hne : ((r.e : Int) != (r.e : Int)) = false := by simp
            have lx := b13.lt
            have ls := b14.lt
            have lt17 := b17.lt
            go_upto_region 11 with fail
            go_cut [82] (fun x82 wx => x82 = .bool false ∧ Below wc.heap.size wc wx)
            case first =>
              -- DONE
              have q0 := (b13.belowB (w' := wc.drew) (by repeat (first | with_reducible exact Below.refl _ _ | with_reducible assumption | with_reducible refine Below.drew ?_ | with_reducible refine below_drewN ?_ _ | with_reducible refine Below.alloc ?_ (by (first | assumption | omega | (simp; done) | (simp; omega))) _ | with_reducible refine below_set ?_ (by (first | assumption | omega | (simp; done) | (simp; omega))) _ _)) lx).get2
              have q1 := (b14.belowB (w' := wc.drew) (by repeat (first | with_reducible exact Below.refl _ _ | with_reducible assumption | with_reducible refine Below.drew ?_ | with_reducible refine below_drewN ?_ _ | with_reducible refine Below.alloc ?_ (by (first | assumption | omega | (simp; done) | (simp; omega))) _ | with_reducible refine below_set ?_ (by (first | assumption | omega | (simp; done) | (simp; omega))) _ _)) ls).get8
              have q2 := (b17.belowB (w' := wc.drew) (by repeat (first | with_reducible exact Below.refl _ _ | with_reducible assumption | with_reducible refine Below.drew ?_ | with_reducible refine below_drewN ?_ _ | with_reducible refine Below.alloc ?_ (by (first | assumption | omega | (simp; done) | (simp; omega))) _ | with_reducible refine below_set ?_ (by (first | assumption | omega | (simp; done) | (simp; omega))) _ _)) lt17).get8
              clear x11 src2 hbc r13 r16
              go_region_held3 (fun w' => (w'.cell? ⟨gx, 0, none⟩ = some (.slice A9 (pack r.p).length c9) ∧ w'.cell? ⟨gx, 1, none⟩ = some (.int .i64 (N : Int))) ∧ (w'.cell? ⟨gs, 0, none⟩ = some (.int .i64 (r.s.n : Int)) ∧ w'.cell? ⟨gs, 1, none⟩ = some (.int .i64 r.s.t) ∧ w'.cell? ⟨gs, 2, none⟩ = some (.int .i64 r.s.d) ∧ w'.cell? ⟨gs, 3, none⟩ = some (.int .u64 (r.s.v : Int)) ∧ w'.cell? ⟨gs, 4, none⟩ = some (.int .u64 (r.s.e : Int)) ∧ w'.cell? ⟨gs, 5, none⟩ = some (.int .u64 (r.s.x.prev : Int)) ∧ w'.cell? ⟨gs, 6, none⟩ = some (.int .i64 (r.s.x.lead : Int)) ∧ w'.cell? ⟨gs, 7, none⟩ = some (.int .i64 (r.s.x.len : Int))) ∧ (w'.cell? ⟨gt, 0, none⟩ = some (.int .i64 (r.s.n : Int)) ∧ w'.cell? ⟨gt, 1, none⟩ = some (.int .i64 r.s.t) ∧ w'.cell? ⟨gt, 2, none⟩ = some (.int .i64 r.s.d) ∧ w'.cell? ⟨gt, 3, none⟩ = some (.int .u64 (r.s.v : Int)) ∧ w'.cell? ⟨gt, 4, none⟩ = some (.int .u64 (r.s.e : Int)) ∧ w'.cell? ⟨gt, 5, none⟩ = some (.int .u64 (r.s.x.prev : Int)) ∧ w'.cell? ⟨gt, 6, none⟩ = some (.int .i64 (r.s.x.lead : Int)) ∧ w'.cell? ⟨gt, 7, none⟩ = some (.int .i64 (r.s.x.len : Int))))
                (with_reducible first | exact ⟨q0, q1, q2⟩ | exact ⟨(b13.belowB (by repeat (first | with_reducible exact Below.refl _ _ | with_reducible assumption | with_reducible refine Below.drew ?_ | with_reducible refine below_drewN ?_ _ | with_reducible refine Below.alloc ?_ (by (first | assumption | omega | (simp; done) | (simp; omega))) _ | with_reducible refine below_set ?_ (by (first | assumption | omega | (simp; done) | (simp; omega))) _ _)) lx).get2, (b14.belowB (by repeat (first | with_reducible exact Below.refl _ _ | with_reducible assumption | with_reducible refine Below.drew ?_ | with_reducible refine below_drewN ?_ _ | with_reducible refine Below.alloc ?_ (by (first | assumption | omega | (simp; done) | (simp; omega))) _ | with_reducible refine below_set ?_ (by (first | assumption | omega | (simp; done) | (simp; omega))) _ _)) ls).get8, (b17.belowB (by repeat (first | with_reducible exact Below.refl _ _ | with_reducible assumption | with_reducible refine Below.drew ?_ | with_reducible refine below_drewN ?_ _ | with_reducible refine Below.alloc ?_ (by (first | assumption | omega | (simp; done) | (simp; omega))) _ | with_reducible refine below_set ?_ (by (first | assumption | omega | (simp; done) | (simp; omega))) _ _)) lt17).get8⟩) (first
                | (go_at_call 8; (with_reducible refine (hCd _).mono ?_); rintro e w20 ⟨rfl, rfl⟩)
                | (go_at_call 9; (with_reducible refine (hIs _ (by repeat (first | with_reducible exact Below.refl _ _ | with_reducible assumption | with_reducible refine Below.drew ?_ | with_reducible refine below_drewN ?_ _ | with_reducible refine Below.alloc ?_ (by (first | assumption | omega | (simp; done) | (simp; omega))) _ | with_reducible refine below_set ?_ (by (first | assumption | omega | (simp; done) | (simp; omega))) _ _))).mono ?_); rintro e w21 ⟨rfl, HB⟩; have hb21 : Below wc.heap.size wc w21 := (Below.trans (by repeat (first | with_reducible exact Below.refl _ _ | with_reducible assumption | with_reducible refine Below.drew ?_ | with_reducible refine below_drewN ?_ _ | with_reducible refine Below.alloc ?_ (by (first | assumption | omega | (simp; done) | (simp; omega))) _ | with_reducible refine below_set ?_ (by (first | assumption | omega | (simp; done) | (simp; omega))) _ _)) (HB.mono (by first | exact Nat.le_refl _ | (simp; done) | (simp; omega)))); have hs21 := hb21.size; clear HB)
                | (go_at_call 10; (with_reducible refine (hSt _).mono ?_); rintro e w22 ⟨rfl, HB⟩; have hb22 : Below wc.heap.size wc w22 := (Below.trans (by repeat (first | with_reducible exact Below.refl _ _ | with_reducible assumption | with_reducible refine Below.drew ?_ | with_reducible refine below_drewN ?_ _ | with_reducible refine Below.alloc ?_ (by (first | assumption | omega | (simp; done) | (simp; omega))) _ | with_reducible refine below_set ?_ (by (first | assumption | omega | (simp; done) | (simp; omega))) _ _)) (HB.mono (by first | exact Nat.le_refl _ | (simp; done) | (simp; omega) | omega))); have hs22 := hb22.size; clear HB))
              all_goals
                clear q0 q1 q2 hCd hIs hSt b13 b14 b17
                go_wp2_with fail
                go_meet
                exact ⟨rfl, by repeat (first | with_reducible exact Below.refl _ _ | with_reducible assumption | with_reducible refine Below.drew ?_ | with_reducible refine below_drewN ?_ _ | with_reducible refine Below.alloc ?_ (by (first | assumption | omega | (simp; done) | (simp; omega))) _ | with_reducible refine below_set ?_ (by (first | assumption | omega | (simp; done) | (simp; omega))) _ _)⟩
            case rest => 
              obtain ⟨rfl, hbe⟩ := hcut
              clear hCd hIs hSt qs sg hne
              by_cases hz : r.e = 0
              · obtain ⟨k, rfl, hk, haf⟩ := HOK.out hz
                have hz1 : ((r.e : Int) != 0) = false := by simp [hz]
                have hAF := fun X => after_any k s t v r.s.x X hk (by omega)
                rw [haf] at hAF
                have HZ := Lib.hid hz
                clear haf hz HOK
                have qs := fun w => run_neq_kst w r.s
                have sg := kst_guard
                go_upto_region 14 with fail
                go_cut [95] (fun x95 wx => x95 = .bool false ∧ Below wc.heap.size wc wx)
                case first =>
                  -- DONE
                  have src3 := src2.below (hbe.mono hbc.size)
                  have src4 : SQ wc wc.heap.size g10 s (ad0.add (j * 2)) t v := ⟨src3.b, by have := hbe.size; have := hbc.size; omega, by have := hbe.size; have := hbc.size; omega, src3.c0, src3.c1⟩
                  have b14e := b14.belowB hbe ls
                  have ls4 := b14e.lt
                  have q0 := (src4.below (X' := wc.drew) (by repeat (first | with_reducible exact Below.refl _ _ | with_reducible assumption | with_reducible refine Below.drew ?_ | with_reducible refine below_drewN ?_ _ | with_reducible refine Below.alloc ?_ (by (first | assumption | omega | (simp; done) | (simp; omega))) _ | with_reducible refine below_set ?_ (by (first | assumption | omega | (simp; done) | (simp; omega))) _ _))).cells
                  have q1 := (b14e.belowB (w' := wc.drew) (by repeat (first | with_reducible exact Below.refl _ _ | with_reducible assumption | with_reducible refine Below.drew ?_ | with_reducible refine below_drewN ?_ _ | with_reducible refine Below.alloc ?_ (by (first | assumption | omega | (simp; done) | (simp; omega))) _ | with_reducible refine below_set ?_ (by (first | assumption | omega | (simp; done) | (simp; omega))) _ _)) ls4).get8
                  clear src2 src3 b13 b14 b17 x11 r13 r16 hbc
                  go_region_held3 (fun w' => ((w'.cell? ⟨g10, 0, none⟩ = some (.int .i64 (s.n : Int)) ∧ w'.cell? ⟨g10, 1, none⟩ = some (.int .i64 s.t) ∧ w'.cell? ⟨g10, 2, none⟩ = some (.int .i64 s.d) ∧ w'.cell? ⟨g10, 3, none⟩ = some (.int .u64 (s.v : Int)) ∧ w'.cell? ⟨g10, 4, none⟩ = some (.int .u64 (s.e : Int)) ∧ w'.cell? ⟨g10, 5, none⟩ = some (.int .u64 (s.x.prev : Int)) ∧ w'.cell? ⟨g10, 6, none⟩ = some (.int .i64 (s.x.lead : Int)) ∧ w'.cell? ⟨g10, 7, none⟩ = some (.int .i64 (s.x.len : Int))) ∧ w'.cell? (ad0.add (j * 2)) = some (.int .i64 t) ∧ w'.cell? ⟨(ad0.add (j * 2)).block, (ad0.add (j * 2)).off + 1, none⟩ = some (.int .u64 (v : Int))) ∧ (w'.cell? ⟨gs, 0, none⟩ = some (.int .i64 (r.s.n : Int)) ∧ w'.cell? ⟨gs, 1, none⟩ = some (.int .i64 r.s.t) ∧ w'.cell? ⟨gs, 2, none⟩ = some (.int .i64 r.s.d) ∧ w'.cell? ⟨gs, 3, none⟩ = some (.int .u64 (r.s.v : Int)) ∧ w'.cell? ⟨gs, 4, none⟩ = some (.int .u64 (r.s.e : Int)) ∧ w'.cell? ⟨gs, 5, none⟩ = some (.int .u64 (r.s.x.prev : Int)) ∧ w'.cell? ⟨gs, 6, none⟩ = some (.int .i64 (r.s.x.lead : Int)) ∧ w'.cell? ⟨gs, 7, none⟩ = some (.int .i64 (r.s.x.len : Int))))
                    (with_reducible first | exact ⟨q0, q1⟩ | exact ⟨(src4.below (by repeat (first | with_reducible exact Below.refl _ _ | with_reducible assumption | with_reducible refine Below.drew ?_ | with_reducible refine below_drewN ?_ _ | with_reducible refine Below.alloc ?_ (by (first | assumption | omega | (simp; done) | (simp; omega))) _ | with_reducible refine below_set ?_ (by (first | assumption | omega | (simp; done) | (simp; omega))) _ _))).cells, (b14e.belowB (by repeat (first | with_reducible exact Below.refl _ _ | with_reducible assumption | with_reducible refine Below.drew ?_ | with_reducible refine below_drewN ?_ _ | with_reducible refine Below.alloc ?_ (by (first | assumption | omega | (simp; done) | (simp; omega))) _ | with_reducible refine below_set ?_ (by (first | assumption | omega | (simp; done) | (simp; omega))) _ _)) ls4).get8⟩) (first
                    | (go_at_call 11; (with_reducible refine (hAF _).mono ?_); rintro e w22 ⟨rfl, HB⟩; have hb22 : Below wc.heap.size wc w22 := (Below.trans (by repeat (first | with_reducible exact Below.refl _ _ | with_reducible assumption | with_reducible refine Below.drew ?_ | with_reducible refine below_drewN ?_ _ | with_reducible refine Below.alloc ?_ (by (first | assumption | omega | (simp; done) | (simp; omega))) _ | with_reducible refine below_set ?_ (by (first | assumption | omega | (simp; done) | (simp; omega))) _ _)) (HB.mono (by first | exact Nat.le_refl _ | (simp; done) | (simp; omega) | omega))); have hs22 := hb22.size; clear HB))
                  all_goals
                    clear q0 q1 hAF src4 b14e
                    go_wp2_with fail
                    go_meet
                    exact ⟨rfl, by repeat (first | with_reducible exact Below.refl _ _ | with_reducible assumption | with_reducible refine Below.drew ?_ | with_reducible refine below_drewN ?_ _ | with_reducible refine Below.alloc ?_ (by (first | assumption | omega | (simp; done) | (simp; omega))) _ | with_reducible refine below_set ?_ (by (first | assumption | omega | (simp; done) | (simp; omega))) _ _)⟩
                case rest =>
                  obtain ⟨rfl, hbf⟩ := hcut
                  have b14f := (b14.belowB hbe ls).below hbf
                  have b17f := (b17.belowB hbe lt17).below hbf
                  have x10f := ((src2.below (hbe.mono hbc.size)).b).below hbf
                  have x11f := (x11.below hbe).below hbf
                  have hwe := hwr.trans (hbc.mono hwr.size)
                  replace hwe := hwe.trans (hbe.mono hwe.size)
                  replace hwe := hwe.trans (hbf.mono hwe.size)
                  have nx1 : g10 + 1 ≠ g10 := by omega
                  have nx2 : g10 ≠ g10 + 1 := by omega
                  have nx3 : gs ≠ g10 := by have := src2.hg; omega
                  have nx4 : gt ≠ g10 := by have := src2.hg; omega
                  have nx5 : gt ≠ g10 + 1 := by omega
                  have nx6 : gs ≠ g10 + 1 := by omega
                  clear src2 x11 b13 b14 b17 r13 r16 hAF
                  obtain ⟨d0, d1, d2, d3, d4, d5, d6, d7⟩ := b14f.get8
                  obtain ⟨e0, e1, e2, e3, e4, e5, e6, e7⟩ := b17f.get8
                  obtain ⟨f0, f1, f2, f3, f4, f5, f6, f7⟩ := x10f.get8
                  obtain ⟨ff0, ff1, ff2, ff3, ff4, ff5, ff6, ff7⟩ := x10f.free8
                  obtain ⟨g0, g1, g2, g3, g4, g5, g6, g7⟩ := x11f.get8
                  obtain ⟨gf0, gf1, gf2, gf3, gf4, gf5, gf6, gf7⟩ := x11f.free8
                  go_wp2_with fail
                  have y10 := (x10f.all8 (.int .i64 (r.s.n : Int)) (.int .i64 r.s.t) (.int .i64 r.s.d) (.int .u64 (r.s.v : Int)) (.int .u64 (r.s.e : Int)) (.int .u64 (r.s.x.prev : Int)) (.int .i64 (r.s.x.lead : Int)) (.int .i64 (r.s.x.len : Int))).oth8 nx2 (.int .i64 (r.s.n : Int)) (.int .i64 r.s.t) (.int .i64 r.s.d) (.int .u64 (r.s.v : Int)) (.int .u64 (r.s.e : Int)) (.int .u64 (r.s.x.prev : Int)) (.int .i64 (r.s.x.lead : Int)) (.int .i64 (r.s.x.len : Int))
                  have y11 := (x11f.oth8 nx1 (.int .i64 (r.s.n : Int)) (.int .i64 r.s.t) (.int .i64 r.s.d) (.int .u64 (r.s.v : Int)) (.int .u64 (r.s.e : Int)) (.int .u64 (r.s.x.prev : Int)) (.int .i64 (r.s.x.lead : Int)) (.int .i64 (r.s.x.len : Int))).all8 (.int .i64 (r.s.n : Int)) (.int .i64 r.s.t) (.int .i64 r.s.d) (.int .u64 (r.s.v : Int)) (.int .u64 (r.s.e : Int)) (.int .u64 (r.s.x.prev : Int)) (.int .i64 (r.s.x.lead : Int)) (.int .i64 (r.s.x.len : Int))
                  have hwf := below_set8 (below_set8 hwe hg10 (.int .i64 (r.s.n : Int)) (.int .i64 r.s.t) (.int .i64 r.s.d) (.int .u64 (r.s.v : Int)) (.int .u64 (r.s.e : Int)) (.int .u64 (r.s.x.prev : Int)) (.int .i64 (r.s.x.lead : Int)) (.int .i64 (r.s.x.len : Int))) (d := g10 + 1) (by omega) (.int .i64 (r.s.n : Int)) (.int .i64 r.s.t) (.int .i64 r.s.d) (.int .u64 (r.s.v : Int)) (.int .u64 (r.s.e : Int)) (.int .u64 (r.s.x.prev : Int)) (.int .i64 (r.s.x.lead : Int)) (.int .i64 (r.s.x.len : Int))
                  go_roundw
                  case rel => exact ⟨j + 1, r.s, by omega, by go_num, hrm.1, by omega, hwf, y10, y11⟩
                  case measure => simp [intOf]; omega
              · have hz1 : ((r.e : Int) != 0) = true := by simp [hz]
                have x10e := src2.b.belowB (hbe.mono hbc.size) src2.hg
                have x11e := x11.below hbe
                have hwe := hwr.trans (hbc.mono hwr.size)
                replace hwe := hwe.trans (hbe.mono hwe.size)
                go_wp2_with fail
                go_roundw
                case rel => exact ⟨j + 1, s, by omega, by go_num, hs, by omega, hwe, x10e, x11e⟩
                case measure => simp [intOf]; omega
      · obtain rfl : j = m1 := by omega
        go_wp2_with fail
        go_meet
        exact ⟨j, s, hm1, rfl, hs, hn, hwr, x10, x11⟩
  case rest =>
    obtain ⟨j0, s0, hj0, rfl, hs0, hn0, hwr0, y10, y11⟩ := hcut
    clear b10 b11 hw1 h1
    go_wp2_with fail
    refine (rest_far A2 m2 c2 bs a wc ((h2.below hwr0).more hwr0.size) hb2 (by omega) ha).mono ?_
    rintro e w2 ⟨A3, n3, c3, rfl, hr3, hb3, hf3⟩
    have hf4 : ∀ ad, A3 = some ad → g10 + 1 < ad.block := fun ad e => Nat.lt_of_lt_of_le y11.lt (hf3 ad e)
    clear hf3
    replace y10 := y10.below hb3
    replace y11 := y11.below hb3
    replace hwr0 := hwr0.trans (hb3.mono hwr0.size)
    clear hb3
    go_wp2_with fail
    go_loopw [20, 3, 19] (fun i x3 x19 wr => AtKG w bs g10 (g10 + 1) i x3 x19 wr) (fun i _ _ _ => 60 - (intOf i).toNat)
    case atStart => exact ⟨0, s0, a, A3, n3, c3, Nat.zero_le _, rfl, rfl, rfl, ha, hs0, by omega, hwr0, y10, y11, hr3, hf4⟩
    case round =>
      clear y10 y11 hwr0 hr3 ha hs0 hn0 hf4
      obtain ⟨j, s, a, A, n, c, hj, rfl, rfl, rfl, ha, hs, hn, hwr, x10, x11, hr, hfar⟩ := hrel
      have l10 := x11.lt
      by_cases hlt : j < 60
      · have hq : (restL bs a).length ≤ 4000 := by have := restL_le bs a; have := h2.len; omega
        have hnl : n = (restL bs a).length := by have := hr.len; rw [enc_length] at this; omega
        have hget := get_all z A2 m2 c2 w.heap.size bs a s wr (h2.below hwr) hwr.size hb2 (by omega) ha hs (by omega) (hR.bel hwr) (hT.bel hwr)
        obtain ⟨p, HP⟩ : ∃ p, Hid (restL bs a = p) := ⟨_, Lib.hid rfl⟩
        rw [HP.out] at hget hr hq hnl
        have HNL := Lib.hid hnl
        have hnl2 : n ≤ 4000 := by omega
        clear hnl
        obtain ⟨f0, f1, f2, f3, f4, f5, f6, f7⟩ := x10.get8
        have h2l : Hid (bs.length = m2) := Lib.hid h2.len
        clear hR hT h2
        go_wp2_with fail
        refine hget.mono ?_
        rintro e w3 ⟨r, hkg, rfl, hb3⟩
        obtain ⟨hrt, hrv, hrs, hrn, hre, hok⟩ := kg_in hs hkg
        obtain ⟨ev, HE⟩ : ∃ ev, Hid (errV r.e = ev) := ⟨_, Lib.hid rfl⟩
        rw [HE.out]
        clear hget f0 f1 f2 f3 f4 f5 f6 f7
        go_upto_region 23 with fail
        have b21 := (BoxL.new w3 [.int .i64 r.t, .int .u64 (r.v : Int)] 40).onA (.cells #[.int .i64 (r.s.n : Int), .int .i64 r.s.t, .int .i64 r.s.d, .int .u64 (r.s.v : Int), .int .u64 (r.s.e : Int), .int .u64 (r.s.x.prev : Int), .int .i64 (r.s.x.lead : Int), .int .i64 (r.s.x.len : Int)] 29)
        have b22 := BoxL.new (w3.alloc (.cells #[.int .i64 r.t, .int .u64 (r.v : Int)] 40)) [.int .i64 (r.s.n : Int), .int .i64 r.s.t, .int .i64 r.s.d, .int .u64 (r.s.v : Int), .int .u64 (r.s.e : Int), .int .u64 (r.s.x.prev : Int), .int .i64 (r.s.x.lead : Int), .int .i64 (r.s.x.len : Int)] 29
        simp only [World.size_alloc] at b22
        have hal : Below w3.heap.size w3 ((w3.alloc (.cells #[.int .i64 r.t, .int .u64 (r.v : Int)] 40)).alloc (.cells #[.int .i64 (r.s.n : Int), .int .i64 r.s.t, .int .i64 r.s.d, .int .u64 (r.s.v : Int), .int .u64 (r.s.e : Int), .int .u64 (r.s.x.prev : Int), .int .i64 (r.s.x.lead : Int), .int .i64 (r.s.x.len : Int)] 29)) := by repeat (first | with_reducible exact Below.refl _ _ | with_reducible assumption | with_reducible refine Below.drew ?_ | with_reducible refine below_drewN ?_ _ | with_reducible refine Below.alloc ?_ (by (first | assumption | omega | (simp; done) | (simp; omega))) _ | with_reducible refine below_set ?_ (by (first | assumption | omega | (simp; done) | (simp; omega))) _ _)
        have hgx : wr.heap.size ≤ w3.heap.size := hb3.size
        replace hb3 := hb3.trans (hal.mono hb3.size)
        clear hal
        generalize (w3.alloc (.cells #[.int .i64 r.t, .int .u64 (r.v : Int)] 40)).alloc (.cells #[.int .i64 (r.s.n : Int), .int .i64 r.s.t, .int .i64 r.s.d, .int .u64 (r.s.v : Int), .int .u64 (r.s.e : Int), .int .u64 (r.s.x.prev : Int), .int .i64 (r.s.x.lead : Int), .int .i64 (r.s.x.len : Int)] 29) = W at *
        generalize w3.heap.size = gx at *
        replace x10 := x10.below hb3
        replace x11 := x11.below hb3
        replace hr := (hr.below hb3).more hb3.size
        replace hwr := hwr.trans (hb3.mono hwr.size)
        clear hb3
        obtain ⟨f0, f1, f2, f3, f4, f5, f6, f7⟩ := x11.get8
        have hrget := rget_all8 z s A n c p W hs (by omega) hr (by omega)
        go_wp2_with fail
        refine hrget.mono ?_
        rintro e w5 ⟨r', hkg', rfl, hb5⟩
        obtain rfl := hkg.same hkg'
        clear hrget f0 f1 f2 f3 f4 f5 f6 f7 hkg hkg'
        go_upto_region 24 with fail
        have b25 := (BoxL.new w5 [.int .i64 r.t, .int .u64 (r.v : Int)] 40).onA (.cells #[.int .i64 (r.s.n : Int), .int .i64 r.s.t, .int .i64 r.s.d, .int .u64 (r.s.v : Int), .int .u64 (r.s.e : Int), .int .u64 (r.s.x.prev : Int), .int .i64 (r.s.x.lead : Int), .int .i64 (r.s.x.len : Int)] 32)
        have b26 := BoxL.new (w5.alloc (.cells #[.int .i64 r.t, .int .u64 (r.v : Int)] 40)) [.int .i64 (r.s.n : Int), .int .i64 r.s.t, .int .i64 r.s.d, .int .u64 (r.s.v : Int), .int .u64 (r.s.e : Int), .int .u64 (r.s.x.prev : Int), .int .i64 (r.s.x.lead : Int), .int .i64 (r.s.x.len : Int)] 32
        simp only [World.size_alloc] at b26
        have hal : Below w5.heap.size w5 ((w5.alloc (.cells #[.int .i64 r.t, .int .u64 (r.v : Int)] 40)).alloc (.cells #[.int .i64 (r.s.n : Int), .int .i64 r.s.t, .int .i64 r.s.d, .int .u64 (r.s.v : Int), .int .u64 (r.s.e : Int), .int .u64 (r.s.x.prev : Int), .int .i64 (r.s.x.lead : Int), .int .i64 (r.s.x.len : Int)] 32)) := by repeat (first | with_reducible exact Below.refl _ _ | with_reducible assumption | with_reducible refine Below.drew ?_ | with_reducible refine below_drewN ?_ _ | with_reducible refine Below.alloc ?_ (by (first | assumption | omega | (simp; done) | (simp; omega))) _ | with_reducible refine below_set ?_ (by (first | assumption | omega | (simp; done) | (simp; omega))) _ _)
        have hgy : W.heap.size ≤ w5.heap.size := hb5.size
        replace hb5 := hb5.trans (hal.mono hb5.size)
        clear hal
        generalize (w5.alloc (.cells #[.int .i64 r.t, .int .u64 (r.v : Int)] 40)).alloc (.cells #[.int .i64 (r.s.n : Int), .int .i64 r.s.t, .int .i64 r.s.d, .int .u64 (r.s.v : Int), .int .u64 (r.s.e : Int), .int .u64 (r.s.x.prev : Int), .int .i64 (r.s.x.lead : Int), .int .i64 (r.s.x.len : Int)] 32) = V at *
        generalize w5.heap.size = gy at *
        have lW : gx + 1 < W.heap.size := b22.lt
        replace x10 := x10.below hb5
        replace x11 := x11.below hb5
        replace b21 := b21.below hb5
        replace b22 := b22.below hb5
        replace hr := (hr.below hb5).more hb5.size
        replace hwr := hwr.trans (hb5.mono hwr.size)
        clear hb5
        have hCd := fun X => code_any r.e X (by omega)
        rw [HE.out] at hCd
        have hSt := fun X => lawstate_any r.s X
        have qs := fun w => run_neq_rst w r.s
        have sg := rst_guard
        have qm := fun w => run_neq_smp w r.t (r.v : Int)
        have mg := smp_guard
        have hne : ((r.e : Int) != (r.e : Int)) = false := by simp
        have hnn : ((r.n : Int) != (r.n : Int)) = false := by simp
        have lx := b21.lt
        have ls := b22.lt
        have ly := b25.lt
        have lt := b26.lt
        go_cut [143] (fun x143 wx => x143 = .bool false ∧ Below V.heap.size V wx)
        case first =>
          -- DONE
          have q0 := (b21.belowB (w' := V.drew) (by repeat (first | with_reducible exact Below.refl _ _ | with_reducible assumption | with_reducible refine Below.drew ?_ | with_reducible refine below_drewN ?_ _ | with_reducible refine Below.alloc ?_ (by (first | assumption | omega | (simp; done) | (simp; omega))) _ | with_reducible refine below_set ?_ (by (first | assumption | omega | (simp; done) | (simp; omega))) _ _)) lx).get2
          have q1 := (b22.belowB (w' := V.drew) (by repeat (first | with_reducible exact Below.refl _ _ | with_reducible assumption | with_reducible refine Below.drew ?_ | with_reducible refine below_drewN ?_ _ | with_reducible refine Below.alloc ?_ (by (first | assumption | omega | (simp; done) | (simp; omega))) _ | with_reducible refine below_set ?_ (by (first | assumption | omega | (simp; done) | (simp; omega))) _ _)) ls).get8
          have q2 := (b25.belowB (w' := V.drew) (by repeat (first | with_reducible exact Below.refl _ _ | with_reducible assumption | with_reducible refine Below.drew ?_ | with_reducible refine below_drewN ?_ _ | with_reducible refine Below.alloc ?_ (by (first | assumption | omega | (simp; done) | (simp; omega))) _ | with_reducible refine below_set ?_ (by (first | assumption | omega | (simp; done) | (simp; omega))) _ _)) ly).get2
          have q3 := (b26.belowB (w' := V.drew) (by repeat (first | with_reducible exact Below.refl _ _ | with_reducible assumption | with_reducible refine Below.drew ?_ | with_reducible refine below_drewN ?_ _ | with_reducible refine Below.alloc ?_ (by (first | assumption | omega | (simp; done) | (simp; omega))) _ | with_reducible refine below_set ?_ (by (first | assumption | omega | (simp; done) | (simp; omega))) _ _)) lt).get8
          clear x10 x11 hr hwr
          go_region_held3 (fun w' => (w'.cell? ⟨gx, 0, none⟩ = some (.int .i64 r.t) ∧ w'.cell? ⟨gx, 1, none⟩ = some (.int .u64 (r.v : Int))) ∧ (w'.cell? ⟨gx + 1, 0, none⟩ = some (.int .i64 (r.s.n : Int)) ∧ w'.cell? ⟨gx + 1, 1, none⟩ = some (.int .i64 r.s.t) ∧ w'.cell? ⟨gx + 1, 2, none⟩ = some (.int .i64 r.s.d) ∧ w'.cell? ⟨gx + 1, 3, none⟩ = some (.int .u64 (r.s.v : Int)) ∧ w'.cell? ⟨gx + 1, 4, none⟩ = some (.int .u64 (r.s.e : Int)) ∧ w'.cell? ⟨gx + 1, 5, none⟩ = some (.int .u64 (r.s.x.prev : Int)) ∧ w'.cell? ⟨gx + 1, 6, none⟩ = some (.int .i64 (r.s.x.lead : Int)) ∧ w'.cell? ⟨gx + 1, 7, none⟩ = some (.int .i64 (r.s.x.len : Int))) ∧ (w'.cell? ⟨gy, 0, none⟩ = some (.int .i64 r.t) ∧ w'.cell? ⟨gy, 1, none⟩ = some (.int .u64 (r.v : Int))) ∧ (w'.cell? ⟨gy + 1, 0, none⟩ = some (.int .i64 (r.s.n : Int)) ∧ w'.cell? ⟨gy + 1, 1, none⟩ = some (.int .i64 r.s.t) ∧ w'.cell? ⟨gy + 1, 2, none⟩ = some (.int .i64 r.s.d) ∧ w'.cell? ⟨gy + 1, 3, none⟩ = some (.int .u64 (r.s.v : Int)) ∧ w'.cell? ⟨gy + 1, 4, none⟩ = some (.int .u64 (r.s.e : Int)) ∧ w'.cell? ⟨gy + 1, 5, none⟩ = some (.int .u64 (r.s.x.prev : Int)) ∧ w'.cell? ⟨gy + 1, 6, none⟩ = some (.int .i64 (r.s.x.lead : Int)) ∧ w'.cell? ⟨gy + 1, 7, none⟩ = some (.int .i64 (r.s.x.len : Int))))
            (with_reducible first | exact ⟨q0, q1, q2, q3⟩ | exact ⟨(b21.belowB (by repeat (first | with_reducible exact Below.refl _ _ | with_reducible assumption | with_reducible refine Below.drew ?_ | with_reducible refine below_drewN ?_ _ | with_reducible refine Below.alloc ?_ (by (first | assumption | omega | (simp; done) | (simp; omega))) _ | with_reducible refine below_set ?_ (by (first | assumption | omega | (simp; done) | (simp; omega))) _ _)) lx).get2, (b22.belowB (by repeat (first | with_reducible exact Below.refl _ _ | with_reducible assumption | with_reducible refine Below.drew ?_ | with_reducible refine below_drewN ?_ _ | with_reducible refine Below.alloc ?_ (by (first | assumption | omega | (simp; done) | (simp; omega))) _ | with_reducible refine below_set ?_ (by (first | assumption | omega | (simp; done) | (simp; omega))) _ _)) ls).get8, (b25.belowB (by repeat (first | with_reducible exact Below.refl _ _ | with_reducible assumption | with_reducible refine Below.drew ?_ | with_reducible refine below_drewN ?_ _ | with_reducible refine Below.alloc ?_ (by (first | assumption | omega | (simp; done) | (simp; omega))) _ | with_reducible refine below_set ?_ (by (first | assumption | omega | (simp; done) | (simp; omega))) _ _)) ly).get2, (b26.belowB (by repeat (first | with_reducible exact Below.refl _ _ | with_reducible assumption | with_reducible refine Below.drew ?_ | with_reducible refine below_drewN ?_ _ | with_reducible refine Below.alloc ?_ (by (first | assumption | omega | (simp; done) | (simp; omega))) _ | with_reducible refine below_set ?_ (by (first | assumption | omega | (simp; done) | (simp; omega))) _ _)) lt).get8⟩) (first
            | (go_at_call 8; (with_reducible refine (hCd _).mono ?_); rintro e w20 ⟨rfl, rfl⟩)
            | (go_at_call 10; (with_reducible refine (hSt _).mono ?_); rintro e w22 ⟨rfl, HB⟩; have hb22 : Below V.heap.size V w22 := (Below.trans (by repeat (first | with_reducible exact Below.refl _ _ | with_reducible assumption | with_reducible refine Below.drew ?_ | with_reducible refine below_drewN ?_ _ | with_reducible refine Below.alloc ?_ (by (first | assumption | omega | (simp; done) | (simp; omega))) _ | with_reducible refine below_set ?_ (by (first | assumption | omega | (simp; done) | (simp; omega))) _ _)) (HB.mono (by first | exact Nat.le_refl _ | (simp; done) | (simp; omega) | omega))); have hs22 := hb22.size; clear HB))
          all_goals
            clear q0 q1 q2 q3 hCd hSt b21 b22 b25 b26
            go_wp2_with fail
            go_meet
            exact ⟨rfl, by repeat (first | with_reducible exact Below.refl _ _ | with_reducible assumption | with_reducible refine Below.drew ?_ | with_reducible refine below_drewN ?_ _ | with_reducible refine Below.alloc ?_ (by (first | assumption | omega | (simp; done) | (simp; omega))) _ | with_reducible refine below_set ?_ (by (first | assumption | omega | (simp; done) | (simp; omega))) _ _)⟩
        case rest =>
          obtain ⟨rfl, hbe⟩ := hcut
          clear hCd hSt qs sg qm mg hne hnn
          replace hwr := hwr.trans (hbe.mono hwr.size)
          by_cases hz : r.e = 0
          · obtain ⟨hk1, hk2, hk3⟩ := hok hz
            clear hok
            have hmo := rest_more (bs := bs) (a := a) (n := r.n) (by omega) (by rw [HP.out]; exact hk1)
            rw [HP.out] at hmo
            obtain ⟨hm3, hm4, hm5⟩ := hmo
            have hl2 := h2l.out
            have hz1 : ((r.e : Int) != 0) = false := by simp [hz]
            replace x10 := x10.below hbe
            replace x11 := x11.below hbe
            replace b22 := b22.below hbe
            replace b26 := b26.below hbe
            replace hr := (hr.below hbe).more hbe.size
            have hkn : r.n ≤ n := by have := HNL.out; omega
            have hkc : n ≤ c := hr.cap
            have nx1 : g10 + 1 ≠ g10 := by omega
            have nx2 : g10 ≠ g10 + 1 := by omega
            have nx3 : gx + 1 ≠ g10 := by omega
            have nx4 : gy + 1 ≠ g10 := by omega
            have nx5 : gy + 1 ≠ g10 + 1 := by omega
            have nx6 : gx + 1 ≠ g10 + 1 := by omega
            obtain ⟨d0, d1, d2, d3, d4, d5, d6, d7⟩ := b22.get8
            obtain ⟨e0, e1, e2, e3, e4, e5, e6, e7⟩ := b26.get8
            obtain ⟨f0, f1, f2, f3, f4, f5, f6, f7⟩ := x10.get8
            obtain ⟨ff0, ff1, ff2, ff3, ff4, ff5, ff6, ff7⟩ := x10.free8
            obtain ⟨g0, g1, g2, g3, g4, g5, g6, g7⟩ := x11.get8
            obtain ⟨gf0, gf1, gf2, gf3, gf4, gf5, gf6, gf7⟩ := x11.free8
            have hsum : -9223372036854775808 ≤ a + (r.n : Int) ∧ a + (r.n : Int) ≤ 9223372036854775807 := by omega
            have HK2 := Lib.hid hk2
            clear hk1 hm4 hk2
            go_wp2_with fail
            have z10 := (x10.all8 (.int .i64 (r.s.n : Int)) (.int .i64 r.s.t) (.int .i64 r.s.d) (.int .u64 (r.s.v : Int)) (.int .u64 (r.s.e : Int)) (.int .u64 (r.s.x.prev : Int)) (.int .i64 (r.s.x.lead : Int)) (.int .i64 (r.s.x.len : Int))).oth8 nx2 (.int .i64 (r.s.n : Int)) (.int .i64 r.s.t) (.int .i64 r.s.d) (.int .u64 (r.s.v : Int)) (.int .u64 (r.s.e : Int)) (.int .u64 (r.s.x.prev : Int)) (.int .i64 (r.s.x.lead : Int)) (.int .i64 (r.s.x.len : Int))
            have z11 := (x11.oth8 nx1 (.int .i64 (r.s.n : Int)) (.int .i64 r.s.t) (.int .i64 r.s.d) (.int .u64 (r.s.v : Int)) (.int .u64 (r.s.e : Int)) (.int .u64 (r.s.x.prev : Int)) (.int .i64 (r.s.x.lead : Int)) (.int .i64 (r.s.x.len : Int))).all8 (.int .i64 (r.s.n : Int)) (.int .i64 r.s.t) (.int .i64 r.s.d) (.int .u64 (r.s.v : Int)) (.int .u64 (r.s.e : Int)) (.int .u64 (r.s.x.prev : Int)) (.int .i64 (r.s.x.lead : Int)) (.int .i64 (r.s.x.len : Int))
            have hwf := below_set8 (below_set8 hwr hg10 (.int .i64 (r.s.n : Int)) (.int .i64 r.s.t) (.int .i64 r.s.d) (.int .u64 (r.s.v : Int)) (.int .u64 (r.s.e : Int)) (.int .u64 (r.s.x.prev : Int)) (.int .i64 (r.s.x.lead : Int)) (.int .i64 (r.s.x.len : Int))) (d := g10 + 1) (by omega) (.int .i64 (r.s.n : Int)) (.int .i64 r.s.t) (.int .i64 r.s.d) (.int .u64 (r.s.v : Int)) (.int .u64 (r.s.e : Int)) (.int .u64 (r.s.x.prev : Int)) (.int .i64 (r.s.x.lead : Int)) (.int .i64 (r.s.x.len : Int))
            have hrf := (hr.setFar8 (g := g10) (fun ad e => by have := hfar ad e; omega) (.int .i64 (r.s.n : Int)) (.int .i64 r.s.t) (.int .i64 r.s.d) (.int .u64 (r.s.v : Int)) (.int .u64 (r.s.e : Int)) (.int .u64 (r.s.x.prev : Int)) (.int .i64 (r.s.x.lead : Int)) (.int .i64 (r.s.x.len : Int))).setFar8 hfar (.int .i64 (r.s.n : Int)) (.int .i64 r.s.t) (.int .i64 r.s.d) (.int .u64 (r.s.v : Int)) (.int .u64 (r.s.e : Int)) (.int .u64 (r.s.x.prev : Int)) (.int .i64 (r.s.x.lead : Int)) (.int .i64 (r.s.x.len : Int))
            replace hrf := hrf.more (B' := wc.heap.size) (Nat.le_refl _)
            have hk2 := HK2.out
            clear hr x10 x11 b22 b26 d0 d1 d2 d3 d4 d5 d6 d7 e0 e1 e2 e3 e4 e5 e6 e7 f0 f1 f2 f3 f4 f5 f6 f7 ff0 ff1 ff2 ff3 ff4 ff5 ff6 ff7 g0 g1 g2 g3 g4 g5 g6 g7 gf0 gf1 gf2 gf3 gf4 gf5 gf6 gf7
            have hfr : Rd (((((((((((((((((wc.setCell ⟨g10, 0, none⟩ (.int .i64 (r.s.n : Int))).setCell ⟨g10, 1, none⟩ (.int .i64 r.s.t)).setCell ⟨g10, 2, none⟩ (.int .i64 r.s.d)).setCell ⟨g10, 3, none⟩ (.int .u64 (r.s.v : Int))).setCell ⟨g10, 4, none⟩ (.int .u64 (r.s.e : Int))).setCell ⟨g10, 5, none⟩ (.int .u64 (r.s.x.prev : Int))).setCell ⟨g10, 6, none⟩ (.int .i64 (r.s.x.lead : Int))).setCell ⟨g10, 7, none⟩ (.int .i64 (r.s.x.len : Int))).setCell ⟨g10 + 1, 0, none⟩ (.int .i64 (r.s.n : Int))).setCell ⟨g10 + 1, 1, none⟩ (.int .i64 r.s.t)).setCell ⟨g10 + 1, 2, none⟩ (.int .i64 r.s.d)).setCell ⟨g10 + 1, 3, none⟩ (.int .u64 (r.s.v : Int))).setCell ⟨g10 + 1, 4, none⟩ (.int .u64 (r.s.e : Int))).setCell ⟨g10 + 1, 5, none⟩ (.int .u64 (r.s.x.prev : Int))).setCell ⟨g10 + 1, 6, none⟩ (.int .i64 (r.s.x.lead : Int))).setCell ⟨g10 + 1, 7, none⟩ (.int .i64 (r.s.x.len : Int)))) wc.heap.size (if c = r.n then A else A.map (fun x => x.add r.n)) (n - r.n) (c - r.n) (enc (p.drop r.n)) ∧ ∀ ad, (if c = r.n then A else A.map (fun x => x.add r.n)) = some ad → g10 + 1 < ad.block := by
              rw [← enc_drop]
              by_cases hc : c = r.n
              · rw [if_pos hc]
                subst hc
                have := hrf.tailEnd hkn
                rw [Nat.sub_self]
                exact ⟨this, hfar⟩
              · rw [if_neg hc]
                exact ⟨hrf.tail hkn, far_add (B := g10 + 2) hfar⟩
            rw [← hm5] at hfr
            go_roundw
            case rel => exact ⟨j + 1, r.s, a + (r.n : Int), _, _, _, by omega, by go_num, rfl, rfl, hsum, hrs, by omega, hwf, z10, z11, hfr.1.more (by simp), hfr.2⟩
            case measure => simp [intOf]; omega
          · have hz1 : ((r.e : Int) != 0) = true := by simp [hz]
            go_wp2_with fail
            go_ret
            exact ⟨rfl, hwr⟩
      · go_wp2_with fail
        go_ret
        exact ⟨rfl, hwr⟩

end Go.Proofs.YtcnhoohcdkfgkaaDoor
