/-
  Texts of this proof, one behind the other: BatNext, BatMem, QuickDec.
-/
import Derived.Test.YtaebljoacffghaaGreatDoorBatB
import Derived.Test.YtaebljoacffghaaGreatDoorWords
import Derived.Test.YtaebljoacffghaaGreatDoorFillA
import Derived.Test.YtaebljoacffghaaGreatDoorBatA
import Derived.Deep.CutBlock

/-
  The contract of layer 11's Next.
-/
namespace Go.Proofs.YtaebljoacffghaaGreatDoor
open Go.RowKit

/-- the world without its blocks -/
def bare (w : World) : World := { w with heap := #[] }
section
variable {w w1 w2 : World} {g B : Nat} {v : Value} {xs : List (Int × Nat)}
theorem bare_size (w : World) : (bare w).heap.size = 0 := rfl
theorem bare_below {row : Option Nat} (h : w.grownBy w1 row) : Below (bare w).heap.size (bare w) w1 := ⟨h.os, h.tape, h.output, Nat.zero_le _, fun k hk => absurd hk (Nat.not_lt_zero k)⟩
/-- samples of the call's own, where a block ahead of them has turned -/
theorem MidQ.went (h : MidQ (bare w) B w1 v xs) (hg : w1.grownBy w2 (some g)) (hgB : g < B) : MidQ (bare w) B w2 v xs :=
  ⟨h.row.kept hg (.inr fun e => by have := (h.row.lt g e).1; omega), ⟨hg.os.trans h.bel.os, hg.tape.trans h.bel.tape, hg.output.trans h.bel.output, Nat.zero_le _, fun k hk => absurd hk (Nat.not_lt_zero k)⟩, h.le, h.fit⟩
theorem MidQ.block {A : Option Addr} {n c : Nat} {w0 : World} (h : MidQ w0 B w1 (.slice A n c) xs) : ∀ ad, A = some ad → B ≤ ad.block := by
  intro ad e
  subst e
  rcases h.row.2 with ⟨h1, _⟩ | ⟨g, cap, cur, hv, hg, _⟩
  · cases h1
  · injection hv with e1 e2 e3
    injection e1 with e1
    subst e1
    exact hg
end
theorem Wt.belowB {w w1 w2 : World} {g m c a B : Nat} {A : Option Addr} {bs : List Nat} (h : Wt w g A m c bs a w1) (hb : Below B w1 w2) (hB : w.heap.size ≤ B) (hg : g < w.heap.size) : Wt w g A m c bs a w2 :=
  ⟨h.1.keep fun k hk => hb.block k (by omega), ⟨hb.os.trans h.2.os, hb.tape.trans h.2.tape, hb.output.trans h.2.output, Nat.le_trans h.2.size hb.size, fun i hi hne => (hb.block i (by omega)).trans (h.2.block i hi hne)⟩⟩
theorem Wt.put8 {w w1 : World} {g m c a : Nat} {A : Option Addr} {bs : List Nat} (h : Wt w g A m c bs a w1) (hg : g < w.heap.size) {d : Nat} (hd : w.heap.size ≤ d) (u0 u1 u2 u3 u4 u5 u6 u7 : Value) : Wt w g A m c bs a ((((((((w1.setCell ⟨d, 0, none⟩ (u0)).setCell ⟨d, 1, none⟩ (u1)).setCell ⟨d, 2, none⟩ (u2)).setCell ⟨d, 3, none⟩ (u3)).setCell ⟨d, 4, none⟩ (u4)).setCell ⟨d, 5, none⟩ (u5)).setCell ⟨d, 6, none⟩ (u6)).setCell ⟨d, 7, none⟩ (u7)) :=
  (((((((h.put hg hd 0 u0).put hg hd 1 u1).put hg hd 2 u2).put hg hd 3 u3).put hg hd 4 u4).put hg hd 5 u5).put hg hd 6 u6).put hg hd 7 u7

/-- the two boxes at the head of Next -/
theorem next_boxes (w : World) (s : KS) : Below w.heap.size w ((w.alloc (.cells #[.int .i64 (s.n : Int), .int .i64 s.t, .int .i64 s.d, .int .u64 (s.v : Int), .int .u64 (s.e : Int), .int .u64 (s.x.prev : Int), .int .i64 (s.x.lead : Int), .int .i64 (s.x.len : Int)] 151)).alloc (.cells #[.int .i64 0, .int .i64 0, .int .i64 0, .int .u64 0, .int .u64 0, .int .u64 0, .int .i64 0, .int .i64 0] 151)) ∧
    BoxL ((w.alloc (.cells #[.int .i64 (s.n : Int), .int .i64 s.t, .int .i64 s.d, .int .u64 (s.v : Int), .int .u64 (s.e : Int), .int .u64 (s.x.prev : Int), .int .i64 (s.x.lead : Int), .int .i64 (s.x.len : Int)] 151)).alloc (.cells #[.int .i64 0, .int .i64 0, .int .i64 0, .int .u64 0, .int .u64 0, .int .u64 0, .int .i64 0, .int .i64 0] 151)) w.heap.size [.int .i64 (s.n : Int), .int .i64 s.t, .int .i64 s.d, .int .u64 (s.v : Int), .int .u64 (s.e : Int), .int .u64 (s.x.prev : Int), .int .i64 (s.x.lead : Int), .int .i64 (s.x.len : Int)] ∧
    BoxL ((w.alloc (.cells #[.int .i64 (s.n : Int), .int .i64 s.t, .int .i64 s.d, .int .u64 (s.v : Int), .int .u64 (s.e : Int), .int .u64 (s.x.prev : Int), .int .i64 (s.x.lead : Int), .int .i64 (s.x.len : Int)] 151)).alloc (.cells #[.int .i64 0, .int .i64 0, .int .i64 0, .int .u64 0, .int .u64 0, .int .u64 0, .int .i64 0, .int .i64 0] 151)) (w.heap.size + 1) [.int .i64 0, .int .i64 0, .int .i64 0, .int .u64 0, .int .u64 0, .int .u64 0, .int .i64 0, .int .i64 0] := by
  have h2 := BoxL.new (w.alloc (.cells #[.int .i64 (s.n : Int), .int .i64 s.t, .int .i64 s.d, .int .u64 (s.v : Int), .int .u64 (s.e : Int), .int .u64 (s.x.prev : Int), .int .i64 (s.x.lead : Int), .int .i64 (s.x.len : Int)] 151)) [.int .i64 0, .int .i64 0, .int .i64 0, .int .u64 0, .int .u64 0, .int .u64 0, .int .i64 0, .int .i64 0] 151
  simp only [World.size_alloc] at h2
  exact ⟨by repeat (first | with_reducible exact Below.refl _ _ | assumption | with_reducible refine Below.drew ?_ | with_reducible refine Below.alloc ?_ (by (first | assumption | omega | (simp; done) | (simp; omega))) _), (BoxL.new w [.int .i64 (s.n : Int), .int .i64 s.t, .int .i64 s.d, .int .u64 (s.v : Int), .int .u64 (s.e : Int), .int .u64 (s.x.prev : Int), .int .i64 (s.x.lead : Int), .int .i64 (s.x.len : Int)] 151).onA _, h2⟩
set_option maxRecDepth 20000 in
set_option maxHeartbeats 1000000 in
theorem bnext_kind (g : Nat) (A : Option Addr) (m c : Nat) (bs : List Nat) (a : Nat) (z n : Int) (s : KS) (w : World) (h : Rdr w g A m c bs a) (hz1 : z ≠ 1) (hz2 : z ≠ 2) :
    Calls Tryz.prog 106 #[.int .i64 z, .pointer (some ⟨g, 0, none⟩), (.agg #[.int .i64 (s.n : Int), .int .i64 s.t, .int .i64 s.d, .int .u64 (s.v : Int), .int .u64 (s.e : Int), .int .u64 (s.x.prev : Int), .int .i64 (s.x.lead : Int), .int .i64 (s.x.len : Int)]), .int .i64 n] w (RetNX w g A m c bs a z n s) := by
  have hg := h.lt
  obtain ⟨hV, x6, x9⟩ := next_boxes w s
  have hW := (Wt.of h).below hV
  have HB : Hid (BatA z n s ((flat bs).drop a) [] s [] 6) := Lib.hid (.inl ⟨⟨hz1, hz2⟩, rfl, rfl, rfl⟩)
  have h1 : (z != 1) = true := by simpa using hz1
  have h2 : (z != 2) = true := by simpa using hz2
  clear h hz1 hz2
  go_enter Tryz.func106, Tryz.ntmps106
  go_upto_region 2 with fail
  generalize (w.alloc (.cells #[.int .i64 (s.n : Int), .int .i64 s.t, .int .i64 s.d, .int .u64 (s.v : Int), .int .u64 (s.e : Int), .int .u64 (s.x.prev : Int), .int .i64 (s.x.lead : Int), .int .i64 (s.x.len : Int)] 151)).alloc (.cells #[.int .i64 0, .int .i64 0, .int .i64 0, .int .u64 0, .int .u64 0, .int .u64 0, .int .i64 0, .int .i64 0] 151) = w1 at *
  clear hV
  have z9 := (x9.all8 (.int .i64 (s.n : Int)) (.int .i64 s.t) (.int .i64 s.d) (.int .u64 (s.v : Int)) (.int .u64 (s.e : Int)) (.int .u64 (s.x.prev : Int)) (.int .i64 (s.x.lead : Int)) (.int .i64 (s.x.len : Int))).drew
  have hZ := (hW.put8 hg (d := w.heap.size + 1) (by omega) (.int .i64 (s.n : Int)) (.int .i64 s.t) (.int .i64 s.d) (.int .u64 (s.v : Int)) (.int .u64 (s.e : Int)) (.int .u64 (s.x.prev : Int)) (.int .i64 (s.x.lead : Int)) (.int .i64 (s.x.len : Int))).below ((Below.refl _ _).drew)
  obtain ⟨q0, q1, q2, q3, q4, q5, q6, q7⟩ := x6.get8
  obtain ⟨i0, i1, i2, i3, i4, i5, i6, i7⟩ := x6.drew.get8
  obtain ⟨y0, y1, y2, y3, y4, y5, y6, y7⟩ := x9.get8
  obtain ⟨f0, f1, f2, f3, f4, f5, f6, f7⟩ := x9.free8
  have x9d := x9.drew
  obtain ⟨j0, j1, j2, j3, j4, j5, j6, j7⟩ := x9d.get8
  obtain ⟨e0, e1, e2, e3, e4, e5, e6, e7⟩ := x9d.free8
  clear x6 x9 hW x9d
  go_region
  clear q0 q1 q2 q3 q4 q5 q6 q7 i0 i1 i2 i3 i4 i5 i6 i7 y0 y1 y2 y3 y4 y5 y6 y7 f0 f1 f2 f3 f4 f5 f6 f7 j0 j1 j2 j3 j4 j5 j6 j7 e0 e1 e2 e3 e4 e5 e6 e7
  generalize ((((((((w1.setCell ⟨w.heap.size + 1, 0, none⟩ (.int .i64 (s.n : Int))).setCell ⟨w.heap.size + 1, 1, none⟩ (.int .i64 s.t)).setCell ⟨w.heap.size + 1, 2, none⟩ (.int .i64 s.d)).setCell ⟨w.heap.size + 1, 3, none⟩ (.int .u64 (s.v : Int))).setCell ⟨w.heap.size + 1, 4, none⟩ (.int .u64 (s.e : Int))).setCell ⟨w.heap.size + 1, 5, none⟩ (.int .u64 (s.x.prev : Int))).setCell ⟨w.heap.size + 1, 6, none⟩ (.int .i64 (s.x.lead : Int))).setCell ⟨w.heap.size + 1, 7, none⟩ (.int .i64 (s.x.len : Int))).drew = Z at *
  obtain ⟨u0, u1, u2, u3, u4, u5, u6, u7⟩ := z9.get8
  go_wp2
  refine bodyPost_ret (v := .tuple #[.slice none 0 0, (.agg #[.int .i64 (s.n : Int), .int .i64 s.t, .int .i64 s.d, .int .u64 (s.v : Int), .int .u64 (s.e : Int), .int .u64 (s.x.prev : Int), .int .i64 (s.x.lead : Int), .int .i64 (s.x.len : Int)]), .iface 59 (.int .i64 6)]) ?_ rfl ⟨[], s, [], 6, none, 0, a, HB.out, rfl, ⟨rfl, Nat.le_refl _, fun _ => rfl, fun h => absurd h (by simp), by simp⟩, fun _ e => (by cases e), hZ.1, fun e => (by cases e), hZ.2⟩
  simp [results, Tryz.results106, go_sem, u0, u1, u2, u3, u4, u5, u6, u7]

/-- behind some samples: these, where the reader stands, the state in a box -/
def AtNX (w : World) (g : Nat) (A : Option Addr) (m c : Nat) (bs : List Nat) (a : Nat) (z : Int) (N : Nat) (s0 : KS) (l i : Value) (wr : World) : Prop :=
  ∃ (j a' : Nat) (xs : List (Int × Nat)) (s : KS), j ≤ N ∧ i = .int .i64 ((j : Nat) : Int) ∧ GoneB z s0 ((flat bs).drop a) N xs (N - j) s ((flat bs).drop a') ∧ xs.length = j ∧ s.May ∧ s.n = s0.n + j ∧
    MidQ (bare w) (w.heap.size + 1 + 1) wr l xs ∧ BoxL wr w.heap.size [.int .i64 (s.n : Int), .int .i64 s.t, .int .i64 s.d, .int .u64 (s.v : Int), .int .u64 (s.e : Int), .int .u64 (s.x.prev : Int), .int .i64 (s.x.lead : Int), .int .i64 (s.x.len : Int)] ∧ BoxL wr (w.heap.size + 1) [.int .i64 0, .int .i64 0, .int .i64 0, .int .u64 0, .int .u64 0, .int .u64 0, .int .i64 0, .int .i64 0] ∧ Wt w g A m c bs a' wr
set_option maxRecDepth 20000 in
set_option maxHeartbeats 8000000 in
theorem bnext_in (z : Int) (k : Nat) (hk : z = (k : Int) ∧ (k = 1 ∨ k = 2)) (g : Nat) (A : Option Addr) (m c : Nat) (bs : List Nat) (a : Nat) (n : Int) (s0 : KS) (w : World) (h : Rdr w g A m c bs a) (hl : TabsLt g) (hT : TabsW w) (hs : s0.May) (hsn : s0.n ≤ 900000) :
    Calls Tryz.prog 106 #[.int .i64 z, .pointer (some ⟨g, 0, none⟩), (.agg #[.int .i64 (s0.n : Int), .int .i64 s0.t, .int .i64 s0.d, .int .u64 (s0.v : Int), .int .u64 (s0.e : Int), .int .u64 (s0.x.prev : Int), .int .i64 (s0.x.lead : Int), .int .i64 (s0.x.len : Int)]), .int .i64 n] w (RetNX w g A m c bs a z n s0) := by
  have hg := h.lt
  obtain ⟨hV, x6, x9⟩ := next_boxes w s0
  have hW := (Wt.of h).below hV
  obtain ⟨N, HN⟩ : ∃ N, Hid ((min n 32).toNat = N) := ⟨_, Lib.hid rfl⟩
  obtain ⟨M, HM⟩ : ∃ M, Hid (min n 32 = M) := ⟨_, Lib.hid rfl⟩
  have hm := bare_below (w := w) (grown_below hV (some g))
  have HMin : Hid ((if (32 : Int) < n then 32 else n) = M) := Lib.hid (by rw [← HM.out]; omega)
  have HMN : Hid (M.toNat = N) := Lib.hid (by rw [← HM.out, HN.out])
  have hM32 : M ≤ 32 := by rw [← HM.out]; omega
  have hlen := h.len
  have HL : Hid (∀ a', a' ≤ 8 * m → restL bs (a' : Nat) = (flat bs).drop a') := Lib.hid fun a' ha => restL_yes (by omega)
  have HK := Lib.hid hk
  have hz : z = 1 ∨ z = 2 := by omega
  have HBA : Hid (∀ xs s p1 e, Bat z N s0 ((flat bs).drop a) xs s p1 e → BatA z n s0 ((flat bs).drop a) xs s p1 e) := Lib.hid fun xs s p1 e hb => .inr ⟨hz, by rw [HN.out]; exact hb⟩
  clear h hlen hk
  go_enter Tryz.func106, Tryz.ntmps106
  go_upto_region 1 with fail
  clear hV
  generalize (w.alloc (.cells #[.int .i64 (s0.n : Int), .int .i64 s0.t, .int .i64 s0.d, .int .u64 (s0.v : Int), .int .u64 (s0.e : Int), .int .u64 (s0.x.prev : Int), .int .i64 (s0.x.lead : Int), .int .i64 (s0.x.len : Int)] 151)).alloc (.cells #[.int .i64 0, .int .i64 0, .int .i64 0, .int .u64 0, .int .u64 0, .int .u64 0, .int .i64 0, .int .i64 0] 151) = W at *
  go_cut [15, 16, 17, 18, 19, 20] (fun _ _ _ _ _ x20 wx => x20 = .bool false ∧ wx = W)
  case first =>
    rcases hz with rfl | rfl
    all_goals
      go_wp2
      go_meet
      exact ⟨rfl, rfl⟩
  case rest =>
  obtain ⟨rfl, rfl⟩ := hcut
  go_upto_block 0 with fail
  rw [HMin.out]
  go_wp2_with fail
  go_loopw [11, 25] (fun l i wr => AtNX w g A m c bs a z N s0 l i wr) (fun _ i _ => N - (intOf i).toNat)
  case atStart =>
    exact ⟨0, a, [], s0, Nat.zero_le _, rfl, GoneB.zero z s0 ((flat bs).drop a) N, rfl, hs, rfl, MidQ.nil_ hm (Nat.zero_le _), x6, x9, hW⟩
  case round =>
    clear x6 x9 hm hW
    obtain ⟨j, a', xs, s, hj, rfl, hgone, hxl, hs1, hsn1, hmr, x6, x9, hW⟩ := hrel
    have HXL := Lib.hid hxl
    have HSN := Lib.hid hsn1
    have HMN2 := HMN.out
    have HR := Lib.hid (HL.out a' hW.1.at_)
    by_cases hlt : j < N
    · have hcond : (j : Int) < M := by omega
      have hget := bget_any k HK.out.2 g A m c bs a' s wr hW.1 hs1 (hW.tabs hT hl) hl
      rw [← HK.out.1] at hget
      unfold RetBG at hget
      rw [show N - j = (N - (j + 1)) + 1 by omega] at hgone
      have HG := Lib.hid hgone
      have hsk : s.n ≤ 1000000 := by omega
      clear hgone hxl hsn1 HMN2
      obtain ⟨q0, q1, q2, q3, q4, q5, q6, q7⟩ := x6.get8
      go_wp2_with fail
      refine hget.mono ?_
      clear q0 q1 q2 q3 q4 q5 q6 q7 hget
      rintro e w3 ⟨r, hkg, ⟨he, rfl, a3, hW3⟩ | ⟨he, y, rfl, hrs, hW3⟩⟩
      · have HKG : Hid (KG z s ((flat bs).drop a') r) := Lib.hid (.inr ⟨k, HK.out.1, HK.out.2, by rw [← HR.out]; exact hkg⟩)
        have HD := Lib.hid (HBA.out _ _ _ _ (HG.out.err HKG.out he []))
        have HE := Lib.hid he
        have hev : errV r.e = .iface 59 (.int .i64 (r.e : Int)) := errV_some he
        have HEV := Lib.hid hev
        rw [hev]
        replace x6 := hW3.box x6 (by omega)
        replace x9 := hW3.box x9 (by omega)
        replace hmr := hmr.went hW3.2 (by omega)
        replace hW := hW.trans hW3
        clear hW3 hev he hkg HKG HG
        go_upto_region 8 with fail
        have hal : Below w3.heap.size w3 ((w3.alloc (.cells #[.int .i64 0, .int .u64 0] 74)).alloc (.cells #[.int .u64 0, .int .i64 0, .int .i64 0] 149)) := by repeat (first | with_reducible exact Below.refl _ _ | assumption | with_reducible refine Below.drew ?_ | with_reducible refine Below.alloc ?_ (by (first | assumption | omega | (simp; done) | (simp; omega))) _)
        replace x6 := x6.below hal
        replace x9 := x9.below hal
        replace hmr := hmr.on hal
        replace hW := hW.below hal
        generalize (w3.alloc (.cells #[.int .i64 0, .int .u64 0] 74)).alloc (.cells #[.int .u64 0, .int .i64 0, .int .i64 0] 149) = w1 at *
        clear hal
        generalize w3.heap.size = gx at *
        clear w3
        obtain ⟨A', c', rfl, _⟩ := hmr.own.form
        have mZ := (hmr.set8 (g := w.heap.size + 1) (Nat.zero_le _) (Nat.lt_succ_self _) (.int .i64 (s.n : Int)) (.int .i64 s.t) (.int .i64 s.d) (.int .u64 (s.v : Int)) (.int .u64 (s.e : Int)) (.int .u64 (s.x.prev : Int)) (.int .i64 (s.x.lead : Int)) (.int .i64 (s.x.len : Int))).drew
        clear hmr
        have z9 := (x9.all8 (.int .i64 (s.n : Int)) (.int .i64 s.t) (.int .i64 s.d) (.int .u64 (s.v : Int)) (.int .u64 (s.e : Int)) (.int .u64 (s.x.prev : Int)) (.int .i64 (s.x.lead : Int)) (.int .i64 (s.x.len : Int))).drew
        have hZ := (hW.put8 hg (d := w.heap.size + 1) (by omega) (.int .i64 (s.n : Int)) (.int .i64 s.t) (.int .i64 s.d) (.int .u64 (s.v : Int)) (.int .u64 (s.e : Int)) (.int .u64 (s.x.prev : Int)) (.int .i64 (s.x.lead : Int)) (.int .i64 (s.x.len : Int))).below ((Below.refl _ _).drew)
        obtain ⟨q0, q1, q2, q3, q4, q5, q6, q7⟩ := x6.get8
        obtain ⟨i0, i1, i2, i3, i4, i5, i6, i7⟩ := x6.drew.get8
        obtain ⟨y0, y1, y2, y3, y4, y5, y6, y7⟩ := x9.get8
        obtain ⟨f0, f1, f2, f3, f4, f5, f6, f7⟩ := x9.free8
        have x9d := x9.drew
        obtain ⟨j0, j1, j2, j3, j4, j5, j6, j7⟩ := x9d.get8
        obtain ⟨e0, e1, e2, e3, e4, e5, e6, e7⟩ := x9d.free8
        clear x6 x9 hW x9d
        go_region
        clear q0 q1 q2 q3 q4 q5 q6 q7 i0 i1 i2 i3 i4 i5 i6 i7 y0 y1 y2 y3 y4 y5 y6 y7 f0 f1 f2 f3 f4 f5 f6 f7 j0 j1 j2 j3 j4 j5 j6 j7 e0 e1 e2 e3 e4 e5 e6 e7
        generalize ((((((((w1.setCell ⟨w.heap.size + 1, 0, none⟩ (.int .i64 (s.n : Int))).setCell ⟨w.heap.size + 1, 1, none⟩ (.int .i64 s.t)).setCell ⟨w.heap.size + 1, 2, none⟩ (.int .i64 s.d)).setCell ⟨w.heap.size + 1, 3, none⟩ (.int .u64 (s.v : Int))).setCell ⟨w.heap.size + 1, 4, none⟩ (.int .u64 (s.e : Int))).setCell ⟨w.heap.size + 1, 5, none⟩ (.int .u64 (s.x.prev : Int))).setCell ⟨w.heap.size + 1, 6, none⟩ (.int .i64 (s.x.lead : Int))).setCell ⟨w.heap.size + 1, 7, none⟩ (.int .i64 (s.x.len : Int))).drew = Z at *
        obtain ⟨u0, u1, u2, u3, u4, u5, u6, u7⟩ := z9.get8
        go_wp2
        refine bodyPost_ret (v := .tuple #[.slice A' xs.length c', (.agg #[.int .i64 (s.n : Int), .int .i64 s.t, .int .i64 s.d, .int .u64 (s.v : Int), .int .u64 (s.e : Int), .int .u64 (s.x.prev : Int), .int .i64 (s.x.lead : Int), .int .i64 (s.x.len : Int)]), .iface 59 (.int .i64 (r.e : Int))]) ?_ rfl ⟨xs, s, [], r.e, A', c', a3, HD.out, by rw [HEV.out], mZ.rd, fun ad e => Nat.le_trans (by omega) (mZ.block ad e), hZ.1, fun e => absurd e HE.out, hZ.2⟩
        simp [results, Tryz.results106, go_sem, u0, u1, u2, u3, u4, u5, u6, u7]
      · obtain ⟨hrt, hrv, hrsm, hrn, hre, hok⟩ := kgets_in hs1 hkg
        obtain ⟨hok1, hok2, hok3⟩ := hok he
        have HKG : Hid (KG z s ((flat bs).drop a') r) := Lib.hid (.inr ⟨k, HK.out.1, HK.out.2, by rw [← HR.out]; exact hkg⟩)
        have HS := Lib.hid (HG.out.step HKG.out he)
        rw [List.drop_drop] at HS
        have HOK2 := Lib.hid hok2
        replace x6 := hW3.box x6 (by omega)
        replace x9 := hW3.box x9 (by omega)
        replace hmr := hmr.went hW3.2 (by omega)
        replace hW := hW.trans hW3
        have hAF : ∀ X, Calls Tryz.prog 103 #[.int .i64 z, (.agg #[.int .i64 (s.n : Int), .int .i64 s.t, .int .i64 s.d, .int .u64 (s.v : Int), .int .u64 (s.e : Int), .int .u64 (s.x.prev : Int), .int .i64 (s.x.lead : Int), .int .i64 (s.x.len : Int)]), (.agg #[.int .i64 r.t, .int .u64 (r.v : Int)]), (.agg #[.int .u64 (y.prev : Int), .int .i64 (y.lead : Int), .int .i64 (y.len : Int)])] X fun e w' => e = .returned (.agg #[.int .i64 (r.s.n : Int), .int .i64 r.s.t, .int .i64 r.s.d, .int .u64 (r.s.v : Int), .int .u64 (r.s.e : Int), .int .u64 (r.s.x.prev : Int), .int .i64 (r.s.x.lead : Int), .int .i64 (r.s.x.len : Int)]) ∧ Below X.heap.size X w' := fun X => by
          rw [hrs, HK.out.1]
          exact after_any k s r.t r.v y X HK.out.2 hsk
        clear hW3 he hkg HKG HG hok hok1 hok2 hrs
        go_upto_region 9 with fail
        have hal : Below w3.heap.size w3 ((w3.alloc (.cells #[.int .i64 r.t, .int .u64 (r.v : Int)] 74)).alloc (.cells #[.int .u64 (y.prev : Int), .int .i64 (y.lead : Int), .int .i64 (y.len : Int)] 149)) := by repeat (first | with_reducible exact Below.refl _ _ | assumption | with_reducible refine Below.drew ?_ | with_reducible refine Below.alloc ?_ (by (first | assumption | omega | (simp; done) | (simp; omega))) _)
        have x12 := (BoxL.new w3 [.int .i64 r.t, .int .u64 (r.v : Int)] 74).onA (.cells #[.int .u64 (y.prev : Int), .int .i64 (y.lead : Int), .int .i64 (y.len : Int)] 149)
        have x13 := BoxL.new (w3.alloc (.cells #[.int .i64 r.t, .int .u64 (r.v : Int)] 74)) [.int .u64 (y.prev : Int), .int .i64 (y.lead : Int), .int .i64 (y.len : Int)] 149
        simp only [World.size_alloc] at x13
        change BoxL ((w3.alloc (.cells #[.int .i64 r.t, .int .u64 (r.v : Int)] 74)).alloc (.cells #[.int .u64 (y.prev : Int), .int .i64 (y.lead : Int), .int .i64 (y.len : Int)] 149)) w3.heap.size [.int .i64 r.t, .int .u64 (r.v : Int)] at x12
        change BoxL ((w3.alloc (.cells #[.int .i64 r.t, .int .u64 (r.v : Int)] 74)).alloc (.cells #[.int .u64 (y.prev : Int), .int .i64 (y.lead : Int), .int .i64 (y.len : Int)] 149)) (w3.heap.size + 1) [.int .u64 (y.prev : Int), .int .i64 (y.lead : Int), .int .i64 (y.len : Int)] at x13
        have hub : ∀ b, u11.ownBlock = some b → b < w3.heap.size := fun b hb => (hmr.row.lt b hb).2
        have l9 := x9.lt
        replace x6 := x6.below hal
        replace x9 := x9.below hal
        replace hmr := hmr.on hal
        replace hW := hW.below hal
        generalize (w3.alloc (.cells #[.int .i64 r.t, .int .u64 (r.v : Int)] 74)).alloc (.cells #[.int .u64 (y.prev : Int), .int .i64 (y.lead : Int), .int .i64 (y.len : Int)] 149) = w1 at *
        clear hal
        generalize w3.heap.size = gx at *
        clear w3
        have nx12 : u11.ownBlock ≠ some gx := fun e => by have := hub _ e; omega
        have nx13 : u11.ownBlock ≠ some (gx + 1) := fun e => by have := hub _ e; omega
        have n6 : gx ≠ w.heap.size := by omega
        have n6' : gx + 1 ≠ w.heap.size := by omega
        have n69 : w.heap.size + 1 ≠ w.heap.size := by omega
        have x6B := x6.onA (.cells #[.int .i64 r.t, .int .u64 (r.v : Int)] 74)
        obtain ⟨c0, c1, c2, c3, c4, c5, c6, c7⟩ := x6.get8
        obtain ⟨d0, d1, d2, d3, d4, d5, d6, d7⟩ := x6B.get8
        clear x6B
        replace x6 := x6.drew
        replace x9 := x9.drew
        replace x12 := x12.drew
        replace x13 := x13.drew
        replace hmr := hmr.drew
        replace hW := hW.below ((Below.refl _ _).drew)
        have x6A := x6.onA (.cells #[.int .i64 r.t, .int .u64 (r.v : Int)] 74)
        have x9A := x9.onA (.cells #[.int .i64 r.t, .int .u64 (r.v : Int)] 74)
        have x12A := x12.onA (.cells #[.int .i64 r.t, .int .u64 (r.v : Int)] 74)
        have x13A := x13.onA (.cells #[.int .i64 r.t, .int .u64 (r.v : Int)] 74)
        have mA := hmr.onA (.cells #[.int .i64 r.t, .int .u64 (r.v : Int)] 74)
        have r1 := RdQ.one w1.drew (r.t, r.v) ⟨hrt.1, hrt.2, hrv⟩
        have hWA := hW.below ((Below.refl _ _).alloc (Nat.le_refl _) (.cells #[.int .i64 r.t, .int .u64 (r.v : Int)] 74))
        have hVs : w.heap.size + 1 + 1 ≤ (w1.drew.alloc (.cells #[.int .i64 r.t, .int .u64 (r.v : Int)] 74)).heap.size := by have := x9A.lt; omega
        have hxm : xs.length + 1 ≤ 8796093022208 := by rw [HXL.out]; omega
        have hB6 : w.heap.size < w.heap.size + 1 + 1 := by omega
        have hB9 : w.heap.size + 1 < w.heap.size + 1 + 1 := by omega
        have hB0 : w.heap.size ≤ w.heap.size + 1 + 1 := by omega
        obtain ⟨q0, q1, q2, q3, q4, q5, q6, q7⟩ := x6.get8
        obtain ⟨i0, i1, i2, i3, i4, i5, i6, i7⟩ := x6A.get8
        have k0 := x12.get2
        have k1 := x13.get3
        clear hub l9 hmr x6 x9 hW
        refine wp_region_held_drew (S := fun w' => (w'.cell? ⟨gx, 0, none⟩ = some (.int .i64 r.t) ∧ w'.cell? ⟨gx, 1, none⟩ = some (.int .u64 (r.v : Int))) ∧ (w'.cell? ⟨gx + 1, 0, none⟩ = some (.int .u64 (y.prev : Int)) ∧ w'.cell? ⟨gx + 1, 1, none⟩ = some (.int .i64 (y.lead : Int)) ∧ w'.cell? ⟨gx + 1, 2, none⟩ = some (.int .i64 (y.len : Int)))) (by kernel_rfl) ⟨k0, k1⟩ (fun hH => ?_)
        refine wpAnyH_take (i := 0) (oi := ?oi1) (v := ?v1) ?ho1 ?ka1 ?kb1 ?kc1 ?hQ1 (Or.inl ⟨?hw1, ?hy1⟩) hH ?rest1
        case ho1 => simp only [List.getElem?_toArray, List.getElem?_cons_zero]; rfl
        case ka1 => kernel_rfl
        case kb1 => kernel_rfl
        case kc1 => kernel_rfl
        case hQ1 => exact fun _ _ _ h => h
        case hw1 => rfl
        case hy1 => (intro X hX; (try dsimp only at hX); go_simp; (try with_reducible rfl))
        simp only [Act.put, List.setIfInBounds_toArray, List.set_cons_zero, List.set_cons_succ]
        refine wpAnyH_take (i := 1) (oi := ?oi2) (v := ?v2) ?ho2 ?ka2 ?kb2 ?kc2 ?hQ2 (Or.inl ⟨?hw2, ?hy2⟩) hH ?rest2
        case ho2 => simp only [List.getElem?_toArray, List.getElem?_cons_zero, List.getElem?_cons_succ]; rfl
        case ka2 => kernel_rfl
        case kb2 => kernel_rfl
        case kc2 => kernel_rfl
        case hQ2 => exact fun _ _ _ h => h
        case hw2 => rfl
        case hy2 => (intro X hX; (try dsimp only at hX); go_simp; (try with_reducible rfl))
        simp only [Act.put, List.setIfInBounds_toArray, List.set_cons_zero, List.set_cons_succ]
        refine wpAnyH_take (i := 4) (oi := ?oi3) (v := ?v3) ?ho3 ?ka3 ?kb3 ?kc3 ?hQ3 (Or.inl ⟨?hw3, ?hy3⟩) hH ?rest3
        case ho3 => simp only [List.getElem?_toArray, List.getElem?_cons_zero, List.getElem?_cons_succ]; rfl
        case ka3 => kernel_rfl
        case kb3 => kernel_rfl
        case kc3 => kernel_rfl
        case hQ3 => exact fun _ _ _ h => h
        case hw3 => rfl
        case hy3 => (intro X hX; (try dsimp only at hX); go_simp; (try with_reducible rfl))
        simp only [Act.put, List.setIfInBounds_toArray, List.set_cons_zero, List.set_cons_succ]
        refine wpAnyH_take (i := 6) (oi := ?oi4) (v := ?v4) ?ho4 ?ka4 ?kb4 ?kc4 ?hQ4 (Or.inl ⟨?hw4, ?hy4⟩) hH ?rest4
        case ho4 => simp only [List.getElem?_toArray, List.getElem?_cons_zero, List.getElem?_cons_succ]; rfl
        case ka4 => kernel_rfl
        case kb4 => kernel_rfl
        case kc4 => kernel_rfl
        case hQ4 => exact fun _ _ _ h => h
        case hw4 => rfl
        case hy4 => (intro X hX; (try dsimp only at hX); go_simp; (try with_reducible rfl))
        simp only [Act.put, List.setIfInBounds_toArray, List.set_cons_zero, List.set_cons_succ]
        refine wpAnyH_take (i := 7) (oi := ?oi5) (v := ?v5) ?ho5 ?ka5 ?kb5 ?kc5 ?hQ5 (Or.inl ⟨?hw5, ?hy5⟩) hH ?rest5
        case ho5 => simp only [List.getElem?_toArray, List.getElem?_cons_zero, List.getElem?_cons_succ]; rfl
        case ka5 => kernel_rfl
        case kb5 => kernel_rfl
        case kc5 => kernel_rfl
        case hQ5 => exact fun _ _ _ h => h
        case hw5 => rfl
        case hy5 => (intro X hX; (try dsimp only at hX); go_simp; (try with_reducible rfl))
        simp only [Act.put, List.setIfInBounds_toArray, List.set_cons_zero, List.set_cons_succ]
        refine wpAnyH_ready (rs := [2, 5]) (by kernel_rfl) (by simp) ?_
        refine AllReadyH.cons (o := ?o6) ?ho6 (fun K hK => ?_) ?_
        case ho6 => simp only [List.getElem?_toArray, List.getElem?_cons_zero, List.getElem?_cons_succ]; rfl
        · skip
          go_simp
          refine hK.out _ _ ?_ (fun hH => ?_)
          · exact ⟨x12A.get2, x13A.get3⟩
          clear hK K
          try simp only [Act.put, List.setIfInBounds_toArray, List.set_cons_zero, List.set_cons_succ]
          refine wpAnyH_ready (rs := [3, 5]) (by kernel_rfl) (by simp) ?_
          refine AllReadyH.cons (o := ?o7) ?ho7 (fun K hK => ?_) ?_
          case ho7 => simp only [List.getElem?_toArray, List.getElem?_cons_zero, List.getElem?_cons_succ]; rfl
          · skip
            refine step_appMQ (by rfl) (.tmp 40) (.tmp 42) (by rfl) (by rfl) (by rfl) mA hVs r1 hxm ?_
            intro v' w' m' hb' hg'
            have x6n := x6A.belowB hb' hB6
            have x9n := x9A.belowB hb' hB9
            have x12n := x12A.grown hg' nx12
            have x13n := x13A.grown hg' nx13
            have hWn := hWA.belowB hb' hB0 hg
            clear hb' hg'
            obtain ⟨p0, p1, p2, p3, p4, p5, p6, p7⟩ := x6n.get8
            refine hK.out _ _ ?_ (fun hH => ?_)
            · exact ⟨x12n.get2, x13n.get3⟩
            clear hK K
            try simp only [Act.put, List.setIfInBounds_toArray, List.set_cons_zero, List.set_cons_succ]
            refine wpAnyH_ready (rs := [5]) (by kernel_rfl) (by simp) ?_
            refine AllReadyH.cons (o := ?o8) ?ho8 (fun K hK => ?_) ?_
            case ho8 => simp only [List.getElem?_toArray, List.getElem?_cons_zero, List.getElem?_cons_succ]; rfl
            rotate_left
            · exact AllReadyH.nil
            go_simp
            refine hK.out _ _ ?_ (fun hH => ?_)
            · exact ⟨x12n.get2, x13n.get3⟩
            clear hK K
            try simp only [Act.put, List.setIfInBounds_toArray, List.set_cons_zero, List.set_cons_succ]
            refine wpAnyH_ready (rs := [8]) (by kernel_rfl) (by simp) ?_
            refine AllReadyH.cons (o := ?o9) ?ho9 (fun K hK => ?_) ?_
            case ho9 => simp only [List.getElem?_toArray, List.getElem?_cons_zero, List.getElem?_cons_succ]; rfl
            rotate_left
            · exact AllReadyH.nil
            go_simp
            with_reducible refine (hAF _).mono ?_
            rintro e w8 ⟨rfl, HB⟩
            replace m' := m'.on HB
            replace x6n := x6n.below HB
            replace x9n := x9n.below HB
            replace x12n := x12n.below HB
            replace x13n := x13n.below HB
            replace hWn := hWn.below HB
            clear HB
            clear p0 p1 p2 p3 p4 p5 p6 p7
            obtain ⟨p0, p1, p2, p3, p4, p5, p6, p7⟩ := x6n.get8
            obtain ⟨f0, f1, f2, f3, f4, f5, f6, f7⟩ := x6n.free8
            go_wp2_with fail
            refine hK.out _ _ ?_ (fun hH => ?_)
            · exact ⟨x12n.get2, x13n.get3⟩
            clear hK K
            try simp only [Act.put, List.setIfInBounds_toArray, List.set_cons_zero, List.set_cons_succ]
            refine wpAnyH_take (i := 9) (oi := ?oi10) (v := ?v10) ?ho10 ?ka10 ?kb10 ?kc10 ?hQ10 (Or.inl ⟨?hw10, ?hy10⟩) hH ?rest10
            case ho10 => simp only [List.getElem?_toArray, List.getElem?_cons_zero, List.getElem?_cons_succ]; rfl
            case ka10 => kernel_rfl
            case kb10 => kernel_rfl
            case kc10 => kernel_rfl
            case hQ10 => exact fun _ _ _ h => h
            case hw10 => rfl
            case hy10 => (intro X hX; (try dsimp only at hX); go_simp; (try with_reducible rfl))
            simp only [Act.put, List.setIfInBounds_toArray, List.set_cons_zero, List.set_cons_succ]
            refine wpAnyH_ready (rs := [10]) (by kernel_rfl) (by simp) ?_
            refine AllReadyH.cons (o := ?o11) ?ho11 (fun K hK => ?_) ?_
            case ho11 => simp only [List.getElem?_toArray, List.getElem?_cons_zero, List.getElem?_cons_succ]; rfl
            rotate_left
            · exact AllReadyH.nil
            go_simp
            refine hK.out _ _ ?_ (fun hH => ?_)
            · exact ⟨(x12n.oth8 n6 _ _ _ _ _ _ _ _).get2, (x13n.oth8 n6' _ _ _ _ _ _ _ _).get3⟩
            clear hK K
            try simp only [Act.put, List.setIfInBounds_toArray, List.set_cons_zero, List.set_cons_succ]
            refine wpAnyH_done (by kernel_rfl) ?_ _
            go_wp2_with fail
            go_roundw
            case rel =>
              refine ⟨j + 1, a' + r.n, xs ++ [(r.t, r.v)], r.s, by omega, by go_num, HS.out, by rw [List.length_append, HXL.out]; rfl, hrsm, by rw [HOK2.out, HSN.out]; omega, ?_, x6n.all8 _ _ _ _ _ _ _ _, x9n.oth8 n69 _ _ _ _ _ _ _ _, hWn.put8 hg (Nat.le_refl _) _ _ _ _ _ _ _ _⟩
              exact m'.set8 (Nat.zero_le _) hB6 _ _ _ _ _ _ _ _
            case measure => simp [intOf]; omega
          refine AllReadyH.cons (o := ?o12) ?ho12 (fun K hK => ?_) ?_
          case ho12 => simp only [List.getElem?_toArray, List.getElem?_cons_zero, List.getElem?_cons_succ]; rfl
          rotate_left
          · exact AllReadyH.nil
          go_simp
          refine hK.out _ _ ?_ (fun hH => ?_)
          · exact ⟨x12A.get2, x13A.get3⟩
          clear hK K
          try simp only [Act.put, List.setIfInBounds_toArray, List.set_cons_zero, List.set_cons_succ]
          refine wpAnyH_ready (rs := [3]) (by kernel_rfl) (by simp) ?_
          refine AllReadyH.cons (o := ?o13) ?ho13 (fun K hK => ?_) ?_
          case ho13 => simp only [List.getElem?_toArray, List.getElem?_cons_zero, List.getElem?_cons_succ]; rfl
          rotate_left
          · exact AllReadyH.nil
          refine step_appMQ (by rfl) (.tmp 40) (.tmp 42) (by rfl) (by rfl) (by rfl) mA hVs r1 hxm ?_
          intro v' w' m' hb' hg'
          have x6n := x6A.belowB hb' hB6
          have x9n := x9A.belowB hb' hB9
          have x12n := x12A.grown hg' nx12
          have x13n := x13A.grown hg' nx13
          have hWn := hWA.belowB hb' hB0 hg
          clear hb' hg'
          obtain ⟨p0, p1, p2, p3, p4, p5, p6, p7⟩ := x6n.get8
          refine hK.out _ _ ?_ (fun hH => ?_)
          · exact ⟨x12n.get2, x13n.get3⟩
          clear hK K
          try simp only [Act.put, List.setIfInBounds_toArray, List.set_cons_zero, List.set_cons_succ]
          refine wpAnyH_ready (rs := [8]) (by kernel_rfl) (by simp) ?_
          refine AllReadyH.cons (o := ?o14) ?ho14 (fun K hK => ?_) ?_
          case ho14 => simp only [List.getElem?_toArray, List.getElem?_cons_zero, List.getElem?_cons_succ]; rfl
          rotate_left
          · exact AllReadyH.nil
          go_simp
          with_reducible refine (hAF _).mono ?_
          rintro e w8 ⟨rfl, HB⟩
          replace m' := m'.on HB
          replace x6n := x6n.below HB
          replace x9n := x9n.below HB
          replace x12n := x12n.below HB
          replace x13n := x13n.below HB
          replace hWn := hWn.below HB
          clear HB
          clear p0 p1 p2 p3 p4 p5 p6 p7
          obtain ⟨p0, p1, p2, p3, p4, p5, p6, p7⟩ := x6n.get8
          obtain ⟨f0, f1, f2, f3, f4, f5, f6, f7⟩ := x6n.free8
          go_wp2_with fail
          refine hK.out _ _ ?_ (fun hH => ?_)
          · exact ⟨x12n.get2, x13n.get3⟩
          clear hK K
          try simp only [Act.put, List.setIfInBounds_toArray, List.set_cons_zero, List.set_cons_succ]
          refine wpAnyH_take (i := 9) (oi := ?oi15) (v := ?v15) ?ho15 ?ka15 ?kb15 ?kc15 ?hQ15 (Or.inl ⟨?hw15, ?hy15⟩) hH ?rest15
          case ho15 => simp only [List.getElem?_toArray, List.getElem?_cons_zero, List.getElem?_cons_succ]; rfl
          case ka15 => kernel_rfl
          case kb15 => kernel_rfl
          case kc15 => kernel_rfl
          case hQ15 => exact fun _ _ _ h => h
          case hw15 => rfl
          case hy15 => (intro X hX; (try dsimp only at hX); go_simp; (try with_reducible rfl))
          simp only [Act.put, List.setIfInBounds_toArray, List.set_cons_zero, List.set_cons_succ]
          refine wpAnyH_ready (rs := [10]) (by kernel_rfl) (by simp) ?_
          refine AllReadyH.cons (o := ?o16) ?ho16 (fun K hK => ?_) ?_
          case ho16 => simp only [List.getElem?_toArray, List.getElem?_cons_zero, List.getElem?_cons_succ]; rfl
          rotate_left
          · exact AllReadyH.nil
          go_simp
          refine hK.out _ _ ?_ (fun hH => ?_)
          · exact ⟨(x12n.oth8 n6 _ _ _ _ _ _ _ _).get2, (x13n.oth8 n6' _ _ _ _ _ _ _ _).get3⟩
          clear hK K
          try simp only [Act.put, List.setIfInBounds_toArray, List.set_cons_zero, List.set_cons_succ]
          refine wpAnyH_done (by kernel_rfl) ?_ _
          go_wp2_with fail
          go_roundw
          case rel =>
            refine ⟨j + 1, a' + r.n, xs ++ [(r.t, r.v)], r.s, by omega, by go_num, HS.out, by rw [List.length_append, HXL.out]; rfl, hrsm, by rw [HOK2.out, HSN.out]; omega, ?_, x6n.all8 _ _ _ _ _ _ _ _, x9n.oth8 n69 _ _ _ _ _ _ _ _, hWn.put8 hg (Nat.le_refl _) _ _ _ _ _ _ _ _⟩
            exact m'.set8 (Nat.zero_le _) hB6 _ _ _ _ _ _ _ _
          case measure => simp [intOf]; omega
        refine AllReadyH.cons (o := ?o17) ?ho17 (fun K hK => ?_) ?_
        case ho17 => simp only [List.getElem?_toArray, List.getElem?_cons_zero, List.getElem?_cons_succ]; rfl
        rotate_left
        · exact AllReadyH.nil
        go_simp
        refine hK.out _ _ ?_ (fun hH => ?_)
        · exact ⟨k0, k1⟩
        clear hK K
        try simp only [Act.put, List.setIfInBounds_toArray, List.set_cons_zero, List.set_cons_succ]
        refine wpAnyH_ready (rs := [2]) (by kernel_rfl) (by simp) ?_
        refine AllReadyH.cons (o := ?o18) ?ho18 (fun K hK => ?_) ?_
        case ho18 => simp only [List.getElem?_toArray, List.getElem?_cons_zero, List.getElem?_cons_succ]; rfl
        rotate_left
        · exact AllReadyH.nil
        go_simp
        refine hK.out _ _ ?_ (fun hH => ?_)
        · exact ⟨x12A.get2, x13A.get3⟩
        clear hK K
        try simp only [Act.put, List.setIfInBounds_toArray, List.set_cons_zero, List.set_cons_succ]
        refine wpAnyH_ready (rs := [3]) (by kernel_rfl) (by simp) ?_
        refine AllReadyH.cons (o := ?o19) ?ho19 (fun K hK => ?_) ?_
        case ho19 => simp only [List.getElem?_toArray, List.getElem?_cons_zero, List.getElem?_cons_succ]; rfl
        rotate_left
        · exact AllReadyH.nil
        refine step_appMQ (by rfl) (.tmp 40) (.tmp 42) (by rfl) (by rfl) (by rfl) mA hVs r1 hxm ?_
        intro v' w' m' hb' hg'
        have x6n := x6A.belowB hb' hB6
        have x9n := x9A.belowB hb' hB9
        have x12n := x12A.grown hg' nx12
        have x13n := x13A.grown hg' nx13
        have hWn := hWA.belowB hb' hB0 hg
        clear hb' hg'
        obtain ⟨p0, p1, p2, p3, p4, p5, p6, p7⟩ := x6n.get8
        refine hK.out _ _ ?_ (fun hH => ?_)
        · exact ⟨x12n.get2, x13n.get3⟩
        clear hK K
        try simp only [Act.put, List.setIfInBounds_toArray, List.set_cons_zero, List.set_cons_succ]
        refine wpAnyH_ready (rs := [8]) (by kernel_rfl) (by simp) ?_
        refine AllReadyH.cons (o := ?o20) ?ho20 (fun K hK => ?_) ?_
        case ho20 => simp only [List.getElem?_toArray, List.getElem?_cons_zero, List.getElem?_cons_succ]; rfl
        rotate_left
        · exact AllReadyH.nil
        go_simp
        with_reducible refine (hAF _).mono ?_
        rintro e w8 ⟨rfl, HB⟩
        replace m' := m'.on HB
        replace x6n := x6n.below HB
        replace x9n := x9n.below HB
        replace x12n := x12n.below HB
        replace x13n := x13n.below HB
        replace hWn := hWn.below HB
        clear HB
        clear p0 p1 p2 p3 p4 p5 p6 p7
        obtain ⟨p0, p1, p2, p3, p4, p5, p6, p7⟩ := x6n.get8
        obtain ⟨f0, f1, f2, f3, f4, f5, f6, f7⟩ := x6n.free8
        go_wp2_with fail
        refine hK.out _ _ ?_ (fun hH => ?_)
        · exact ⟨x12n.get2, x13n.get3⟩
        clear hK K
        try simp only [Act.put, List.setIfInBounds_toArray, List.set_cons_zero, List.set_cons_succ]
        refine wpAnyH_take (i := 9) (oi := ?oi21) (v := ?v21) ?ho21 ?ka21 ?kb21 ?kc21 ?hQ21 (Or.inl ⟨?hw21, ?hy21⟩) hH ?rest21
        case ho21 => simp only [List.getElem?_toArray, List.getElem?_cons_zero, List.getElem?_cons_succ]; rfl
        case ka21 => kernel_rfl
        case kb21 => kernel_rfl
        case kc21 => kernel_rfl
        case hQ21 => exact fun _ _ _ h => h
        case hw21 => rfl
        case hy21 => (intro X hX; (try dsimp only at hX); go_simp; (try with_reducible rfl))
        simp only [Act.put, List.setIfInBounds_toArray, List.set_cons_zero, List.set_cons_succ]
        refine wpAnyH_ready (rs := [10]) (by kernel_rfl) (by simp) ?_
        refine AllReadyH.cons (o := ?o22) ?ho22 (fun K hK => ?_) ?_
        case ho22 => simp only [List.getElem?_toArray, List.getElem?_cons_zero, List.getElem?_cons_succ]; rfl
        rotate_left
        · exact AllReadyH.nil
        go_simp
        refine hK.out _ _ ?_ (fun hH => ?_)
        · exact ⟨(x12n.oth8 n6 _ _ _ _ _ _ _ _).get2, (x13n.oth8 n6' _ _ _ _ _ _ _ _).get3⟩
        clear hK K
        try simp only [Act.put, List.setIfInBounds_toArray, List.set_cons_zero, List.set_cons_succ]
        refine wpAnyH_done (by kernel_rfl) ?_ _
        go_wp2_with fail
        go_roundw
        case rel =>
          refine ⟨j + 1, a' + r.n, xs ++ [(r.t, r.v)], r.s, by omega, by go_num, HS.out, by rw [List.length_append, HXL.out]; rfl, hrsm, by rw [HOK2.out, HSN.out]; omega, ?_, x6n.all8 _ _ _ _ _ _ _ _, x9n.oth8 n69 _ _ _ _ _ _ _ _, hWn.put8 hg (Nat.le_refl _) _ _ _ _ _ _ _ _⟩
          exact m'.set8 (Nat.zero_le _) hB6 _ _ _ _ _ _ _ _
        case measure => simp [intOf]; omega
    · have hcond : ¬ (j : Int) < M := by omega
      obtain rfl : j = N := by omega
      rw [Nat.sub_self] at hgone
      have HD := Lib.hid (HBA.out _ _ _ _ hgone.done)
      obtain ⟨A', c', rfl, _⟩ := hmr.own.form
      have mZ := (hmr.set8 (g := w.heap.size + 1) (Nat.zero_le _) (Nat.lt_succ_self _) (.int .i64 (s.n : Int)) (.int .i64 s.t) (.int .i64 s.d) (.int .u64 (s.v : Int)) (.int .u64 (s.e : Int)) (.int .u64 (s.x.prev : Int)) (.int .i64 (s.x.lead : Int)) (.int .i64 (s.x.len : Int))).drew
      clear hgone hmr hxl hsn1 HMN2
      go_upto_region 11 with fail
      have z9 := (x9.all8 (.int .i64 (s.n : Int)) (.int .i64 s.t) (.int .i64 s.d) (.int .u64 (s.v : Int)) (.int .u64 (s.e : Int)) (.int .u64 (s.x.prev : Int)) (.int .i64 (s.x.lead : Int)) (.int .i64 (s.x.len : Int))).drew
      have hZ := (hW.put8 hg (d := w.heap.size + 1) (by omega) (.int .i64 (s.n : Int)) (.int .i64 s.t) (.int .i64 s.d) (.int .u64 (s.v : Int)) (.int .u64 (s.e : Int)) (.int .u64 (s.x.prev : Int)) (.int .i64 (s.x.lead : Int)) (.int .i64 (s.x.len : Int))).below ((Below.refl _ _).drew)
      obtain ⟨q0, q1, q2, q3, q4, q5, q6, q7⟩ := x6.get8
      obtain ⟨i0, i1, i2, i3, i4, i5, i6, i7⟩ := x6.drew.get8
      obtain ⟨y0, y1, y2, y3, y4, y5, y6, y7⟩ := x9.get8
      obtain ⟨f0, f1, f2, f3, f4, f5, f6, f7⟩ := x9.free8
      have x9d := x9.drew
      obtain ⟨j0, j1, j2, j3, j4, j5, j6, j7⟩ := x9d.get8
      obtain ⟨e0, e1, e2, e3, e4, e5, e6, e7⟩ := x9d.free8
      clear x6 x9 hW x9d
      go_region
      clear q0 q1 q2 q3 q4 q5 q6 q7 i0 i1 i2 i3 i4 i5 i6 i7 y0 y1 y2 y3 y4 y5 y6 y7 f0 f1 f2 f3 f4 f5 f6 f7 j0 j1 j2 j3 j4 j5 j6 j7 e0 e1 e2 e3 e4 e5 e6 e7
      generalize ((((((((wr.setCell ⟨w.heap.size + 1, 0, none⟩ (.int .i64 (s.n : Int))).setCell ⟨w.heap.size + 1, 1, none⟩ (.int .i64 s.t)).setCell ⟨w.heap.size + 1, 2, none⟩ (.int .i64 s.d)).setCell ⟨w.heap.size + 1, 3, none⟩ (.int .u64 (s.v : Int))).setCell ⟨w.heap.size + 1, 4, none⟩ (.int .u64 (s.e : Int))).setCell ⟨w.heap.size + 1, 5, none⟩ (.int .u64 (s.x.prev : Int))).setCell ⟨w.heap.size + 1, 6, none⟩ (.int .i64 (s.x.lead : Int))).setCell ⟨w.heap.size + 1, 7, none⟩ (.int .i64 (s.x.len : Int))).drew = Z at *
      obtain ⟨u0, u1, u2, u3, u4, u5, u6, u7⟩ := z9.get8
      go_wp2
      refine bodyPost_ret (v := .tuple #[.slice A' xs.length c', (.agg #[.int .i64 (s.n : Int), .int .i64 s.t, .int .i64 s.d, .int .u64 (s.v : Int), .int .u64 (s.e : Int), .int .u64 (s.x.prev : Int), .int .i64 (s.x.lead : Int), .int .i64 (s.x.len : Int)]), .nilIface]) ?_ rfl ⟨xs, s, _, 0, A', c', a', HD.out, rfl, mZ.rd, fun ad e => Nat.le_trans (by omega) (mZ.block ad e), hZ.1, fun _ => rfl, hZ.2⟩
      simp [results, Tryz.results106, go_sem, u0, u1, u2, u3, u4, u5, u6, u7]

/-- the contract holds -/
theorem bnext_any : NextC := by
  intro g A m c bs a z n s w h _ hl hT _ hs hsn
  by_cases hz : z ≠ 1 ∧ z ≠ 2
  · exact bnext_kind g A m c bs a z n s w h hz.1 hz.2
  · obtain ⟨k, h1, h2⟩ := known_is hz
    exact bnext_in z k ⟨h1, h2⟩ g A m c bs a n s w h hl hT hs hsn

end Go.Proofs.YtaebljoacffghaaGreatDoor

/-
  Words for memory: what stays where one block turns; a slice of bits from a place on; what Next comes to, behind its box.
-/
namespace Go.Proofs.YtaebljoacffghaaGreatDoor
open Go.RowKit

theorem bel_went {w w1 w2 : World} {g : Nat} (h : w1.grownBy w2 (some g)) (hb : Below w.heap.size w w1) (hg : w.heap.size ≤ g) : Below w.heap.size w w2 := hb.grown h hb.size (fun k e => by injection e with e; omega)
theorem gr_drew {w w1 : World} {row : Option Nat} (h : w.grownBy w1 row) : w.grownBy w1.drew row := gr_below h ((Below.refl _ _).drew)
theorem gr_alloc {w w1 : World} {row : Option Nat} (h : w.grownBy w1 row) (o : Obj) : w.grownBy (w1.alloc o) row := gr_below h ((Below.refl _ _).alloc (Nat.le_refl _) o)
theorem gr_set8 (w : World) (d : Nat) (u0 u1 u2 u3 u4 u5 u6 u7 : Value) : w.grownBy ((((((((w.setCell ⟨d, 0, none⟩ (u0)).setCell ⟨d, 1, none⟩ (u1)).setCell ⟨d, 2, none⟩ (u2)).setCell ⟨d, 3, none⟩ (u3)).setCell ⟨d, 4, none⟩ (u4)).setCell ⟨d, 5, none⟩ (u5)).setCell ⟨d, 6, none⟩ (u6)).setCell ⟨d, 7, none⟩ (u7)) (some d) :=
  (((((((only_set w d 0 u0).trans (only_set _ d 1 u1)).trans (only_set _ d 2 u2)).trans (only_set _ d 3 u3)).trans (only_set _ d 4 u4)).trans (only_set _ d 5 u5)).trans (only_set _ d 6 u6)).trans (only_set _ d 7 u7)
section
variable {w w' : World} {B n c g : Nat} {A : Option Addr} {row : Option Nat}
theorem Rd.farN {bs : List Nat} (h : Rd w B A n c bs) (hg : w.grownBy w' row) (hne : ∀ ad, A = some ad → row ≠ some ad.block) : Rd w' B A n c bs :=
  ⟨h.len, h.cap, h.no, fun hn => by
    obtain ⟨ad, e, hb, hc⟩ := h.cell hn
    exact ⟨ad, e, hb, fun j hj => hg.cell (hc j hj) (by rw [add_block]; exact fun e' => hne ad e e'.symm)⟩⟩
theorem RdQ.farN {xs : List (Int × Nat)} (h : RdQ w B A n c xs) (hg : w.grownBy w' row) (hne : ∀ ad, A = some ad → row ≠ some ad.block) : RdQ w' B A n c xs :=
  ⟨h.len, h.cap, h.no, fun hn => by
    obtain ⟨ad, e, hb, hc⟩ := h.cell hn
    exact ⟨ad, e, hb, fun j hj => ⟨hg.cell (hc j hj).1 (by rw [add_block]; exact fun e' => hne ad e e'.symm), hg.cell (hc j hj).2 (by rw [add_block]; exact fun e' => hne ad e e'.symm)⟩⟩, h.fit⟩
theorem Rdr.farG {m a d : Nat} {bs : List Nat} (h : Rdr w g A m c bs a) (hg : w.grownBy w' (some d)) (hd : g < d) : Rdr w' g A m c bs a :=
  h.keep fun k hk => hg.block k (by have := h.lt; omega) (by simp; omega)
theorem below_far {w0 : World} {d : Nat} (h : Below w0.heap.size w0 w) (hg : w.grownBy w' (some d)) (hd : w0.heap.size ≤ d) : Below w0.heap.size w0 w' := bel_went hg h hd
theorem Own.block {w0 : World} {bs : List Nat} (h : Own w0 w (.slice A n c) bs) : ∀ ad, A = some ad → w0.heap.size ≤ ad.block := by
  intro ad e
  subst e
  rcases h.row.2 with ⟨h1, _⟩ | ⟨g, cap, cur, hv, hg, _⟩
  · cases h1
  · injection hv with e1 e2 e3
    injection e1 with e1
    subst e1
    exact hg
/-- bits from a place on -/
theorem rd_slice {p : List Bool} {k : Nat} (h : Rd w B A n c (enc p)) (hk : k ≤ n) : Rd w B (if c = k then A else A.map (fun x => x.add k)) (n - k) (c - k) (enc (p.drop k)) := by
  rw [← enc_drop]
  by_cases hc : c = k
  · rw [if_pos hc]
    subst hc
    have := h.tailEnd hk
    rw [Nat.sub_self]
    exact this
  · rw [if_neg hc]
    exact h.tail hk
theorem far_slice {P : Nat → Prop} {k : Nat} (h : ∀ ad, A = some ad → P ad.block) : ∀ ad, (if c = k then A else A.map (fun x => x.add k)) = some ad → P ad.block := by
  intro ad e
  split at e
  · exact h ad e
  · cases A with
    | none => cases e
    | some a0 =>
      simp only [Option.map_some] at e
      injection e with e
      subst e
      rw [add_block]
      exact h a0 rfl
end
theorem BatA.le {z n : Int} {s : KS} {p : List Bool} {xs : List (Int × Nat)} {s1 : KS} {p1 : List Bool} {e : Nat} (hs : s.May) (h : BatA z n s p xs s1 p1 e) : e ≤ 6 ∧ xs.length ≤ 32 ∧ s1.May ∧ s1.n ≤ s.n + 32 := by
  rcases h with ⟨_, rfl, rfl, rfl⟩ | ⟨_, h⟩
  · exact ⟨by omega, by simp, hs, by omega⟩
  · obtain ⟨h1, h2, h3, h4, _⟩ := h.le hs
    exact ⟨h1, by omega, h3, by omega⟩
/-- amid the reference's samples: some were got, or what is amiss was met -/
def AtIn (g8 g10 m1 : Nat) (z n : Int) (s : KS) (p : List Bool) (V : World) (N : Nat) (x9 x16 x17 x18 : Value) (wq : World) : Prop :=
  ∃ (k : Nat) (ys : List (Int × Nat)) (su : KS) (bad : Nat) (A : Option Addr) (l c : Nat), k ≤ 32 ∧ x18 = .int .i64 ((k : Nat) : Int) ∧ x17 = .int .i64 ((bad : Nat) : Int) ∧ x9 = .slice A l c ∧ su.May ∧ su.n ≤ s.n + k ∧ ys.length ≤ k ∧
    MidQ (bare V) V.heap.size wq x16 ys ∧ BoxL wq (g10 + 1) [.int .i64 (su.n : Int), .int .i64 su.t, .int .i64 su.d, .int .u64 (su.v : Int), .int .u64 (su.e : Int), .int .u64 (su.x.prev : Int), .int .i64 (su.x.lead : Int), .int .i64 (su.x.len : Int)] ∧ V.grownBy wq (some (g10 + 1)) ∧ (∀ ad, A = some ad → g8 < ad.block) ∧
    ((bad = 0 ∧ (z = 1 ∨ z = 2) ∧ k ≤ N ∧ ys.length = k ∧ ∃ q, GoneB z s p N ys (N - k) su q ∧ Rd wq g10 A l c (enc q) ∧ q.length ≤ 8 * m1) ∨ (bad ≠ 0 ∧ ∃ p2, BatA z n s p ys su p2 bad))
/-- behind them -/
def OutIn (g8 g10 : Nat) (z n : Int) (s : KS) (p : List Bool) (V : World) (x9 x16 x17 : Value) (wq : World) : Prop :=
  ∃ (ys : List (Int × Nat)) (su : KS) (bad : Nat) (A : Option Addr) (l c : Nat) (p2 : List Bool), x17 = .int .i64 ((bad : Nat) : Int) ∧ x9 = .slice A l c ∧ BatA z n s p ys su p2 bad ∧
    MidQ (bare V) V.heap.size wq x16 ys ∧ BoxL wq (g10 + 1) [.int .i64 (su.n : Int), .int .i64 su.t, .int .i64 su.d, .int .u64 (su.v : Int), .int .u64 (su.e : Int), .int .u64 (su.x.prev : Int), .int .i64 (su.x.lead : Int), .int .i64 (su.x.len : Int)] ∧ V.grownBy wq (some (g10 + 1)) ∧ (∀ ad, A = some ad → g8 < ad.block) ∧ (bad = 0 → Rd wq g10 A l c (enc p2))
/-- what Next comes to, its state in a box of its own -/
def NXAt (wr : World) (g : Nat) (A : Option Addr) (m c : Nat) (bs : List Nat) (z n : Int) (s : KS) (p : List Bool) (x13 x14 x15 : Value) (wx : World) : Prop :=
  ∃ (xs : List (Int × Nat)) (s1 : KS) (p1 : List Bool) (er : Nat) (A' : Option Addr) (c' a' gs : Nat), BatA z n s p xs s1 p1 er ∧ x13 = .slice A' xs.length c' ∧ x14 = .pointer (some ⟨gs, 0, none⟩) ∧ x15 = errV er ∧
    RdQ wx wx.heap.size A' xs.length c' xs ∧ (∀ ad, A' = some ad → wr.heap.size ≤ ad.block) ∧ Rdr wx g A m c bs a' ∧ (er = 0 → p1 = (flat bs).drop a') ∧ wr.grownBy wx (some g) ∧ BoxL wx gs [.int .i64 (s1.n : Int), .int .i64 s1.t, .int .i64 s1.d, .int .u64 (s1.v : Int), .int .u64 (s1.e : Int), .int .u64 (s1.x.prev : Int), .int .i64 (s1.x.lead : Int), .int .i64 (s1.x.len : Int)] ∧ wr.heap.size ≤ gs
/-- the box made behind the call -/
theorem NXAt.after {wr X w9 : World} {g m c : Nat} {A : Option Addr} {bs : List Nat} {z n : Int} {s : KS} {p p1 : List Bool} {xs : List (Int × Nat)} {s1 : KS} {er : Nat} {A' : Option Addr} {c' a' : Nat}
    (hd : BatA z n s p xs s1 p1 er) (hq : RdQ w9 w9.heap.size A' xs.length c' xs) (hA : ∀ ad, A' = some ad → X.heap.size ≤ ad.block) (hr : Rdr w9 g A m c bs a') (hp : er = 0 → p1 = (flat bs).drop a') (hb : Below wr.heap.size wr X) (hg : X.grownBy w9 (some g)) (t : TypeId) :
    NXAt wr g A m c bs z n s p (.slice A' xs.length c') (.pointer (some ⟨w9.heap.size, 0, none⟩)) (errV er) (w9.alloc (.cells #[.int .i64 (s1.n : Int), .int .i64 s1.t, .int .i64 s1.d, .int .u64 (s1.v : Int), .int .u64 (s1.e : Int), .int .u64 (s1.x.prev : Int), .int .i64 (s1.x.lead : Int), .int .i64 (s1.x.len : Int)] t)) := by
  have hal : Below w9.heap.size w9 (w9.alloc (.cells #[.int .i64 (s1.n : Int), .int .i64 s1.t, .int .i64 s1.d, .int .u64 (s1.v : Int), .int .u64 (s1.e : Int), .int .u64 (s1.x.prev : Int), .int .i64 (s1.x.lead : Int), .int .i64 (s1.x.len : Int)] t)) := (Below.refl _ _).alloc (Nat.le_refl _) _
  have h1 : wr.grownBy w9 (some g) := (grown_below hb _).trans hg
  exact ⟨xs, s1, p1, er, A', c', a', _, hd, rfl, rfl, rfl, (hq.below hal).more hal.size, fun ad e => Nat.le_trans hb.size (hA ad e), hr.below hal, hp, gr_below h1 hal, BoxL.new w9 [.int .i64 (s1.n : Int), .int .i64 s1.t, .int .i64 s1.d, .int .u64 (s1.v : Int), .int .u64 (s1.e : Int), .int .u64 (s1.x.prev : Int), .int .i64 (s1.x.lead : Int), .int .i64 (s1.x.len : Int)] t, h1.size⟩
/-- the box made ahead of it -/
theorem NXAt.ahead {wr X w9 : World} {g m c : Nat} {A : Option Addr} {bs : List Nat} {z n : Int} {s : KS} {p p1 : List Bool} {xs : List (Int × Nat)} {s1 : KS} {er : Nat} {A' : Option Addr} {c' a' : Nat}
    (hd : BatA z n s p xs s1 p1 er) (hq : RdQ w9 w9.heap.size A' xs.length c' xs) (hA : ∀ ad, A' = some ad → X.heap.size ≤ ad.block) (hr : Rdr w9 g A m c bs a') (hp : er = 0 → p1 = (flat bs).drop a') (hb : Below wr.heap.size wr X) (hX : X.heap.size = wr.heap.size + 1) (hg : X.grownBy w9 (some g)) (hlt : g < wr.heap.size)
    {l : List Value} (hl : l.length = 8) (hx : BoxL w9 wr.heap.size l) : NXAt wr g A m c bs z n s p (.slice A' xs.length c') (.pointer (some ⟨wr.heap.size, 0, none⟩)) (errV er) ((((((((w9.setCell ⟨wr.heap.size, 0, none⟩ (.int .i64 (s1.n : Int))).setCell ⟨wr.heap.size, 1, none⟩ (.int .i64 s1.t)).setCell ⟨wr.heap.size, 2, none⟩ (.int .i64 s1.d)).setCell ⟨wr.heap.size, 3, none⟩ (.int .u64 (s1.v : Int))).setCell ⟨wr.heap.size, 4, none⟩ (.int .u64 (s1.e : Int))).setCell ⟨wr.heap.size, 5, none⟩ (.int .u64 (s1.x.prev : Int))).setCell ⟨wr.heap.size, 6, none⟩ (.int .i64 (s1.x.lead : Int))).setCell ⟨wr.heap.size, 7, none⟩ (.int .i64 (s1.x.len : Int))) := by
  have h1 : wr.grownBy w9 (some g) := (grown_below hb _).trans hg
  have h2 := gr_set8 w9 wr.heap.size (.int .i64 (s1.n : Int)) (.int .i64 s1.t) (.int .i64 s1.d) (.int .u64 (s1.v : Int)) (.int .u64 (s1.e : Int)) (.int .u64 (s1.x.prev : Int)) (.int .i64 (s1.x.lead : Int)) (.int .i64 (s1.x.len : Int))
  refine ⟨xs, s1, p1, er, A', c', a', _, hd, rfl, rfl, rfl, ?_, fun ad e => Nat.le_trans hb.size (hA ad e), hr.farG h2 hlt, hp, gr_own h1 h2 (fun j e => by injection e with e; omega), hx.all8_ hl _ _ _ _ _ _ _ _, Nat.le_refl _⟩
  exact (hq.farN h2 (fun ad e e' => by have := hA ad e; injection e' with e'; omega)).more h2.size

end Go.Proofs.YtaebljoacffghaaGreatDoor

/-
  The contract of layer 12's Decode: the samples of any bytes, up to what is amiss.
-/
namespace Go.Proofs.YtaebljoacffghaaGreatDoor
open Go.RowKit

/-- what Decode comes to -/
def RetQD (w : World) (z : Int) (bs : List Nat) (n : Int) (e : Ending) (w' : World) : Prop :=
  ∃ xs er A c, DecA z bs n xs er ∧ e = .returned (.tuple #[.slice A xs.length c, errV er]) ∧ OwnQ w w' (.slice A xs.length c) xs
/-- behind some batches: these, the state in a box, the reader -/
def AtQD (w : World) (g n : Nat) (z : Int) (A : Option Addr) (m c : Nat) (bs : List Nat) (l : Value) (wr : World) : Prop :=
  ∃ (j a : Nat) (xs : List (Int × Nat)) (s : KS), j ≤ n ∧ AtQ z (flat bs) j xs s ((flat bs).drop a) ∧ MidQ w (g + 2) wr l xs ∧ BoxL wr g [.int .i64 (s.n : Int), .int .i64 s.t, .int .i64 s.d, .int .u64 (s.v : Int), .int .u64 (s.e : Int), .int .u64 (s.x.prev : Int), .int .i64 (s.x.lead : Int), .int .i64 (s.x.len : Int)] ∧ Rdr wr (g + 1) A m c bs a
def slen : Value → Nat
  | .slice _ n _ => n
  | _ => 0
section
variable {w w1 w2 : World} {g B : Nat} {v : Value} {xs : List (Int × Nat)}
theorem MidQ.wentO (h : MidQ w B w1 v xs) (hg : w1.grownBy w2 (some g)) (h0 : w.heap.size ≤ g) (hgB : g < B) : MidQ w B w2 v xs :=
  ⟨h.row.kept hg (.inr fun e => by have := (h.row.lt g e).1; omega), bel_went hg h.bel h0, h.le, h.fit⟩
theorem Rdr.reset {B n c a : Nat} {A : Option Addr} {bs : List Nat} (h : Rdr w1 g A n c bs a) (hr : Rd w2 B A n c bs) (hB : B ≤ g) (hk : w2.heap[g]? = w1.heap[g]?) : Rdr w2 g A n c bs a :=
  ⟨(World.cell?_of_block hk).trans h.c0, (World.cell?_of_block hk).trans h.c1, (World.frozen?_of_block hk).trans h.f1, hr.more hB, h.byte, h.at_, h.few⟩
end

set_option maxRecDepth 20000 in
set_option maxHeartbeats 1000000 in
theorem quickdec_arg (A : Option Addr) (m c : Nat) (bs : List Nat) (z n : Int) (w : World) (_hn : -9223372036854775808 ≤ n ∧ n ≤ 9223372036854775807) (h : n < 1 ∨ (1 ≤ n ∧ 65535 < n)) :
    Calls Tryz.prog 89 #[.int .i64 z, .slice A m c, .int .i64 n] w (RetQD w z bs n) := by
  have HD : Hid (DecA z bs n [] 1) := Lib.hid (.inl ⟨by omega, rfl, rfl⟩)
  rcases h with h | h
  all_goals
    go_enter Tryz.func89, Tryz.ntmps89
    go_wp2
    go_ret2
    exact ⟨[], 1, none, 0, HD.out, rfl, OwnQ.nil_ _ _ (Below.refl _ _)⟩

set_option maxRecDepth 20000 in
set_option maxHeartbeats 4000000 in
theorem quickdec_in (A : Option Addr) (m c : Nat) (bs : List Nat) (z : Int) (n : Nat) (w : World) (h : Rd w w.heap.size A m c bs) (hb : ∀ x ∈ bs, x < 256) (hm : m ≤ 10000) (hn : 1 ≤ n ∧ n ≤ 65535) (hT : TabsW w) :
    Calls Tryz.prog 89 #[.int .i64 z, .slice A m c, .int .i64 (n : Int)] w (RetQD w z bs (n : Int)) := by
  have HB := Lib.hid hb
  have hN := bnext_any
  unfold NextC at hN
  have HN := Lib.hid hN
  have hn1 : ¬ (n : Int) < 1 := by omega
  have hn2 : ¬ 65535 < (n : Int) := by omega
  have HDA : Hid (∀ xs e, Dec z n zeroK (flat bs) xs e → DecA z bs (n : Int) xs e) := Lib.hid fun xs e hd => .inr ⟨by omega, by simpa using hd⟩
  clear hb hN
  go_enter Tryz.func89, Tryz.ntmps89
  go_upto_region 5 with fail
  have b9 := BoxL.new w [.int .i64 0, .int .i64 0, .int .i64 0, .int .u64 0, .int .u64 0, .int .u64 0, .int .i64 0, .int .i64 0] 151
  have hW : Below w.heap.size w (w.alloc (.cells #[.int .i64 0, .int .i64 0, .int .i64 0, .int .u64 0, .int .u64 0, .int .u64 0, .int .i64 0, .int .i64 0] 151)) := by repeat (first | with_reducible exact Below.refl _ _ | with_reducible assumption | with_reducible refine Below.drew ?_ | with_reducible refine below_drewN ?_ _ | with_reducible refine Below.alloc ?_ (by (first | assumption | omega | (simp; done) | (simp; omega))) _ | with_reducible refine below_set ?_ (by (first | assumption | omega | (simp; done) | (simp; omega))) _ _)
  have hWs : (w.alloc (.cells #[.int .i64 0, .int .i64 0, .int .i64 0, .int .u64 0, .int .u64 0, .int .u64 0, .int .i64 0, .int .i64 0] 151)).heap.size = w.heap.size + 1 := by simp
  generalize w.alloc (.cells #[.int .i64 0, .int .i64 0, .int .i64 0, .int .u64 0, .int .u64 0, .int .u64 0, .int .i64 0, .int .i64 0] 151) = W at *
  obtain ⟨g9, hg9⟩ : ∃ g, w.heap.size = g := ⟨_, rfl⟩
  have hnew := new_any A m c bs W ((h.below hW).more hW.size) HB.out (by omega)
  rw [hg9] at b9 hWs
  rw [hWs] at hnew
  rw [show w.heap.size = g9 from hg9]
  go_wp2_with fail
  refine hnew.mono ?_
  rintro e W2 ⟨rfl, hrd0, hb2, hs2⟩
  have b9' := b9.below (hb2.mono (by rw [hWs]; exact Nat.le_refl _))
  have hW2 := hW.trans (hb2.mono (by rw [hg9]; omega))
  have HG9 := Lib.hid hg9
  clear hnew b9 hW hb2 hs2 hWs hg9 hn1 hn2
  clear W
  go_upto_block 0 with fail
  go_wp2_with fail
  go_loopw [8] (fun l wr => AtQD w g9 n z A m c bs l wr) (fun l _ => n - slen l)
  case atStart =>
    exact ⟨0, 0, [], zeroK, Nat.zero_le _, AtQ.zero _ _, MidQ.nil_ hW2 (by rw [HG9.out]; omega), b9', hrd0⟩
  case round =>
    clear b9' hrd0 hW2
    obtain ⟨j, a, xs, s, hj, hat, hmr, x9, hrd⟩ := hrel
    obtain ⟨hxl, hs, hsn⟩ := hat.same_len
    have hwrs := hmr.bel.size
    have l9 := x9.lt
    have l10 := hrd.lt
    have HXL := Lib.hid hxl
    have HAT := Lib.hid hat
    obtain ⟨A8, c8, rfl, _⟩ := hmr.own.form
    rw [HXL.out] at hmr ⊢
    clear hxl hat
    by_cases hlt : j < n
    · obtain ⟨d, hd⟩ : ∃ d : Int, (n : Int) - (j : Int) = d := ⟨_, rfl⟩
      have hsub : IntKind.i64.wrap ((n : Int) - (j : Int)) = d := by rw [hd]; exact IntWalk.i64_in _ (by omega)
      have hdb : -9223372036854775808 ≤ d ∧ d ≤ 9223372036854775807 := by omega
      have HD := Lib.hid hd
      have hT0 := hT.bel hmr.bel
      have hT1 : TabsLt (g9 + 1) := hT.lt.le (by rw [HG9.out]; omega)
      have HSN := Lib.hid hsn
      have hsn9 : s.n ≤ 900000 := by omega
      have HJN := Lib.hid hlt
      have hjn : (j : Int) < (n : Int) := by omega
      clear hd hsn hlt
      go_upto_region 7 with fail
      go_cut [11, 12, 13] (fun x11 x12 x13 wx => NXAt wr (g9 + 1) A m c bs z d s ((flat bs).drop a) x11 x12 x13 wx)
      case first =>
        obtain ⟨f0, f1, f2, f3, f4, f5, f6, f7⟩ := x9.get8
        have hNx := HN.out (g9 + 1) A m c bs a z d s wr hrd (by omega) hT1 hT0 hdb hs hsn9
        clear hmr x9 hrd
        go_wp2_with fail
        refine hNx.mono ?_
        rintro e w9 ⟨xs9, s9, p9, er9, A9, c9, a9, hd9, rfl, hq9, hA9, hr9, hp9, hg9⟩
        clear hNx f0 f1 f2 f3 f4 f5 f6 f7
        go_wp2_with fail
        go_meet
        exact NXAt.after hd9 hq9 hA9 hr9 hp9 (Below.refl _ _) hg9 _
      case rest =>
        obtain ⟨ys, s1, p1, er, A', c', a', gs, hd, rfl, rfl, rfl, hq, hA, hrd1, hp, hgr, x14, hgs⟩ := hcut
        replace x9 := x9.grown hgr (by simp)
        have hub : ∀ g, (Value.slice A8 j c8).ownBlock = some g → g < wr.heap.size := fun g hg => (hmr.row.lt g hg).2
        replace hmr := hmr.wentO hgr (by rw [HG9.out]; omega) (by omega)
        obtain ⟨hle1, hle2, hle3, hle4⟩ := hd.le hs
        have hwx := hgr.size
        have HD2 := Lib.hid hd
        have HP := Lib.hid hp
        have l9c := x9.lt
        have l14 := x14.lt
        have l10c := hrd1.lt
        have nx : (Value.slice A8 j c8).ownBlock ≠ some gs := fun e => by have := hub _ e; omega
        have hxm : xs.length + ys.length ≤ 8796093022208 := by rw [HXL.out]; omega
        have hVs : g9 + 2 ≤ wc.heap.size := by omega
        obtain ⟨L, HL⟩ : ∃ L, Hid (ys.length = L) := ⟨_, Lib.hid rfl⟩
        obtain ⟨ev, HE⟩ : ∃ ev, Hid (errV er = ev) := ⟨_, Lib.hid rfl⟩
        rw [HL.out] at hq hxm hle2 ⊢
        rw [HE.out]
        clear hd hp hrd hgr hub hA hT0
        go_upto_region 8 with fail
        go_upto_region 9 with (at_builtin; (refine wpList_appMQ rfl (.tmp 39) (.tmp 40) rfl rfl rfl hmr hVs hq hxm ?_; intro v' w' m' hb' hg'))
        have x9W := x9.belowB hb' (by omega)
        have x14W := x14.grown hg' nx
        have hrdW := hrd1.keep (w' := w') fun k hk => hb'.block k (by omega)
        clear hq hmr x9 x14 hrd1 hg' hb'
        by_cases he : er = 0
        · subst he
          have hev : ev = .nilIface := HE.out.symm.trans rfl
          have hpp := HP.out rfl
          subst hpp
          have hmore := HAT.out.more HJN.out (by rw [HD.out]; exact HD2.out)
          rw [HL.out] at hmore
          obtain ⟨hm1, hm2, hm3⟩ := hmore
          have HM1 := Lib.hid hm1
          obtain ⟨z0, z1, z2, z3, z4, z5, z6, z7⟩ := x14W.get8
          obtain ⟨k0, k1, k2, k3, k4, k5, k6, k7⟩ := x9W.get8
          obtain ⟨kf0, kf1, kf2, kf3, kf4, kf5, kf6, kf7⟩ := x9W.free8
          have hne : g9 ≠ gs := by omega
          have mF := m'.set8 (g := g9) (by rw [HG9.out]; exact Nat.le_refl _) (by omega) (.int .i64 (s1.n : Int)) (.int .i64 s1.t) (.int .i64 s1.d) (.int .u64 (s1.v : Int)) (.int .u64 (s1.e : Int)) (.int .u64 (s1.x.prev : Int)) (.int .i64 (s1.x.lead : Int)) (.int .i64 (s1.x.len : Int))
          have xF := x9W.all8 (.int .i64 (s1.n : Int)) (.int .i64 s1.t) (.int .i64 s1.d) (.int .u64 (s1.v : Int)) (.int .u64 (s1.e : Int)) (.int .u64 (s1.x.prev : Int)) (.int .i64 (s1.x.lead : Int)) (.int .i64 (s1.x.len : Int))
          have rF := hrdW.reset (h.below mF.bel) (by rw [HG9.out]; omega) ((gr_set8 w' g9 (.int .i64 (s1.n : Int)) (.int .i64 s1.t) (.int .i64 s1.d) (.int .u64 (s1.v : Int)) (.int .u64 (s1.e : Int)) (.int .u64 (s1.x.prev : Int)) (.int .i64 (s1.x.lead : Int)) (.int .i64 (s1.x.len : Int))).block (g9 + 1) hrdW.lt (by simp))
          obtain ⟨A2, c2, hv, _⟩ := m'.own.form
          rw [show (xs ++ ys).length = j + L by rw [List.length_append, HXL.out, HL.out]] at hv
          have HV := Lib.hid hv
          clear hv
          have HRF := Lib.hid (And.intro mF (And.intro xF rF))
          subst hev
          clear mF xF rF m' x9W x14W hrdW
          go_wp2_with fail
          clear z0 z1 z2 z3 z4 z5 z6 z7 k0 k1 k2 k3 k4 k5 k6 k7 kf0 kf1 kf2 kf3 kf4 kf5 kf6 kf7
          go_roundw
          case rel => exact ⟨j + L, a', xs ++ ys, s1, hm3, HM1.out, HRF.out.1, HRF.out.2.1, HRF.out.2.2⟩
          case measure =>
            rw [HV.out]
            simp [slen]
            omega
        · have hev : errV er = .iface 59 (.int .i64 (er : Int)) := by unfold errV; rw [if_neg he]
          have HDD := Lib.hid (HDA.out _ _ (HAT.out.err HJN.out (by rw [HD.out]; exact HD2.out) he))
          have hown := m'.own
          obtain ⟨A', c', rfl, _⟩ := hown.form
          obtain ⟨LL, HLL⟩ : ∃ LL, Hid ((xs ++ ys).length = LL) := ⟨_, Lib.hid rfl⟩
          rw [HLL.out] at hown ⊢
          obtain rfl := hev.symm.trans HE.out
          clear m' x9W x14W hrdW
          go_wp2_with fail
          go_ret2
          exact ⟨xs ++ ys, er, A', c', HDD.out, (by rw [hev, HLL.out]; kernel_rfl), by rw [HLL.out]; exact hown⟩
    · obtain rfl : j = n := by omega
      have HD := Lib.hid (HDA.out _ _ HAT.out.done)
      have hF := qfill_any (g9 + 1) A m c bs a wr hrd
      have hown := hmr.own
      clear x9 hmr hrd hsn
      rcases tailE_zero ((flat bs).drop a) with h0 | h0
      · rw [h0] at hF HD
        rw [show decide ((0 : Nat) = 0) = true from rfl] at hF
        clear h0
        go_wp2_with fail
        refine hF.mono ?_
        rintro e w1 ⟨rfl, k, rfl⟩
        go_wp2
        go_ret2
        exact ⟨xs, 0, A8, c8, HD.out, (by rw [HXL.out]; rfl), by rw [HXL.out]; exact hown.keep (below_drewN (Below.refl _ _) k)⟩
      · rw [h0] at hF HD
        rw [show decide ((3 : Nat) = 0) = false from rfl] at hF
        clear h0
        go_wp2_with fail
        refine hF.mono ?_
        rintro e w1 ⟨rfl, k, rfl⟩
        go_wp2
        go_ret2
        exact ⟨xs, 3, A8, c8, HD.out, (by rw [HXL.out]; kernel_rfl), by rw [HXL.out]; exact hown.keep (below_drewN (Below.refl _ _) k)⟩

theorem quickdec_any (A : Option Addr) (m c : Nat) (bs : List Nat) (z n : Int) (w : World) (hn : -9223372036854775808 ≤ n ∧ n ≤ 9223372036854775807) (h : Rd w w.heap.size A m c bs) (hb : ∀ x ∈ bs, x < 256) (hm : m ≤ 10000) (hT : TabsW w) :
    Calls Tryz.prog 89 #[.int .i64 z, .slice A m c, .int .i64 n] w (RetQD w z bs n) := by
  by_cases h1 : 1 ≤ n ∧ n ≤ 65535
  · obtain ⟨k, rfl⟩ := Int.eq_ofNat_of_zero_le (show 0 ≤ n by omega)
    exact quickdec_in A m c bs z k w h hb hm (by omega) hT
  · exact quickdec_arg A m c bs z n w hn (by omega)

end Go.Proofs.YtaebljoacffghaaGreatDoor
