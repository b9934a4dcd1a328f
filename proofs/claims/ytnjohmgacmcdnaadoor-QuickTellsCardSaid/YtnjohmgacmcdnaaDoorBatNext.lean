/-
  The contract of layer 11's Next.
-/
import Derived.Test.YtnjohmgacmcdnaaDoorBatOne
import Derived.Test.YtnjohmgacmcdnaaDoorMidQ
import Derived.Deep.CutBlock
namespace Go.Proofs.YtnjohmgacmcdnaaDoor
open Go.RowKit

/-- the world without its blocks -/
def bare (w : World) : World := { w with heap := #[] }
section
variable {w w1 w2 : World} {g B : Nat} {v : Value} {xs : List (Int × Nat)}
theorem bare_size (w : World) : (bare w).heap.size = 0 := rfl
theorem bare_below {row : Option Nat} (h : w.grownBy w1 row) : Below (bare w).heap.size (bare w) w1 := ⟨h.os, h.tape, h.output, Nat.zero_le _, fun k hk => absurd hk (Nat.not_lt_zero k)⟩
/-- samples of the call's own, where a block ahead of them has turned -/
theorem MidQ.went (h : MidQ (bare w) B w1 v xs) (hg : w1.grownBy w2 (some g)) (hgB : g < B) : MidQ (bare w) B w2 v xs :=
  ⟨h.row.kept hg (.inr fun e => by have := (h.row.lt g e).1; omega), ⟨hg.os.trans h.bel.os, hg.tape.trans h.bel.tape, hg.output.trans h.bel.output, Nat.zero_le _, fun k hk => absurd hk (Nat.not_lt_zero k)⟩, h.le, h.fit⟩
theorem MidQ.block {A : Option Addr} {n c : Nat} {w0 : World} (h : MidQ w0 B w1 (.slice A n c) xs) : ∀ ad, A = some ad → B ≤ ad.block := by
  intro ad e
  subst e
  rcases h.row.2 with ⟨h1, _⟩ | ⟨g, cap, cur, hv, hg, _⟩
  · cases h1
  · injection hv with e1 e2 e3
    injection e1 with e1
    subst e1
    exact hg
end
theorem Wt.belowB {w w1 w2 : World} {g m c a B : Nat} {A : Option Addr} {bs : List Nat} (h : Wt w g A m c bs a w1) (hb : Below B w1 w2) (hB : w.heap.size ≤ B) (hg : g < w.heap.size) : Wt w g A m c bs a w2 :=
  ⟨h.1.keep fun k hk => hb.block k (by omega), ⟨hb.os.trans h.2.os, hb.tape.trans h.2.tape, hb.output.trans h.2.output, Nat.le_trans h.2.size hb.size, fun i hi hne => (hb.block i (by omega)).trans (h.2.block i hi hne)⟩⟩
theorem Wt.put8 {w w1 : World} {g m c a : Nat} {A : Option Addr} {bs : List Nat} (h : Wt w g A m c bs a w1) (hg : g < w.heap.size) {d : Nat} (hd : w.heap.size ≤ d) (u0 u1 u2 u3 u4 u5 u6 u7 : Value) : Wt w g A m c bs a ((((((((w1.setCell ⟨d, 0, none⟩ (u0)).setCell ⟨d, 1, none⟩ (u1)).setCell ⟨d, 2, none⟩ (u2)).setCell ⟨d, 3, none⟩ (u3)).setCell ⟨d, 4, none⟩ (u4)).setCell ⟨d, 5, none⟩ (u5)).setCell ⟨d, 6, none⟩ (u6)).setCell ⟨d, 7, none⟩ (u7)) :=
  (((((((h.put hg hd 0 u0).put hg hd 1 u1).put hg hd 2 u2).put hg hd 3 u3).put hg hd 4 u4).put hg hd 5 u5).put hg hd 6 u6).put hg hd 7 u7

/-- the two boxes at the head of Next -/
theorem next_boxes (w : World) (s : KS) : Below w.heap.size w ((w.alloc (.cells #[.int .i64 (s.n : Int), .int .i64 s.t, .int .i64 s.d, .int .u64 (s.v : Int), .int .u64 (s.e : Int), .int .u64 (s.x.prev : Int), .int .i64 (s.x.lead : Int), .int .i64 (s.x.len : Int)] 46)).alloc (.cells #[.int .i64 0, .int .i64 0, .int .i64 0, .int .u64 0, .int .u64 0, .int .u64 0, .int .i64 0, .int .i64 0] 46)) ∧
    BoxL ((w.alloc (.cells #[.int .i64 (s.n : Int), .int .i64 s.t, .int .i64 s.d, .int .u64 (s.v : Int), .int .u64 (s.e : Int), .int .u64 (s.x.prev : Int), .int .i64 (s.x.lead : Int), .int .i64 (s.x.len : Int)] 46)).alloc (.cells #[.int .i64 0, .int .i64 0, .int .i64 0, .int .u64 0, .int .u64 0, .int .u64 0, .int .i64 0, .int .i64 0] 46)) w.heap.size [.int .i64 (s.n : Int), .int .i64 s.t, .int .i64 s.d, .int .u64 (s.v : Int), .int .u64 (s.e : Int), .int .u64 (s.x.prev : Int), .int .i64 (s.x.lead : Int), .int .i64 (s.x.len : Int)] ∧
    BoxL ((w.alloc (.cells #[.int .i64 (s.n : Int), .int .i64 s.t, .int .i64 s.d, .int .u64 (s.v : Int), .int .u64 (s.e : Int), .int .u64 (s.x.prev : Int), .int .i64 (s.x.lead : Int), .int .i64 (s.x.len : Int)] 46)).alloc (.cells #[.int .i64 0, .int .i64 0, .int .i64 0, .int .u64 0, .int .u64 0, .int .u64 0, .int .i64 0, .int .i64 0] 46)) (w.heap.size + 1) [.int .i64 0, .int .i64 0, .int .i64 0, .int .u64 0, .int .u64 0, .int .u64 0, .int .i64 0, .int .i64 0] := by
  have h2 := BoxL.new (w.alloc (.cells #[.int .i64 (s.n : Int), .int .i64 s.t, .int .i64 s.d, .int .u64 (s.v : Int), .int .u64 (s.e : Int), .int .u64 (s.x.prev : Int), .int .i64 (s.x.lead : Int), .int .i64 (s.x.len : Int)] 46)) [.int .i64 0, .int .i64 0, .int .i64 0, .int .u64 0, .int .u64 0, .int .u64 0, .int .i64 0, .int .i64 0] 46
  simp only [World.size_alloc] at h2
  exact ⟨by repeat (first | with_reducible exact Below.refl _ _ | assumption | with_reducible refine Below.drew ?_ | with_reducible refine Below.alloc ?_ (by (first | assumption | omega | (simp; done) | (simp; omega))) _), (BoxL.new w [.int .i64 (s.n : Int), .int .i64 s.t, .int .i64 s.d, .int .u64 (s.v : Int), .int .u64 (s.e : Int), .int .u64 (s.x.prev : Int), .int .i64 (s.x.lead : Int), .int .i64 (s.x.len : Int)] 46).onA _, h2⟩
set_option maxRecDepth 20000 in
set_option maxHeartbeats 1000000 in
theorem bnext_kind (g : Nat) (A : Option Addr) (m c : Nat) (bs : List Nat) (a : Nat) (z n : Int) (s : KS) (w : World) (h : Rdr w g A m c bs a) (hz1 : z ≠ 1) (hz2 : z ≠ 2) :
    Calls Tryd.prog 15 #[.int .i64 z, .pointer (some ⟨g, 0, none⟩), (.agg #[.int .i64 (s.n : Int), .int .i64 s.t, .int .i64 s.d, .int .u64 (s.v : Int), .int .u64 (s.e : Int), .int .u64 (s.x.prev : Int), .int .i64 (s.x.lead : Int), .int .i64 (s.x.len : Int)]), .int .i64 n] w (RetNX w g A m c bs a z n s) := by
  have hg := h.lt
  obtain ⟨hV, x6, x9⟩ := next_boxes w s
  have hW := (Wt.of h).below hV
  have HB : Hid (BatA z n s ((flat bs).drop a) [] s [] 6) := Lib.hid (.inl ⟨⟨hz1, hz2⟩, rfl, rfl, rfl⟩)
  have h1 : (z != 1) = true := by simpa using hz1
  have h2 : (z != 2) = true := by simpa using hz2
  clear h hz1 hz2
  go_enter Tryd.func15, Tryd.ntmps15
  go_upto_region 2 with fail
  generalize (w.alloc (.cells #[.int .i64 (s.n : Int), .int .i64 s.t, .int .i64 s.d, .int .u64 (s.v : Int), .int .u64 (s.e : Int), .int .u64 (s.x.prev : Int), .int .i64 (s.x.lead : Int), .int .i64 (s.x.len : Int)] 46)).alloc (.cells #[.int .i64 0, .int .i64 0, .int .i64 0, .int .u64 0, .int .u64 0, .int .u64 0, .int .i64 0, .int .i64 0] 46) = w1 at *
  clear hV
  have z9 := (x9.all8 (.int .i64 (s.n : Int)) (.int .i64 s.t) (.int .i64 s.d) (.int .u64 (s.v : Int)) (.int .u64 (s.e : Int)) (.int .u64 (s.x.prev : Int)) (.int .i64 (s.x.lead : Int)) (.int .i64 (s.x.len : Int))).drew
  have hZ := (hW.put8 hg (d := w.heap.size + 1) (by omega) (.int .i64 (s.n : Int)) (.int .i64 s.t) (.int .i64 s.d) (.int .u64 (s.v : Int)) (.int .u64 (s.e : Int)) (.int .u64 (s.x.prev : Int)) (.int .i64 (s.x.lead : Int)) (.int .i64 (s.x.len : Int))).below ((Below.refl _ _).drew)
  obtain ⟨q0, q1, q2, q3, q4, q5, q6, q7⟩ := x6.get8
  obtain ⟨i0, i1, i2, i3, i4, i5, i6, i7⟩ := x6.drew.get8
  obtain ⟨y0, y1, y2, y3, y4, y5, y6, y7⟩ := x9.get8
  obtain ⟨f0, f1, f2, f3, f4, f5, f6, f7⟩ := x9.free8
  have x9d := x9.drew
  obtain ⟨j0, j1, j2, j3, j4, j5, j6, j7⟩ := x9d.get8
  obtain ⟨e0, e1, e2, e3, e4, e5, e6, e7⟩ := x9d.free8
  clear x6 x9 hW x9d
  go_region
  clear q0 q1 q2 q3 q4 q5 q6 q7 i0 i1 i2 i3 i4 i5 i6 i7 y0 y1 y2 y3 y4 y5 y6 y7 f0 f1 f2 f3 f4 f5 f6 f7 j0 j1 j2 j3 j4 j5 j6 j7 e0 e1 e2 e3 e4 e5 e6 e7
  generalize ((((((((w1.setCell ⟨w.heap.size + 1, 0, none⟩ (.int .i64 (s.n : Int))).setCell ⟨w.heap.size + 1, 1, none⟩ (.int .i64 s.t)).setCell ⟨w.heap.size + 1, 2, none⟩ (.int .i64 s.d)).setCell ⟨w.heap.size + 1, 3, none⟩ (.int .u64 (s.v : Int))).setCell ⟨w.heap.size + 1, 4, none⟩ (.int .u64 (s.e : Int))).setCell ⟨w.heap.size + 1, 5, none⟩ (.int .u64 (s.x.prev : Int))).setCell ⟨w.heap.size + 1, 6, none⟩ (.int .i64 (s.x.lead : Int))).setCell ⟨w.heap.size + 1, 7, none⟩ (.int .i64 (s.x.len : Int))).drew = Z at *
  obtain ⟨u0, u1, u2, u3, u4, u5, u6, u7⟩ := z9.get8
  go_wp2
  refine bodyPost_ret (v := .tuple #[.slice none 0 0, (.agg #[.int .i64 (s.n : Int), .int .i64 s.t, .int .i64 s.d, .int .u64 (s.v : Int), .int .u64 (s.e : Int), .int .u64 (s.x.prev : Int), .int .i64 (s.x.lead : Int), .int .i64 (s.x.len : Int)]), .iface 42 (.int .i64 6)]) ?_ rfl ⟨[], s, [], 6, none, 0, a, HB.out, rfl, ⟨rfl, Nat.le_refl _, fun _ => rfl, fun h => absurd h (by simp), by simp⟩, fun _ e => (by cases e), hZ.1, fun e => (by cases e), hZ.2⟩
  simp [results, Tryd.results15, go_sem, u0, u1, u2, u3, u4, u5, u6, u7]

/-- behind some samples: these, where the reader stands, the state in a box -/
def AtNX (w : World) (g : Nat) (A : Option Addr) (m c : Nat) (bs : List Nat) (a : Nat) (z : Int) (N : Nat) (s0 : KS) (l i : Value) (wr : World) : Prop :=
  ∃ (j a' : Nat) (xs : List (Int × Nat)) (s : KS), j ≤ N ∧ i = .int .i64 ((j : Nat) : Int) ∧ GoneB z s0 ((flat bs).drop a) N xs (N - j) s ((flat bs).drop a') ∧ xs.length = j ∧ s.May ∧ s.n = s0.n + j ∧
    MidQ (bare w) (w.heap.size + 1 + 1) wr l xs ∧ BoxL wr w.heap.size [.int .i64 (s.n : Int), .int .i64 s.t, .int .i64 s.d, .int .u64 (s.v : Int), .int .u64 (s.e : Int), .int .u64 (s.x.prev : Int), .int .i64 (s.x.lead : Int), .int .i64 (s.x.len : Int)] ∧ BoxL wr (w.heap.size + 1) [.int .i64 0, .int .i64 0, .int .i64 0, .int .u64 0, .int .u64 0, .int .u64 0, .int .i64 0, .int .i64 0] ∧ Wt w g A m c bs a' wr
set_option maxRecDepth 20000 in
set_option maxHeartbeats 8000000 in
theorem bnext_in (z : Int) (k : Nat) (hk : z = (k : Int) ∧ (k = 1 ∨ k = 2)) (g : Nat) (A : Option Addr) (m c : Nat) (bs : List Nat) (a : Nat) (n : Int) (s0 : KS) (w : World) (h : Rdr w g A m c bs a) (hl : TabsLt g) (hT : TabsW w) (hs : s0.May) (hsn : s0.n ≤ 900000) :
    Calls Tryd.prog 15 #[.int .i64 z, .pointer (some ⟨g, 0, none⟩), (.agg #[.int .i64 (s0.n : Int), .int .i64 s0.t, .int .i64 s0.d, .int .u64 (s0.v : Int), .int .u64 (s0.e : Int), .int .u64 (s0.x.prev : Int), .int .i64 (s0.x.lead : Int), .int .i64 (s0.x.len : Int)]), .int .i64 n] w (RetNX w g A m c bs a z n s0) := by
  have hg := h.lt
  obtain ⟨hV, x6, x9⟩ := next_boxes w s0
  have hW := (Wt.of h).below hV
  obtain ⟨N, HN⟩ : ∃ N, Hid ((min n 32).toNat = N) := ⟨_, Lib.hid rfl⟩
  obtain ⟨M, HM⟩ : ∃ M, Hid (min n 32 = M) := ⟨_, Lib.hid rfl⟩
  have hm := bare_below (w := w) (grown_below hV (some g))
  have HMin : Hid ((if (32 : Int) < n then 32 else n) = M) := Lib.hid (by rw [← HM.out]; omega)
  have HMN : Hid (M.toNat = N) := Lib.hid (by rw [← HM.out, HN.out])
  have hM32 : M ≤ 32 := by rw [← HM.out]; omega
  have hlen := h.len
  have HL : Hid (∀ a', a' ≤ 8 * m → restL bs (a' : Nat) = (flat bs).drop a') := Lib.hid fun a' ha => restL_yes (by omega)
  have HK := Lib.hid hk
  have hz : z = 1 ∨ z = 2 := by omega
  have HBA : Hid (∀ xs s p1 e, Bat z N s0 ((flat bs).drop a) xs s p1 e → BatA z n s0 ((flat bs).drop a) xs s p1 e) := Lib.hid fun xs s p1 e hb => .inr ⟨hz, by rw [HN.out]; exact hb⟩
  clear h hlen hk
  go_enter Tryd.func15, Tryd.ntmps15
  go_upto_region 1 with fail
  clear hV
  generalize (w.alloc (.cells #[.int .i64 (s0.n : Int), .int .i64 s0.t, .int .i64 s0.d, .int .u64 (s0.v : Int), .int .u64 (s0.e : Int), .int .u64 (s0.x.prev : Int), .int .i64 (s0.x.lead : Int), .int .i64 (s0.x.len : Int)] 46)).alloc (.cells #[.int .i64 0, .int .i64 0, .int .i64 0, .int .u64 0, .int .u64 0, .int .u64 0, .int .i64 0, .int .i64 0] 46) = W at *
  go_cut [15, 16, 17, 18, 19, 20] (fun _ _ _ _ _ x20 wx => x20 = .bool false ∧ wx = W)
  case first =>
    rcases hz with rfl | rfl
    all_goals
      go_wp2
      go_meet
      exact ⟨rfl, rfl⟩
  case rest =>
  obtain ⟨rfl, rfl⟩ := hcut
  go_upto_block 0 with fail
  rw [HMin.out]
  go_wp2_with fail
  go_loopw [11, 25] (fun l i wr => AtNX w g A m c bs a z N s0 l i wr) (fun _ i _ => N - (intOf i).toNat)
  case atStart =>
    exact ⟨0, a, [], s0, Nat.zero_le _, rfl, GoneB.zero z s0 ((flat bs).drop a) N, rfl, hs, rfl, MidQ.nil_ hm (Nat.zero_le _), x6, x9, hW⟩
  case round =>
    clear x6 x9 hm hW
    obtain ⟨j, a', xs, s, hj, rfl, hgone, hxl, hs1, hsn1, hmr, x6, x9, hW⟩ := hrel
    have HXL := Lib.hid hxl
    have HSN := Lib.hid hsn1
    have HMN2 := HMN.out
    have HR := Lib.hid (HL.out a' hW.1.at_)
    by_cases hlt : j < N
    · have hcond : (j : Int) < M := by omega
      have hget := bget_any k HK.out.2 g A m c bs a' s wr hW.1 hs1 (hW.tabs hT hl) hl
      rw [← HK.out.1] at hget
      unfold RetBG at hget
      rw [show N - j = (N - (j + 1)) + 1 by omega] at hgone
      have HG := Lib.hid hgone
      have hsk : s.n ≤ 1000000 := by omega
      clear hgone hxl hsn1 HMN2
      obtain ⟨q0, q1, q2, q3, q4, q5, q6, q7⟩ := x6.get8
      go_wp2_with fail
      refine hget.mono ?_
      clear q0 q1 q2 q3 q4 q5 q6 q7 hget
      rintro e w3 ⟨r, hkg, ⟨he, rfl, a3, hW3⟩ | ⟨he, y, rfl, hrs, hW3⟩⟩
      · have HKG : Hid (KG z s ((flat bs).drop a') r) := Lib.hid (.inr ⟨k, HK.out.1, HK.out.2, by rw [← HR.out]; exact hkg⟩)
        have HD := Lib.hid (HBA.out _ _ _ _ (HG.out.err HKG.out he []))
        have HE := Lib.hid he
        have hev : errV r.e = .iface 42 (.int .i64 (r.e : Int)) := errV_some he
        have HEV := Lib.hid hev
        rw [hev]
        replace x6 := hW3.box x6 (by omega)
        replace x9 := hW3.box x9 (by omega)
        replace hmr := hmr.went hW3.2 (by omega)
        replace hW := hW.trans hW3
        clear hW3 hev he hkg HKG HG
        go_upto_region 8 with fail
        have hal : Below w3.heap.size w3 ((w3.alloc (.cells #[.int .i64 0, .int .u64 0] 41)).alloc (.cells #[.int .u64 0, .int .i64 0, .int .i64 0] 44)) := by repeat (first | with_reducible exact Below.refl _ _ | assumption | with_reducible refine Below.drew ?_ | with_reducible refine Below.alloc ?_ (by (first | assumption | omega | (simp; done) | (simp; omega))) _)
        replace x6 := x6.below hal
        replace x9 := x9.below hal
        replace hmr := hmr.on hal
        replace hW := hW.below hal
        generalize (w3.alloc (.cells #[.int .i64 0, .int .u64 0] 41)).alloc (.cells #[.int .u64 0, .int .i64 0, .int .i64 0] 44) = w1 at *
        clear hal
        generalize w3.heap.size = gx at *
        clear w3
        obtain ⟨A', c', rfl, _⟩ := hmr.own.form
        have mZ := (hmr.set8 (g := w.heap.size + 1) (Nat.zero_le _) (Nat.lt_succ_self _) (.int .i64 (s.n : Int)) (.int .i64 s.t) (.int .i64 s.d) (.int .u64 (s.v : Int)) (.int .u64 (s.e : Int)) (.int .u64 (s.x.prev : Int)) (.int .i64 (s.x.lead : Int)) (.int .i64 (s.x.len : Int))).drew
        clear hmr
        have z9 := (x9.all8 (.int .i64 (s.n : Int)) (.int .i64 s.t) (.int .i64 s.d) (.int .u64 (s.v : Int)) (.int .u64 (s.e : Int)) (.int .u64 (s.x.prev : Int)) (.int .i64 (s.x.lead : Int)) (.int .i64 (s.x.len : Int))).drew
        have hZ := (hW.put8 hg (d := w.heap.size + 1) (by omega) (.int .i64 (s.n : Int)) (.int .i64 s.t) (.int .i64 s.d) (.int .u64 (s.v : Int)) (.int .u64 (s.e : Int)) (.int .u64 (s.x.prev : Int)) (.int .i64 (s.x.lead : Int)) (.int .i64 (s.x.len : Int))).below ((Below.refl _ _).drew)
        obtain ⟨q0, q1, q2, q3, q4, q5, q6, q7⟩ := x6.get8
        obtain ⟨i0, i1, i2, i3, i4, i5, i6, i7⟩ := x6.drew.get8
        obtain ⟨y0, y1, y2, y3, y4, y5, y6, y7⟩ := x9.get8
        obtain ⟨f0, f1, f2, f3, f4, f5, f6, f7⟩ := x9.free8
        have x9d := x9.drew
        obtain ⟨j0, j1, j2, j3, j4, j5, j6, j7⟩ := x9d.get8
        obtain ⟨e0, e1, e2, e3, e4, e5, e6, e7⟩ := x9d.free8
        clear x6 x9 hW x9d
        go_region
        clear q0 q1 q2 q3 q4 q5 q6 q7 i0 i1 i2 i3 i4 i5 i6 i7 y0 y1 y2 y3 y4 y5 y6 y7 f0 f1 f2 f3 f4 f5 f6 f7 j0 j1 j2 j3 j4 j5 j6 j7 e0 e1 e2 e3 e4 e5 e6 e7
        generalize ((((((((w1.setCell ⟨w.heap.size + 1, 0, none⟩ (.int .i64 (s.n : Int))).setCell ⟨w.heap.size + 1, 1, none⟩ (.int .i64 s.t)).setCell ⟨w.heap.size + 1, 2, none⟩ (.int .i64 s.d)).setCell ⟨w.heap.size + 1, 3, none⟩ (.int .u64 (s.v : Int))).setCell ⟨w.heap.size + 1, 4, none⟩ (.int .u64 (s.e : Int))).setCell ⟨w.heap.size + 1, 5, none⟩ (.int .u64 (s.x.prev : Int))).setCell ⟨w.heap.size + 1, 6, none⟩ (.int .i64 (s.x.lead : Int))).setCell ⟨w.heap.size + 1, 7, none⟩ (.int .i64 (s.x.len : Int))).drew = Z at *
        obtain ⟨u0, u1, u2, u3, u4, u5, u6, u7⟩ := z9.get8
        go_wp2
        refine bodyPost_ret (v := .tuple #[.slice A' xs.length c', (.agg #[.int .i64 (s.n : Int), .int .i64 s.t, .int .i64 s.d, .int .u64 (s.v : Int), .int .u64 (s.e : Int), .int .u64 (s.x.prev : Int), .int .i64 (s.x.lead : Int), .int .i64 (s.x.len : Int)]), .iface 42 (.int .i64 (r.e : Int))]) ?_ rfl ⟨xs, s, [], r.e, A', c', a3, HD.out, by rw [HEV.out], mZ.rd, fun ad e => Nat.le_trans (by omega) (mZ.block ad e), hZ.1, fun e => absurd e HE.out, hZ.2⟩
        simp [results, Tryd.results15, go_sem, u0, u1, u2, u3, u4, u5, u6, u7]
      · obtain ⟨hrt, hrv, hrsm, hrn, hre, hok⟩ := kgets_in hs1 hkg
        obtain ⟨hok1, hok2, hok3⟩ := hok he
        have HKG : Hid (KG z s ((flat bs).drop a') r) := Lib.hid (.inr ⟨k, HK.out.1, HK.out.2, by rw [← HR.out]; exact hkg⟩)
        have HS := Lib.hid (HG.out.step HKG.out he)
        rw [List.drop_drop] at HS
        have HOK2 := Lib.hid hok2
        replace x6 := hW3.box x6 (by omega)
        replace x9 := hW3.box x9 (by omega)
        replace hmr := hmr.went hW3.2 (by omega)
        replace hW := hW.trans hW3
        have hAF : ∀ X, Calls Tryd.prog 26 #[.int .i64 z, (.agg #[.int .i64 (s.n : Int), .int .i64 s.t, .int .i64 s.d, .int .u64 (s.v : Int), .int .u64 (s.e : Int), .int .u64 (s.x.prev : Int), .int .i64 (s.x.lead : Int), .int .i64 (s.x.len : Int)]), (.agg #[.int .i64 r.t, .int .u64 (r.v : Int)]), (.agg #[.int .u64 (y.prev : Int), .int .i64 (y.lead : Int), .int .i64 (y.len : Int)])] X fun e w' => e = .returned (.agg #[.int .i64 (r.s.n : Int), .int .i64 r.s.t, .int .i64 r.s.d, .int .u64 (r.s.v : Int), .int .u64 (r.s.e : Int), .int .u64 (r.s.x.prev : Int), .int .i64 (r.s.x.lead : Int), .int .i64 (r.s.x.len : Int)]) ∧ Below X.heap.size X w' := fun X => by
          rw [hrs, HK.out.1]
          exact after_any k s r.t r.v y X HK.out.2 hsk
        clear hW3 he hkg HKG HG hok hok1 hok2 hrs
        go_upto_region 9 with fail
        have hal : Below w3.heap.size w3 ((w3.alloc (.cells #[.int .i64 r.t, .int .u64 (r.v : Int)] 41)).alloc (.cells #[.int .u64 (y.prev : Int), .int .i64 (y.lead : Int), .int .i64 (y.len : Int)] 44)) := by repeat (first | with_reducible exact Below.refl _ _ | assumption | with_reducible refine Below.drew ?_ | with_reducible refine Below.alloc ?_ (by (first | assumption | omega | (simp; done) | (simp; omega))) _)
        have x12 := (BoxL.new w3 [.int .i64 r.t, .int .u64 (r.v : Int)] 41).onA (.cells #[.int .u64 (y.prev : Int), .int .i64 (y.lead : Int), .int .i64 (y.len : Int)] 44)
        have x13 := BoxL.new (w3.alloc (.cells #[.int .i64 r.t, .int .u64 (r.v : Int)] 41)) [.int .u64 (y.prev : Int), .int .i64 (y.lead : Int), .int .i64 (y.len : Int)] 44
        simp only [World.size_alloc] at x13
        change BoxL ((w3.alloc (.cells #[.int .i64 r.t, .int .u64 (r.v : Int)] 41)).alloc (.cells #[.int .u64 (y.prev : Int), .int .i64 (y.lead : Int), .int .i64 (y.len : Int)] 44)) w3.heap.size [.int .i64 r.t, .int .u64 (r.v : Int)] at x12
        change BoxL ((w3.alloc (.cells #[.int .i64 r.t, .int .u64 (r.v : Int)] 41)).alloc (.cells #[.int .u64 (y.prev : Int), .int .i64 (y.lead : Int), .int .i64 (y.len : Int)] 44)) (w3.heap.size + 1) [.int .u64 (y.prev : Int), .int .i64 (y.lead : Int), .int .i64 (y.len : Int)] at x13
        have hub : ∀ b, u11.ownBlock = some b → b < w3.heap.size := fun b hb => (hmr.row.lt b hb).2
        have l9 := x9.lt
        replace x6 := x6.below hal
        replace x9 := x9.below hal
        replace hmr := hmr.on hal
        replace hW := hW.below hal
        generalize (w3.alloc (.cells #[.int .i64 r.t, .int .u64 (r.v : Int)] 41)).alloc (.cells #[.int .u64 (y.prev : Int), .int .i64 (y.lead : Int), .int .i64 (y.len : Int)] 44) = w1 at *
        clear hal
        generalize w3.heap.size = gx at *
        clear w3
        have nx12 : u11.ownBlock ≠ some gx := fun e => by have := hub _ e; omega
        have nx13 : u11.ownBlock ≠ some (gx + 1) := fun e => by have := hub _ e; omega
        have n6 : gx ≠ w.heap.size := by omega
        have n6' : gx + 1 ≠ w.heap.size := by omega
        have n69 : w.heap.size + 1 ≠ w.heap.size := by omega
        have x6B := x6.onA (.cells #[.int .i64 r.t, .int .u64 (r.v : Int)] 41)
        obtain ⟨c0, c1, c2, c3, c4, c5, c6, c7⟩ := x6.get8
        obtain ⟨d0, d1, d2, d3, d4, d5, d6, d7⟩ := x6B.get8
        clear x6B
        replace x6 := x6.drew
        replace x9 := x9.drew
        replace x12 := x12.drew
        replace x13 := x13.drew
        replace hmr := hmr.drew
        replace hW := hW.below ((Below.refl _ _).drew)
        have x6A := x6.onA (.cells #[.int .i64 r.t, .int .u64 (r.v : Int)] 41)
        have x9A := x9.onA (.cells #[.int .i64 r.t, .int .u64 (r.v : Int)] 41)
        have x12A := x12.onA (.cells #[.int .i64 r.t, .int .u64 (r.v : Int)] 41)
        have x13A := x13.onA (.cells #[.int .i64 r.t, .int .u64 (r.v : Int)] 41)
        have mA := hmr.onA (.cells #[.int .i64 r.t, .int .u64 (r.v : Int)] 41)
        have r1 := RdQ.one w1.drew (r.t, r.v) ⟨hrt.1, hrt.2, hrv⟩
        have hWA := hW.below ((Below.refl _ _).alloc (Nat.le_refl _) (.cells #[.int .i64 r.t, .int .u64 (r.v : Int)] 41))
        have hVs : w.heap.size + 1 + 1 ≤ (w1.drew.alloc (.cells #[.int .i64 r.t, .int .u64 (r.v : Int)] 41)).heap.size := by have := x9A.lt; omega
        have hxm : xs.length + 1 ≤ 1073741824 := by rw [HXL.out]; omega
        have hB6 : w.heap.size < w.heap.size + 1 + 1 := by omega
        have hB9 : w.heap.size + 1 < w.heap.size + 1 + 1 := by omega
        have hB0 : w.heap.size ≤ w.heap.size + 1 + 1 := by omega
        obtain ⟨q0, q1, q2, q3, q4, q5, q6, q7⟩ := x6.get8
        obtain ⟨i0, i1, i2, i3, i4, i5, i6, i7⟩ := x6A.get8
        have k0 := x12.get2
        have k1 := x13.get3
        clear hub l9 hmr x6 x9 hW
        refine wp_region_held_drew (S := fun w' => (w'.cell? ⟨gx, 0, none⟩ = some (.int .i64 r.t) ∧ w'.cell? ⟨gx, 1, none⟩ = some (.int .u64 (r.v : Int))) ∧ (w'.cell? ⟨gx + 1, 0, none⟩ = some (.int .u64 (y.prev : Int)) ∧ w'.cell? ⟨gx + 1, 1, none⟩ = some (.int .i64 (y.lead : Int)) ∧ w'.cell? ⟨gx + 1, 2, none⟩ = some (.int .i64 (y.len : Int)))) (by kernel_rfl) ⟨k0, k1⟩ (fun hH => ?_)
        refine wpAnyH_take (i := 0) (oi := ?oi1) (v := ?v1) ?ho1 ?ka1 ?kb1 ?kc1 ?hQ1 (Or.inl ⟨?hw1, ?hy1⟩) hH ?rest1
        case ho1 => simp only [List.getElem?_toArray, List.getElem?_cons_zero]; rfl
        case ka1 => kernel_rfl
        case kb1 => kernel_rfl
        case kc1 => kernel_rfl
        case hQ1 => exact fun _ _ _ h => h
        case hw1 => rfl
        case hy1 => (intro X hX; (try dsimp only at hX); go_simp; (try with_reducible rfl))
        simp only [Act.put, List.setIfInBounds_toArray, List.set_cons_zero, List.set_cons_succ]
        refine wpAnyH_take (i := 1) (oi := ?oi2) (v := ?v2) ?ho2 ?ka2 ?kb2 ?kc2 ?hQ2 (Or.inl ⟨?hw2, ?hy2⟩) hH ?rest2
        case ho2 => simp only [List.getElem?_toArray, List.getElem?_cons_zero, List.getElem?_cons_succ]; rfl
        case ka2 => kernel_rfl
        case kb2 => kernel_rfl
        case kc2 => kernel_rfl
        case hQ2 => exact fun _ _ _ h => h
        case hw2 => rfl
        case hy2 => (intro X hX; (try dsimp only at hX); go_simp; (try with_reducible rfl))
        simp only [Act.put, List.setIfInBounds_toArray, List.set_cons_zero, List.set_cons_succ]
        refine wpAnyH_take (i := 4) (oi := ?oi3) (v := ?v3) ?ho3 ?ka3 ?kb3 ?kc3 ?hQ3 (Or.inl ⟨?hw3, ?hy3⟩) hH ?rest3
        case ho3 => simp only [List.getElem?_toArray, List.getElem?_cons_zero, List.getElem?_cons_succ]; rfl
        case ka3 => kernel_rfl
        case kb3 => kernel_rfl
        case kc3 => kernel_rfl
        case hQ3 => exact fun _ _ _ h => h
        case hw3 => rfl
        case hy3 => (intro X hX; (try dsimp only at hX); go_simp; (try with_reducible rfl))
        simp only [Act.put, List.setIfInBounds_toArray, List.set_cons_zero, List.set_cons_succ]
        refine wpAnyH_take (i := 6) (oi := ?oi4) (v := ?v4) ?ho4 ?ka4 ?kb4 ?kc4 ?hQ4 (Or.inl ⟨?hw4, ?hy4⟩) hH ?rest4
        case ho4 => simp only [List.getElem?_toArray, List.getElem?_cons_zero, List.getElem?_cons_succ]; rfl
        case ka4 => kernel_rfl
        case kb4 => kernel_rfl
        case kc4 => kernel_rfl
        case hQ4 => exact fun _ _ _ h => h
        case hw4 => rfl
        case hy4 => (intro X hX; (try dsimp only at hX); go_simp; (try with_reducible rfl))
        simp only [Act.put, List.setIfInBounds_toArray, List.set_cons_zero, List.set_cons_succ]
        refine wpAnyH_take (i := 7) (oi := ?oi5) (v := ?v5) ?ho5 ?ka5 ?kb5 ?kc5 ?hQ5 (Or.inl ⟨?hw5, ?hy5⟩) hH ?rest5
        case ho5 => simp only [List.getElem?_toArray, List.getElem?_cons_zero, List.getElem?_cons_succ]; rfl
        case ka5 => kernel_rfl
        case kb5 => kernel_rfl
        case kc5 => kernel_rfl
        case hQ5 => exact fun _ _ _ h => h
        case hw5 => rfl
        case hy5 => (intro X hX; (try dsimp only at hX); go_simp; (try with_reducible rfl))
        simp only [Act.put, List.setIfInBounds_toArray, List.set_cons_zero, List.set_cons_succ]
        refine wpAnyH_ready (rs := [2, 5]) (by kernel_rfl) (by simp) ?_
        refine AllReadyH.cons (o := ?o6) ?ho6 (fun K hK => ?_) ?_
        case ho6 => simp only [List.getElem?_toArray, List.getElem?_cons_zero, List.getElem?_cons_succ]; rfl
        · skip
          go_simp
          refine hK.out _ _ ?_ (fun hH => ?_)
          · exact ⟨x12A.get2, x13A.get3⟩
          clear hK K
          try simp only [Act.put, List.setIfInBounds_toArray, List.set_cons_zero, List.set_cons_succ]
          refine wpAnyH_ready (rs := [3, 5]) (by kernel_rfl) (by simp) ?_
          refine AllReadyH.cons (o := ?o7) ?ho7 (fun K hK => ?_) ?_
          case ho7 => simp only [List.getElem?_toArray, List.getElem?_cons_zero, List.getElem?_cons_succ]; rfl
          · skip
            refine step_appMQ (by rfl) (.tmp 40) (.tmp 42) (by rfl) (by rfl) (by rfl) mA hVs r1 hxm ?_
            intro v' w' m' hb' hg'
            have x6n := x6A.belowB hb' hB6
            have x9n := x9A.belowB hb' hB9
            have x12n := x12A.grown hg' nx12
            have x13n := x13A.grown hg' nx13
            have hWn := hWA.belowB hb' hB0 hg
            clear hb' hg'
            obtain ⟨p0, p1, p2, p3, p4, p5, p6, p7⟩ := x6n.get8
            refine hK.out _ _ ?_ (fun hH => ?_)
            · exact ⟨x12n.get2, x13n.get3⟩
            clear hK K
            try simp only [Act.put, List.setIfInBounds_toArray, List.set_cons_zero, List.set_cons_succ]
            refine wpAnyH_ready (rs := [5]) (by kernel_rfl) (by simp) ?_
            refine AllReadyH.cons (o := ?o8) ?ho8 (fun K hK => ?_) ?_
            case ho8 => simp only [List.getElem?_toArray, List.getElem?_cons_zero, List.getElem?_cons_succ]; rfl
            rotate_left
            · exact AllReadyH.nil
            go_simp
            refine hK.out _ _ ?_ (fun hH => ?_)
            · exact ⟨x12n.get2, x13n.get3⟩
            clear hK K
            try simp only [Act.put, List.setIfInBounds_toArray, List.set_cons_zero, List.set_cons_succ]
            refine wpAnyH_ready (rs := [8]) (by kernel_rfl) (by simp) ?_
            refine AllReadyH.cons (o := ?o9) ?ho9 (fun K hK => ?_) ?_
            case ho9 => simp only [List.getElem?_toArray, List.getElem?_cons_zero, List.getElem?_cons_succ]; rfl
            rotate_left
            · exact AllReadyH.nil
            go_simp
            with_reducible refine (hAF _).mono ?_
            rintro e w8 ⟨rfl, HB⟩
            replace m' := m'.on HB
            replace x6n := x6n.below HB
            replace x9n := x9n.below HB
            replace x12n := x12n.below HB
            replace x13n := x13n.below HB
            replace hWn := hWn.below HB
            clear HB
            clear p0 p1 p2 p3 p4 p5 p6 p7
            obtain ⟨p0, p1, p2, p3, p4, p5, p6, p7⟩ := x6n.get8
            obtain ⟨f0, f1, f2, f3, f4, f5, f6, f7⟩ := x6n.free8
            go_wp2_with fail
            refine hK.out _ _ ?_ (fun hH => ?_)
            · exact ⟨x12n.get2, x13n.get3⟩
            clear hK K
            try simp only [Act.put, List.setIfInBounds_toArray, List.set_cons_zero, List.set_cons_succ]
            refine wpAnyH_take (i := 9) (oi := ?oi10) (v := ?v10) ?ho10 ?ka10 ?kb10 ?kc10 ?hQ10 (Or.inl ⟨?hw10, ?hy10⟩) hH ?rest10
            case ho10 => simp only [List.getElem?_toArray, List.getElem?_cons_zero, List.getElem?_cons_succ]; rfl
            case ka10 => kernel_rfl
            case kb10 => kernel_rfl
            case kc10 => kernel_rfl
            case hQ10 => exact fun _ _ _ h => h
            case hw10 => rfl
            case hy10 => (intro X hX; (try dsimp only at hX); go_simp; (try with_reducible rfl))
            simp only [Act.put, List.setIfInBounds_toArray, List.set_cons_zero, List.set_cons_succ]
            refine wpAnyH_ready (rs := [10]) (by kernel_rfl) (by simp) ?_
            refine AllReadyH.cons (o := ?o11) ?ho11 (fun K hK => ?_) ?_
            case ho11 => simp only [List.getElem?_toArray, List.getElem?_cons_zero, List.getElem?_cons_succ]; rfl
            rotate_left
            · exact AllReadyH.nil
            go_simp
            refine hK.out _ _ ?_ (fun hH => ?_)
            · exact ⟨(x12n.oth8 n6 _ _ _ _ _ _ _ _).get2, (x13n.oth8 n6' _ _ _ _ _ _ _ _).get3⟩
            clear hK K
            try simp only [Act.put, List.setIfInBounds_toArray, List.set_cons_zero, List.set_cons_succ]
            refine wpAnyH_done (by kernel_rfl) ?_ _
            go_wp2_with fail
            go_roundw
            case rel =>
              refine ⟨j + 1, a' + r.n, xs ++ [(r.t, r.v)], r.s, by omega, by go_num, HS.out, by rw [List.length_append, HXL.out]; rfl, hrsm, by rw [HOK2.out, HSN.out]; omega, ?_, x6n.all8 _ _ _ _ _ _ _ _, x9n.oth8 n69 _ _ _ _ _ _ _ _, hWn.put8 hg (Nat.le_refl _) _ _ _ _ _ _ _ _⟩
              exact m'.set8 (Nat.zero_le _) hB6 _ _ _ _ _ _ _ _
            case measure => simp [intOf]; omega
          refine AllReadyH.cons (o := ?o12) ?ho12 (fun K hK => ?_) ?_
          case ho12 => simp only [List.getElem?_toArray, List.getElem?_cons_zero, List.getElem?_cons_succ]; rfl
          rotate_left
          · exact AllReadyH.nil
          go_simp
          refine hK.out _ _ ?_ (fun hH => ?_)
          · exact ⟨x12A.get2, x13A.get3⟩
          clear hK K
          try simp only [Act.put, List.setIfInBounds_toArray, List.set_cons_zero, List.set_cons_succ]
          refine wpAnyH_ready (rs := [3]) (by kernel_rfl) (by simp) ?_
          refine AllReadyH.cons (o := ?o13) ?ho13 (fun K hK => ?_) ?_
          case ho13 => simp only [List.getElem?_toArray, List.getElem?_cons_zero, List.getElem?_cons_succ]; rfl
          rotate_left
          · exact AllReadyH.nil
          refine step_appMQ (by rfl) (.tmp 40) (.tmp 42) (by rfl) (by rfl) (by rfl) mA hVs r1 hxm ?_
          intro v' w' m' hb' hg'
          have x6n := x6A.belowB hb' hB6
          have x9n := x9A.belowB hb' hB9
          have x12n := x12A.grown hg' nx12
          have x13n := x13A.grown hg' nx13
          have hWn := hWA.belowB hb' hB0 hg
          clear hb' hg'
          obtain ⟨p0, p1, p2, p3, p4, p5, p6, p7⟩ := x6n.get8
          refine hK.out _ _ ?_ (fun hH => ?_)
          · exact ⟨x12n.get2, x13n.get3⟩
          clear hK K
          try simp only [Act.put, List.setIfInBounds_toArray, List.set_cons_zero, List.set_cons_succ]
          refine wpAnyH_ready (rs := [8]) (by kernel_rfl) (by simp) ?_
          refine AllReadyH.cons (o := ?o14) ?ho14 (fun K hK => ?_) ?_
          case ho14 => simp only [List.getElem?_toArray, List.getElem?_cons_zero, List.getElem?_cons_succ]; rfl
          rotate_left
          · exact AllReadyH.nil
          go_simp
          with_reducible refine (hAF _).mono ?_
          rintro e w8 ⟨rfl, HB⟩
          replace m' := m'.on HB
          replace x6n := x6n.below HB
          replace x9n := x9n.below HB
          replace x12n := x12n.below HB
          replace x13n := x13n.below HB
          replace hWn := hWn.below HB
          clear HB
          clear p0 p1 p2 p3 p4 p5 p6 p7
          obtain ⟨p0, p1, p2, p3, p4, p5, p6, p7⟩ := x6n.get8
          obtain ⟨f0, f1, f2, f3, f4, f5, f6, f7⟩ := x6n.free8
          go_wp2_with fail
          refine hK.out _ _ ?_ (fun hH => ?_)
          · exact ⟨x12n.get2, x13n.get3⟩
          clear hK K
          try simp only [Act.put, List.setIfInBounds_toArray, List.set_cons_zero, List.set_cons_succ]
          refine wpAnyH_take (i := 9) (oi := ?oi15) (v := ?v15) ?ho15 ?ka15 ?kb15 ?kc15 ?hQ15 (Or.inl ⟨?hw15, ?hy15⟩) hH ?rest15
          case ho15 => simp only [List.getElem?_toArray, List.getElem?_cons_zero, List.getElem?_cons_succ]; rfl
          case ka15 => kernel_rfl
          case kb15 => kernel_rfl
          case kc15 => kernel_rfl
          case hQ15 => exact fun _ _ _ h => h
          case hw15 => rfl
          case hy15 => (intro X hX; (try dsimp only at hX); go_simp; (try with_reducible rfl))
          simp only [Act.put, List.setIfInBounds_toArray, List.set_cons_zero, List.set_cons_succ]
          refine wpAnyH_ready (rs := [10]) (by kernel_rfl) (by simp) ?_
          refine AllReadyH.cons (o := ?o16) ?ho16 (fun K hK => ?_) ?_
          case ho16 => simp only [List.getElem?_toArray, List.getElem?_cons_zero, List.getElem?_cons_succ]; rfl
          rotate_left
          · exact AllReadyH.nil
          go_simp
          refine hK.out _ _ ?_ (fun hH => ?_)
          · exact ⟨(x12n.oth8 n6 _ _ _ _ _ _ _ _).get2, (x13n.oth8 n6' _ _ _ _ _ _ _ _).get3⟩
          clear hK K
          try simp only [Act.put, List.setIfInBounds_toArray, List.set_cons_zero, List.set_cons_succ]
          refine wpAnyH_done (by kernel_rfl) ?_ _
          go_wp2_with fail
          go_roundw
          case rel =>
            refine ⟨j + 1, a' + r.n, xs ++ [(r.t, r.v)], r.s, by omega, by go_num, HS.out, by rw [List.length_append, HXL.out]; rfl, hrsm, by rw [HOK2.out, HSN.out]; omega, ?_, x6n.all8 _ _ _ _ _ _ _ _, x9n.oth8 n69 _ _ _ _ _ _ _ _, hWn.put8 hg (Nat.le_refl _) _ _ _ _ _ _ _ _⟩
            exact m'.set8 (Nat.zero_le _) hB6 _ _ _ _ _ _ _ _
          case measure => simp [intOf]; omega
        refine AllReadyH.cons (o := ?o17) ?ho17 (fun K hK => ?_) ?_
        case ho17 => simp only [List.getElem?_toArray, List.getElem?_cons_zero, List.getElem?_cons_succ]; rfl
        rotate_left
        · exact AllReadyH.nil
        go_simp
        refine hK.out _ _ ?_ (fun hH => ?_)
        · exact ⟨k0, k1⟩
        clear hK K
        try simp only [Act.put, List.setIfInBounds_toArray, List.set_cons_zero, List.set_cons_succ]
        refine wpAnyH_ready (rs := [2]) (by kernel_rfl) (by simp) ?_
        refine AllReadyH.cons (o := ?o18) ?ho18 (fun K hK => ?_) ?_
        case ho18 => simp only [List.getElem?_toArray, List.getElem?_cons_zero, List.getElem?_cons_succ]; rfl
        rotate_left
        · exact AllReadyH.nil
        go_simp
        refine hK.out _ _ ?_ (fun hH => ?_)
        · exact ⟨x12A.get2, x13A.get3⟩
        clear hK K
        try simp only [Act.put, List.setIfInBounds_toArray, List.set_cons_zero, List.set_cons_succ]
        refine wpAnyH_ready (rs := [3]) (by kernel_rfl) (by simp) ?_
        refine AllReadyH.cons (o := ?o19) ?ho19 (fun K hK => ?_) ?_
        case ho19 => simp only [List.getElem?_toArray, List.getElem?_cons_zero, List.getElem?_cons_succ]; rfl
        rotate_left
        · exact AllReadyH.nil
        refine step_appMQ (by rfl) (.tmp 40) (.tmp 42) (by rfl) (by rfl) (by rfl) mA hVs r1 hxm ?_
        intro v' w' m' hb' hg'
        have x6n := x6A.belowB hb' hB6
        have x9n := x9A.belowB hb' hB9
        have x12n := x12A.grown hg' nx12
        have x13n := x13A.grown hg' nx13
        have hWn := hWA.belowB hb' hB0 hg
        clear hb' hg'
        obtain ⟨p0, p1, p2, p3, p4, p5, p6, p7⟩ := x6n.get8
        refine hK.out _ _ ?_ (fun hH => ?_)
        · exact ⟨x12n.get2, x13n.get3⟩
        clear hK K
        try simp only [Act.put, List.setIfInBounds_toArray, List.set_cons_zero, List.set_cons_succ]
        refine wpAnyH_ready (rs := [8]) (by kernel_rfl) (by simp) ?_
        refine AllReadyH.cons (o := ?o20) ?ho20 (fun K hK => ?_) ?_
        case ho20 => simp only [List.getElem?_toArray, List.getElem?_cons_zero, List.getElem?_cons_succ]; rfl
        rotate_left
        · exact AllReadyH.nil
        go_simp
        with_reducible refine (hAF _).mono ?_
        rintro e w8 ⟨rfl, HB⟩
        replace m' := m'.on HB
        replace x6n := x6n.below HB
        replace x9n := x9n.below HB
        replace x12n := x12n.below HB
        replace x13n := x13n.below HB
        replace hWn := hWn.below HB
        clear HB
        clear p0 p1 p2 p3 p4 p5 p6 p7
        obtain ⟨p0, p1, p2, p3, p4, p5, p6, p7⟩ := x6n.get8
        obtain ⟨f0, f1, f2, f3, f4, f5, f6, f7⟩ := x6n.free8
        go_wp2_with fail
        refine hK.out _ _ ?_ (fun hH => ?_)
        · exact ⟨x12n.get2, x13n.get3⟩
        clear hK K
        try simp only [Act.put, List.setIfInBounds_toArray, List.set_cons_zero, List.set_cons_succ]
        refine wpAnyH_take (i := 9) (oi := ?oi21) (v := ?v21) ?ho21 ?ka21 ?kb21 ?kc21 ?hQ21 (Or.inl ⟨?hw21, ?hy21⟩) hH ?rest21
        case ho21 => simp only [List.getElem?_toArray, List.getElem?_cons_zero, List.getElem?_cons_succ]; rfl
        case ka21 => kernel_rfl
        case kb21 => kernel_rfl
        case kc21 => kernel_rfl
        case hQ21 => exact fun _ _ _ h => h
        case hw21 => rfl
        case hy21 => (intro X hX; (try dsimp only at hX); go_simp; (try with_reducible rfl))
        simp only [Act.put, List.setIfInBounds_toArray, List.set_cons_zero, List.set_cons_succ]
        refine wpAnyH_ready (rs := [10]) (by kernel_rfl) (by simp) ?_
        refine AllReadyH.cons (o := ?o22) ?ho22 (fun K hK => ?_) ?_
        case ho22 => simp only [List.getElem?_toArray, List.getElem?_cons_zero, List.getElem?_cons_succ]; rfl
        rotate_left
        · exact AllReadyH.nil
        go_simp
        refine hK.out _ _ ?_ (fun hH => ?_)
        · exact ⟨(x12n.oth8 n6 _ _ _ _ _ _ _ _).get2, (x13n.oth8 n6' _ _ _ _ _ _ _ _).get3⟩
        clear hK K
        try simp only [Act.put, List.setIfInBounds_toArray, List.set_cons_zero, List.set_cons_succ]
        refine wpAnyH_done (by kernel_rfl) ?_ _
        go_wp2_with fail
        go_roundw
        case rel =>
          refine ⟨j + 1, a' + r.n, xs ++ [(r.t, r.v)], r.s, by omega, by go_num, HS.out, by rw [List.length_append, HXL.out]; rfl, hrsm, by rw [HOK2.out, HSN.out]; omega, ?_, x6n.all8 _ _ _ _ _ _ _ _, x9n.oth8 n69 _ _ _ _ _ _ _ _, hWn.put8 hg (Nat.le_refl _) _ _ _ _ _ _ _ _⟩
          exact m'.set8 (Nat.zero_le _) hB6 _ _ _ _ _ _ _ _
        case measure => simp [intOf]; omega
    · have hcond : ¬ (j : Int) < M := by omega
      obtain rfl : j = N := by omega
      rw [Nat.sub_self] at hgone
      have HD := Lib.hid (HBA.out _ _ _ _ hgone.done)
      obtain ⟨A', c', rfl, _⟩ := hmr.own.form
      have mZ := (hmr.set8 (g := w.heap.size + 1) (Nat.zero_le _) (Nat.lt_succ_self _) (.int .i64 (s.n : Int)) (.int .i64 s.t) (.int .i64 s.d) (.int .u64 (s.v : Int)) (.int .u64 (s.e : Int)) (.int .u64 (s.x.prev : Int)) (.int .i64 (s.x.lead : Int)) (.int .i64 (s.x.len : Int))).drew
      clear hgone hmr hxl hsn1 HMN2
      go_upto_region 11 with fail
      have z9 := (x9.all8 (.int .i64 (s.n : Int)) (.int .i64 s.t) (.int .i64 s.d) (.int .u64 (s.v : Int)) (.int .u64 (s.e : Int)) (.int .u64 (s.x.prev : Int)) (.int .i64 (s.x.lead : Int)) (.int .i64 (s.x.len : Int))).drew
      have hZ := (hW.put8 hg (d := w.heap.size + 1) (by omega) (.int .i64 (s.n : Int)) (.int .i64 s.t) (.int .i64 s.d) (.int .u64 (s.v : Int)) (.int .u64 (s.e : Int)) (.int .u64 (s.x.prev : Int)) (.int .i64 (s.x.lead : Int)) (.int .i64 (s.x.len : Int))).below ((Below.refl _ _).drew)
      obtain ⟨q0, q1, q2, q3, q4, q5, q6, q7⟩ := x6.get8
      obtain ⟨i0, i1, i2, i3, i4, i5, i6, i7⟩ := x6.drew.get8
      obtain ⟨y0, y1, y2, y3, y4, y5, y6, y7⟩ := x9.get8
      obtain ⟨f0, f1, f2, f3, f4, f5, f6, f7⟩ := x9.free8
      have x9d := x9.drew
      obtain ⟨j0, j1, j2, j3, j4, j5, j6, j7⟩ := x9d.get8
      obtain ⟨e0, e1, e2, e3, e4, e5, e6, e7⟩ := x9d.free8
      clear x6 x9 hW x9d
      go_region
      clear q0 q1 q2 q3 q4 q5 q6 q7 i0 i1 i2 i3 i4 i5 i6 i7 y0 y1 y2 y3 y4 y5 y6 y7 f0 f1 f2 f3 f4 f5 f6 f7 j0 j1 j2 j3 j4 j5 j6 j7 e0 e1 e2 e3 e4 e5 e6 e7
      generalize ((((((((wr.setCell ⟨w.heap.size + 1, 0, none⟩ (.int .i64 (s.n : Int))).setCell ⟨w.heap.size + 1, 1, none⟩ (.int .i64 s.t)).setCell ⟨w.heap.size + 1, 2, none⟩ (.int .i64 s.d)).setCell ⟨w.heap.size + 1, 3, none⟩ (.int .u64 (s.v : Int))).setCell ⟨w.heap.size + 1, 4, none⟩ (.int .u64 (s.e : Int))).setCell ⟨w.heap.size + 1, 5, none⟩ (.int .u64 (s.x.prev : Int))).setCell ⟨w.heap.size + 1, 6, none⟩ (.int .i64 (s.x.lead : Int))).setCell ⟨w.heap.size + 1, 7, none⟩ (.int .i64 (s.x.len : Int))).drew = Z at *
      obtain ⟨u0, u1, u2, u3, u4, u5, u6, u7⟩ := z9.get8
      go_wp2
      refine bodyPost_ret (v := .tuple #[.slice A' xs.length c', (.agg #[.int .i64 (s.n : Int), .int .i64 s.t, .int .i64 s.d, .int .u64 (s.v : Int), .int .u64 (s.e : Int), .int .u64 (s.x.prev : Int), .int .i64 (s.x.lead : Int), .int .i64 (s.x.len : Int)]), .nilIface]) ?_ rfl ⟨xs, s, _, 0, A', c', a', HD.out, rfl, mZ.rd, fun ad e => Nat.le_trans (by omega) (mZ.block ad e), hZ.1, fun _ => rfl, hZ.2⟩
      simp [results, Tryd.results15, go_sem, u0, u1, u2, u3, u4, u5, u6, u7]

/-- the contract holds -/
theorem bnext_any : NextC := by
  intro g A m c bs a z n s w h _ hl hT _ hs hsn
  by_cases hz : z ≠ 1 ∧ z ≠ 2
  · exact bnext_kind g A m c bs a z n s w h hz.1 hz.2
  · obtain ⟨k, h1, h2⟩ := known_is hz
    exact bnext_in z k ⟨h1, h2⟩ g A m c bs a n s w h hl hT hs hsn

end Go.Proofs.YtnjohmgacmcdnaaDoor
