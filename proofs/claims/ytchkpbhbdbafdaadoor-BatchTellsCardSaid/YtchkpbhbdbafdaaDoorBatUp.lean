/-
  The example at the head of layer 11's laws.
-/
import Derived.Test.YtchkpbhbdbafdaaDoorBatNext
import Derived.Test.YtchkpbhbdbafdaaDoorWords
import Derived.Test.YtchkpbhbdbafdaaDoorSame
namespace Go.Proofs.YtchkpbhbdbafdaaDoor
open Go.RowKit

theorem up11_flat : flat [0, 0, 0, 0, 0, 0, 0, 1, 0, 0, 0, 0, 0, 0, 0, 9] = putK 1 zeroK 1 9 ++ [] := by decide +kernel
set_option maxRecDepth 20000 in
theorem up11_one : BatA 1 1 zeroK (flat [0, 0, 0, 0, 0, 0, 0, 1, 0, 0, 0, 0, 0, 0, 0, 9]) [((1 : Int), 9)] (nextK 1 zeroK 1 9) ((flat [0, 0, 0, 0, 0, 0, 0, 1, 0, 0, 0, 0, 0, 0, 0, 9]).drop (putK 1 zeroK 1 9).length) 0 := by
  refine .inr ⟨.inl rfl, _, .inr ⟨1, rfl, .inl rfl, by rw [up11_flat]; exact kgets_put zeroK_may ⟨by omega, by omega⟩ (by omega) (by simp [risesK, zeroK]) []⟩, .inr ⟨rfl, [], rfl, rfl, rfl, rfl, rfl⟩⟩
theorem up11_zero (s : KS) (p : List Bool) : BatA 1 0 s p [] s p 0 := .inr ⟨.inl rfl, rfl, rfl, rfl, rfl⟩
set_option maxRecDepth 20000 in
theorem up11_n : (nextK 1 zeroK 1 9).n = 1 := rfl
theorem Own.lit16b {w0 w : World} (h : Below w0.heap.size w0 w) : Own w0 (w.alloc (.cells #[.int .u8 0, .int .u8 0, .int .u8 0, .int .u8 0, .int .u8 0, .int .u8 0, .int .u8 0, .int .u8 1, .int .u8 0, .int .u8 0, .int .u8 0, .int .u8 0, .int .u8 0, .int .u8 0, .int .u8 0, .int .u8 9] 5)) (.slice (some ⟨w.heap.size, 0, none⟩) 16 16) [0, 0, 0, 0, 0, 0, 0, 1, 0, 0, 0, 0, 0, 0, 0, 9] :=
  ⟨World.ownsRow_lit w #[.int .u8 0, .int .u8 0, .int .u8 0, .int .u8 0, .int .u8 0, .int .u8 0, .int .u8 0, .int .u8 1, .int .u8 0, .int .u8 0, .int .u8 0, .int .u8 0, .int .u8 0, .int .u8 0, .int .u8 0, .int .u8 9] 16 h.size (by unfold maxLen; omega) rfl, h.alloc h.size _⟩

theorem bel_went {w w1 w2 : World} {g : Nat} (h : w1.grownBy w2 (some g)) (hb : Below w.heap.size w w1) (hg : w.heap.size ≤ g) : Below w.heap.size w w2 := hb.grown h hb.size (fun k e => by injection e with e; omega)
set_option maxRecDepth 20000 in
set_option maxHeartbeats 4000000 in
theorem up11_any (w : World) (hT : TabsW w) : Calls Tryd.prog 5 #[] w fun e w' => e = .returned (.bool true) ∧ Below w.heap.size w w' := by
  have hN := bnext_any
  unfold NextC at hN
  have ho1 := Own.lit16b (w0 := w) (w := w) (Below.refl _ _)
  have hb1 := ho1.bel
  have hnew := new_any (some ⟨w.heap.size, 0, none⟩) 16 16 _ _ ho1.rd (by decide) (by omega)
  go_enter Tryd.func5, Tryd.ntmps5
  go_wp2_with fail
  refine hnew.mono ?_
  rintro e w2 ⟨rfl, hr2, hb2, hs2⟩
  have hw2 := hb1.trans (hb2.mono hb1.size)
  have hlt := (hT.bel hb1).lt
  have hT2 := hT.bel hw2
  have hgw := hb1.size
  clear hnew ho1 hb1 hb2 hs2
  generalize (w.alloc (.cells #[.int .u8 0, .int .u8 0, .int .u8 0, .int .u8 0, .int .u8 0, .int .u8 0, .int .u8 0, .int .u8 1, .int .u8 0, .int .u8 0, .int .u8 0, .int .u8 0, .int .u8 0, .int .u8 0, .int .u8 0, .int .u8 9] 5)).heap.size = g at *
  have hnx := hN g _ 16 16 _ 0 1 1 zeroK w2 hr2 (by omega) hlt hT2 (by omega) zeroK_may (by simp [zeroK])
  go_wp2_with fail
  refine hnx.mono ?_
  rintro e w3 ⟨xs, s1, p1, er, A3, c3, a3, hd, rfl, hr3, hA3, hrd3, _, hg3⟩
  obtain ⟨rfl, rfl, rfl, _⟩ := up11_one.same hd
  rw [show errV 0 = .nilIface from rfl]
  have hb3 := bel_went hg3 hw2 hgw
  have hT3 := hT2.grown hg3 hlt
  have hNn := up11_n
  have hNm := nextK_may (k := 1) (t := 1) (v := 9) zeroK_may ⟨by omega, by omega⟩ (by omega)
  clear hd hnx hA3 hrd3 hr2 hg3 hT2 hw2 hgw hlt
  generalize nextK 1 zeroK 1 9 = s at *
  simp only [List.length_cons, List.length_nil, Nat.zero_add] at hr3 ⊢
  have HN1 := Lib.hid hNn
  have hsn0 : s.n ≤ 900000 := by omega
  clear hNn
  go_upto_region 2 with fail
  have hal : Below w3.heap.size w3 (w3.alloc (.cells #[.int .i64 (s.n : Int), .int .i64 s.t, .int .i64 s.d, .int .u64 (s.v : Int), .int .u64 (s.e : Int), .int .u64 (s.x.prev : Int), .int .i64 (s.x.lead : Int), .int .i64 (s.x.len : Int)] 32)) := by repeat (first | with_reducible exact Below.refl _ _ | assumption | with_reducible refine Below.drew ?_ | with_reducible refine Below.alloc ?_ (by (first | assumption | omega | (simp; done) | (simp; omega))) _)
  have x2 := BoxL.new w3 [.int .i64 (s.n : Int), .int .i64 s.t, .int .i64 s.d, .int .u64 (s.v : Int), .int .u64 (s.e : Int), .int .u64 (s.x.prev : Int), .int .i64 (s.x.lead : Int), .int .i64 (s.x.len : Int)] 32
  change BoxL (w3.alloc (.cells #[.int .i64 (s.n : Int), .int .i64 s.t, .int .i64 s.d, .int .u64 (s.v : Int), .int .u64 (s.e : Int), .int .u64 (s.x.prev : Int), .int .i64 (s.x.lead : Int), .int .i64 (s.x.len : Int)] 32)) w3.heap.size [.int .i64 (s.n : Int), .int .i64 s.t, .int .i64 s.d, .int .u64 (s.v : Int), .int .u64 (s.e : Int), .int .u64 (s.x.prev : Int), .int .i64 (s.x.lead : Int), .int .i64 (s.x.len : Int)] at x2
  replace hr3 := (hr3.below hal).more hal.size
  replace hb3 := hb3.trans (hal.mono hb3.size)
  replace hT3 := hT3.bel hal
  generalize w3.alloc (.cells #[.int .i64 (s.n : Int), .int .i64 s.t, .int .i64 s.d, .int .u64 (s.v : Int), .int .u64 (s.e : Int), .int .u64 (s.x.prev : Int), .int .i64 (s.x.lead : Int), .int .i64 (s.x.len : Int)] 32) = W at *
  clear hal
  generalize w3.heap.size = b2 at *
  clear w3
  have hWs := hb3.size
  have hnew := fun X => new_any none 0 0 [] X Rd.nil_ (by simp) (by omega)
  have x5A := (BoxL.new W [.int .i64 0, .int .i64 0, .int .i64 0, .int .u64 0, .int .u64 0, .int .u64 0, .int .i64 0, .int .i64 0] 32).drew
  change BoxL (W.alloc (.cells #[.int .i64 0, .int .i64 0, .int .i64 0, .int .u64 0, .int .u64 0, .int .u64 0, .int .i64 0, .int .i64 0] 32)).drew W.heap.size [.int .i64 0, .int .i64 0, .int .i64 0, .int .u64 0, .int .u64 0, .int .u64 0, .int .i64 0, .int .i64 0] at x5A
  have k0 := x2.drew.get8
  have hl2 : b2 < W.heap.size := x2.lt
  have hlt3 := hT3.lt
  have hsA : (W.alloc (.cells #[.int .i64 0, .int .i64 0, .int .i64 0, .int .u64 0, .int .u64 0, .int .u64 0, .int .i64 0, .int .i64 0] 32)).drew.heap.size = W.heap.size + 1 := by simp
  go_cut [4, 6] (fun x4 x6 wx => (∃ A c, x4 = .slice A 0 c) ∧ x6 = .nilIface ∧ Below W.heap.size W wx)
  case first =>
    go_region_held3 (fun w' => (w'.cell? ⟨b2, 0, none⟩ = some (.int .i64 (s.n : Int)) ∧ w'.cell? ⟨b2, 1, none⟩ = some (.int .i64 s.t) ∧ w'.cell? ⟨b2, 2, none⟩ = some (.int .i64 s.d) ∧ w'.cell? ⟨b2, 3, none⟩ = some (.int .u64 (s.v : Int)) ∧ w'.cell? ⟨b2, 4, none⟩ = some (.int .u64 (s.e : Int)) ∧ w'.cell? ⟨b2, 5, none⟩ = some (.int .u64 (s.x.prev : Int)) ∧ w'.cell? ⟨b2, 6, none⟩ = some (.int .i64 (s.x.lead : Int)) ∧ w'.cell? ⟨b2, 7, none⟩ = some (.int .i64 (s.x.len : Int))))
      (with_reducible first | exact k0 | exact (x2.below (by repeat (first | with_reducible exact Below.refl _ _ | with_reducible assumption | with_reducible refine Below.drew ?_ | with_reducible refine below_drewN ?_ _ | with_reducible refine Below.alloc ?_ (by (first | assumption | omega | (simp; done) | (simp; omega))) _ | with_reducible refine below_set ?_ (by (first | assumption | omega | (simp; done) | (simp; omega))) _ _))).get8) (first
      | (go_at_call 6; refine (hnew _).mono ?_; rintro e wn ⟨rfl, hrn, hbn, hwn⟩; (first | rw [hsA] at hrn | skip); have hn : Below W.heap.size W wn := (Below.trans (by repeat (first | with_reducible exact Below.refl _ _ | with_reducible assumption | with_reducible refine Below.drew ?_ | with_reducible refine below_drewN ?_ _ | with_reducible refine Below.alloc ?_ (by (first | assumption | omega | (simp; done) | (simp; omega))) _ | with_reducible refine below_set ?_ (by (first | assumption | omega | (simp; done) | (simp; omega))) _ _)) (hbn.mono (by first | with_reducible exact Nat.le_refl _ | with_reducible assumption | (simp; done) | (simp; omega) | omega))); have hsn : W.heap.size ≤ wn.heap.size := hn.size; have hsn1 : W.heap.size + 1 ≤ wn.heap.size := (by rw [hwn]; first | with_reducible exact Nat.le_refl _ | (simp; done) | (simp; omega)); first | (have x5n : BoxL wn W.heap.size [.int .i64 0, .int .i64 0, .int .i64 0, .int .u64 0, .int .u64 0, .int .u64 0, .int .i64 0, .int .i64 0] := (by with_reducible exact BoxL.below x5A hbn)) | skip)
      | (go_at_call 8; refine (hN _ _ _ _ _ _ _ _ _ _ (hrn.below (by repeat (first | with_reducible exact Below.refl _ _ | with_reducible assumption | with_reducible refine Below.drew ?_ | with_reducible refine below_drewN ?_ _ | with_reducible refine Below.alloc ?_ (by (first | assumption | omega | (simp; done) | (simp; omega))) _ | with_reducible refine below_set ?_ (by (first | assumption | omega | (simp; done) | (simp; omega))) _ _))) (by omega) (hlt3.le (by first | with_reducible exact Nat.le_refl _ | with_reducible assumption | (simp; done) | (simp; omega) | omega)) (hT3.bel (by repeat (first | with_reducible exact Below.refl _ _ | with_reducible assumption | with_reducible refine Below.drew ?_ | with_reducible refine below_drewN ?_ _ | with_reducible refine Below.alloc ?_ (by (first | assumption | omega | (simp; done) | (simp; omega))) _ | with_reducible refine below_set ?_ (by (first | assumption | omega | (simp; done) | (simp; omega))) _ _))) (by omega) hNm hsn0).mono ?_; rintro e w5 ⟨xs5, s5, p5', er5, A5, c5, a5, hd5, rfl, hr5, hA5, hrd5, _, hg5⟩; obtain ⟨rfl, rfl, rfl, _⟩ := (up11_zero s _).same hd5; have h5 : Below W.heap.size W w5 := (Below.grown (by repeat (first | with_reducible exact Below.refl _ _ | with_reducible assumption | with_reducible refine Below.drew ?_ | with_reducible refine below_drewN ?_ _ | with_reducible refine Below.alloc ?_ (by (first | assumption | omega | (simp; done) | (simp; omega))) _ | with_reducible refine below_set ?_ (by (first | assumption | omega | (simp; done) | (simp; omega))) _ _)) hg5 (by first | with_reducible exact Nat.le_refl _ | with_reducible assumption | (simp; done) | (simp; omega) | omega) (fun k e => by (injection e with e; subst e; first | with_reducible exact Nat.le_refl _ | with_reducible assumption | (simp; done) | (simp; omega) | omega))); have hs5 : W.heap.size ≤ w5.heap.size := h5.size; (first | (have x5 : BoxL w5 (W.heap.size + 1) [.int .i64 0, .int .i64 0, .int .i64 0, .int .u64 0, .int .u64 0, .int .u64 0, .int .i64 0, .int .i64 0] := (by have hx := BoxL.new wn [.int .i64 0, .int .i64 0, .int .i64 0, .int .u64 0, .int .u64 0, .int .u64 0, .int .i64 0, .int .i64 0] 32; change BoxL (wn.alloc (.cells #[.int .i64 0, .int .i64 0, .int .i64 0, .int .u64 0, .int .u64 0, .int .u64 0, .int .i64 0, .int .i64 0] 32)) wn.heap.size _ at hx; replace hx := (by with_reducible exact BoxL.grown hx hg5 (by simp; omega) : BoxL w5 wn.heap.size [.int .i64 0, .int .i64 0, .int .i64 0, .int .u64 0, .int .u64 0, .int .u64 0, .int .i64 0, .int .i64 0]); rw [hwn] at hx; exact hx)) | (have x5 : BoxL w5 W.heap.size [.int .i64 0, .int .i64 0, .int .i64 0, .int .u64 0, .int .u64 0, .int .u64 0, .int .i64 0, .int .i64 0] := (by with_reducible exact BoxL.grown (w := wn) (by assumption) hg5 (by simp))) | skip); (first | (obtain ⟨y0, y1, y2, y3, y4, y5, y6, y7⟩ := x5.get8; obtain ⟨f0, f1, f2, f3, f4, f5, f6, f7⟩ := x5.free8) | skip)))
    all_goals
      go_wp2_with fail
      go_meet
      exact ⟨⟨_, _, rfl⟩, rfl, by repeat (first | with_reducible exact Below.refl _ _ | with_reducible assumption | with_reducible refine Below.drew ?_ | with_reducible refine below_drewN ?_ _ | with_reducible refine Below.alloc ?_ (by (first | assumption | omega | (simp; done) | (simp; omega))) _ | with_reducible refine below_set ?_ (by (first | assumption | omega | (simp; done) | (simp; omega))) _ _)⟩
  case rest =>
    obtain ⟨⟨A4, c4, rfl⟩, rfl, hB⟩ := hcut
    replace x2 := x2.below hB
    replace hr3 := (hr3.below hB).more hB.size
    replace hb3 := hb3.trans (hB.mono hWs)
    clear hN hnew hT3 x5A k0 hl2 hlt3 hsA hB
    have hal : Below wc.heap.size wc (wc.alloc (.cells #[.int .i64 1, .int .u64 9] 42)) := by repeat (first | with_reducible exact Below.refl _ _ | with_reducible assumption | with_reducible refine Below.drew ?_ | with_reducible refine below_drewN ?_ _ | with_reducible refine Below.alloc ?_ (by (first | assumption | omega | (simp; done) | (simp; omega))) _ | with_reducible refine below_set ?_ (by (first | assumption | omega | (simp; done) | (simp; omega))) _ _)
    have hr4 := RdQ.one wc ((1 : Int), 9) ⟨by simp, by simp, by simp⟩
    have hs4 : (wc.alloc (.cells #[.int .i64 1, .int .u64 9] 42)).heap.size = wc.heap.size + 1 := by simp
    have hS := same_any A3 (some ⟨wc.heap.size, 0, none⟩) 1 c3 1 1 [((1 : Int), 9)] [((1 : Int), 9)] (wc.alloc (.cells #[.int .i64 1, .int .u64 9] 42)) ((hr3.below hal).more hal.size) (by rw [hs4]; exact hr4) (by omega) (by omega)
    replace hb3 := hb3.trans (hal.mono hb3.size)
    replace x2 := x2.below hal
    clear hr3 hr4 hs4 hal
    go_wp2_with fail
    refine hS.mono ?_
    rintro e w5 ⟨⟨b, rfl, hb⟩, hb5⟩
    obtain rfl := hb.2 (by first | rfl | trivial)
    have q0 : w5.cell? ⟨b2, 0, none⟩ = some (.int .i64 1) := by
      have := (x2.below hb5).get8.1
      rw [HN1.out] at this
      exact this
    clear hS hb x2
    go_wp2
    go_ret
    exact ⟨rfl, hb3.trans (hb5.mono hb3.size)⟩

end Go.Proofs.YtchkpbhbdbafdaaDoor
