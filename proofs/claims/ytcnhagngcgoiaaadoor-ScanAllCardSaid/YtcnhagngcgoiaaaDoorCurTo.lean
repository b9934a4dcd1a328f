/-
  The contract of layer 17's Seek.
-/
import Derived.Test.YtcnhagngcgoiaaaDoorCurSeek
namespace Go.Proofs.YtcnhagngcgoiaaaDoor
open Go.RowKit

/-- the world behind Seek's four boxes -/
structure SeekW (w W : World) (A : Option Addr) (n c : Nat) (er : Value) (a t : Int) (R : Value) : Prop where
  bel : Below w.heap.size w W
  size : W.heap.size = w.heap.size + 1 + 1 + 1 + 1
  b0 : BoxL W w.heap.size [.slice A n c, er, .int .i64 a, .bool false]
  b1 : BoxL W (w.heap.size + 1) [.int .i64 t]
  b2 : BoxL W (w.heap.size + 1 + 1) [.slice none 0 0, .nilIface, .int .i64 0, .bool false]
  b3 : BoxL W (w.heap.size + 1 + 1 + 1) [R]
theorem seekW_is (w : World) (A : Option Addr) (n c : Nat) (er : Value) (a t : Int) (R : Value) :
    SeekW w ((((w.alloc (.cells #[.slice A n c, er, .int .i64 a, .bool false] 55)).alloc (.cells #[.int .i64 t] 2)).alloc (.cells #[.slice none 0 0, .nilIface, .int .i64 0, .bool false] 55)).alloc (.cells #[R] 27)) A n c er a t R := by
  refine ⟨by repeat (first | with_reducible exact Below.refl _ _ | assumption | with_reducible refine Below.drew ?_ | with_reducible refine Below.alloc ?_ (by (first | assumption | omega | (simp; done) | (simp; omega))) _), by simp, ?_, ?_, ?_, ?_⟩
  · exact (((BoxL.new_at0 (w := w) [.slice A n c, er, .int .i64 a, .bool false] 55 rfl).onA _).onA _).onA _
  · exact ((BoxL.new_at0 (g := w.heap.size + 1) [.int .i64 t] 2 (by simp)).onA _).onA _
  · exact (BoxL.new_at0 (g := w.heap.size + 1 + 1) [.slice none 0 0, .nilIface, .int .i64 0, .bool false] 55 (by simp)).onA _
  · exact BoxL.new_at0 (g := w.heap.size + 1 + 1 + 1) [R] 27 (by simp)

set_option maxRecDepth 20000 in
set_option maxHeartbeats 2000000 in
theorem cur_seek (A : Option Addr) (n c : Nat) (xs : List (Int × Nat)) (er : Value) (a t : Int) (d : Bool) (w : World) (he : IsErr er) (ha : StandsAt n a) (hn : n ≤ 100000) (h : RdQ w w.heap.size A n c xs) (hri : RiseQ xs) :
    Calls Tryd.prog 27 #[.agg #[.slice A n c, er, .int .i64 a, .bool d], .int .i64 t] w (RetCur w A n c er (SeekR xs t a d)) := by
  have HR := Lib.hid hri
  have HL := Lib.hid h.len
  have hcap := h.cap
  clear hri
  rcases he with rfl | ⟨k, rfl⟩
  · go_enter Tryd.func27, Tryd.ntmps27
    cases d
    · by_cases ha1 : a = -1
      · subst ha1
        go_upto_region 5 with fail
        have hW := seekW_is w A n c .nilIface (-1) t (.slice A n c)
        generalize HWW : ((((w.alloc (.cells #[.slice A n c, .nilIface, .int .i64 (-1), .bool false] 55)).alloc (.cells #[.int .i64 t] 2)).alloc (.cells #[.slice none 0 0, .nilIface, .int .i64 0, .bool false] 55)).alloc (.cells #[(.slice A n c)] 27)) = W at *
        clear HWW
        have hS := search_any (w.heap.size + 1 + 1 + 1) (w.heap.size + 1) n _ w.heap.size _ _ t W (h.below hW.bel) hW.bel.size hW.b3.lt hW.b1.lt (by omega) HR.out (hW.b3.cell 0 _ rfl) (hW.b1.cell 0 _ rfl)
        have q3 := hW.b3.cell 0 _ rfl
        go_wp2_with fail
        refine hS.mono ?_
        rintro e w5 ⟨⟨k5, rfl, hk5⟩, hb5⟩
        have HK := Lib.hid (hk5)
        have hk5n := HK.out.hi
        rw [HL.out] at hk5n
        clear hS q3 hk5
        have hb6 := hW.bel.trans (hb5.mono hW.bel.size)
        have x0 := hW.b0.below hb5
        have x2 := hW.b2.below hb5
        have hs5 := hb6.size
        clear hW hb5
        obtain ⟨u0, u1, u2, u3⟩ := x0.get4c
        go_wp2_with fail
        refine (stand_any A n c .nilIface (-1) (k5 : Int) w5 (.inl rfl)).mono ?_
        rintro e w7 ⟨ok, a', rfl, hr, hb7⟩
        have hR : SeekR xs t (-1) false ok a' := by
          refine .inr ⟨rfl, _, HK.out, ?_⟩
          rw [HL.out]
          rcases hr with ⟨h1, rfl, rfl⟩ | ⟨h1, rfl, rfl⟩
          · exact .inl ⟨by omega, rfl, by omega⟩
          · exact .inr ⟨by omega, rfl, rfl⟩
        clear hr
        replace x2 := x2.below hb7
        replace hb6 := hb6.trans (hb7.mono hb6.size)
        obtain ⟨v0, v1, v2, v3⟩ := x2.get4c
        obtain ⟨f0, f1, f2, f3⟩ := x2.free4c
        clear u0 u1 u2 u3
        go_wp2
        replace x2 := x2.all4c (.slice A n c) .nilIface (.int .i64 a') (.bool (!ok))
        obtain ⟨z0, z1, z2, z3⟩ := x2.get4c
        refine bodyPost_ret ?_ rfl ⟨ok, a', rfl, hR, below_set4c hb6 (by omega) _ _ _ _⟩
        simp [results, Tryd.results27, go_sem, z0, z1, z2, z3]
      · obtain ⟨f, rfl⟩ := Int.eq_ofNat_of_zero_le (a := a) (by unfold StandsAt at ha; omega)
        have hf : f < n := by unfold StandsAt at ha; omega
        obtain ⟨ad, rfl, _⟩ := h.at_ hf
        have hfc : f < c := by omega
        have hmx : max (f : Int) 0 = (f : Int) := by omega
        go_upto_region 5 with fail
        have hW := seekW_is w (some ad) n c .nilIface (f : Int) t (.slice (some (ad.add (f * 2))) (n - f) (c - f))
        generalize HWW : ((((w.alloc (.cells #[.slice (some ad) n c, .nilIface, .int .i64 (f : Int), .bool false] 55)).alloc (.cells #[.int .i64 t] 2)).alloc (.cells #[.slice none 0 0, .nilIface, .int .i64 0, .bool false] 55)).alloc (.cells #[(.slice (some (ad.add (f * 2))) (n - f) (c - f))] 27)) = W at *
        clear HWW
        have hS := search_any (w.heap.size + 1 + 1 + 1) (w.heap.size + 1) (n - f) _ w.heap.size _ _ t W ((h.from_ (by omega)).below hW.bel) hW.bel.size hW.b3.lt hW.b1.lt (by omega) (HR.out.drop f) (hW.b3.cell 0 _ rfl) (hW.b1.cell 0 _ rfl)
        have q3 := hW.b3.cell 0 _ rfl
        go_wp2_with fail
        refine hS.mono ?_
        rintro e w5 ⟨⟨k5, rfl, hk5⟩, hb5⟩
        have HK := Lib.hid (hk5.shift (by rw [HL.out]; omega))
        have hk5n := HK.out.hi
        rw [HL.out] at hk5n
        clear hS q3 hk5
        have hb6 := hW.bel.trans (hb5.mono hW.bel.size)
        have x0 := hW.b0.below hb5
        have x2 := hW.b2.below hb5
        have hs5 := hb6.size
        clear hW hb5
        obtain ⟨u0, u1, u2, u3⟩ := x0.get4c
        go_wp2_with fail
        refine (stand_any (some ad) n c .nilIface (f : Int) ((f : Int) + (k5 : Int)) w5 (.inl rfl)).mono ?_
        rintro e w7 ⟨ok, a', rfl, hr, hb7⟩
        have hR : SeekR xs t (f : Int) false ok a' := by
          refine .inr ⟨rfl, _, HK.out, ?_⟩
          rw [HL.out]
          rcases hr with ⟨h1, rfl, rfl⟩ | ⟨h1, rfl, rfl⟩
          · exact .inl ⟨by omega, rfl, by omega⟩
          · exact .inr ⟨by omega, rfl, rfl⟩
        clear hr
        replace x2 := x2.below hb7
        replace hb6 := hb6.trans (hb7.mono hb6.size)
        obtain ⟨v0, v1, v2, v3⟩ := x2.get4c
        obtain ⟨f0, f1, f2, f3⟩ := x2.free4c
        clear u0 u1 u2 u3
        go_wp2
        replace x2 := x2.all4c (.slice (some ad) n c) .nilIface (.int .i64 a') (.bool (!ok))
        obtain ⟨z0, z1, z2, z3⟩ := x2.get4c
        refine bodyPost_ret ?_ rfl ⟨ok, a', rfl, hR, below_set4c hb6 (by omega) _ _ _ _⟩
        simp [results, Tryd.results27, go_sem, z0, z1, z2, z3]
    · go_wp2
      refine bodyPost_ret ?_ rfl ⟨false, a, rfl, .inl ⟨rfl, rfl, rfl⟩, by repeat (first | with_reducible exact Below.refl _ _ | with_reducible assumption | with_reducible refine Below.drew ?_ | with_reducible refine below_drewN ?_ _ | with_reducible refine Below.alloc ?_ (by (first | assumption | omega | (simp; done) | (simp; omega))) _ | with_reducible refine below_set ?_ (by (first | assumption | omega | (simp; done) | (simp; omega))) _ _)⟩
      simp [results, Tryd.results27, go_sem]
  · go_enter Tryd.func27, Tryd.ntmps27
    cases d
    · by_cases ha1 : a = -1
      · subst ha1
        go_upto_region 5 with fail
        have hW := seekW_is w A n c (.iface 69 (.int .i64 k)) (-1) t (.slice A n c)
        generalize HWW : ((((w.alloc (.cells #[.slice A n c, (.iface 69 (.int .i64 k)), .int .i64 (-1), .bool false] 55)).alloc (.cells #[.int .i64 t] 2)).alloc (.cells #[.slice none 0 0, .nilIface, .int .i64 0, .bool false] 55)).alloc (.cells #[(.slice A n c)] 27)) = W at *
        clear HWW
        have hS := search_any (w.heap.size + 1 + 1 + 1) (w.heap.size + 1) n _ w.heap.size _ _ t W (h.below hW.bel) hW.bel.size hW.b3.lt hW.b1.lt (by omega) HR.out (hW.b3.cell 0 _ rfl) (hW.b1.cell 0 _ rfl)
        have q3 := hW.b3.cell 0 _ rfl
        go_wp2_with fail
        refine hS.mono ?_
        rintro e w5 ⟨⟨k5, rfl, hk5⟩, hb5⟩
        have HK := Lib.hid (hk5)
        have hk5n := HK.out.hi
        rw [HL.out] at hk5n
        clear hS q3 hk5
        have hb6 := hW.bel.trans (hb5.mono hW.bel.size)
        have x0 := hW.b0.below hb5
        have x2 := hW.b2.below hb5
        have hs5 := hb6.size
        clear hW hb5
        obtain ⟨u0, u1, u2, u3⟩ := x0.get4c
        go_wp2_with fail
        refine (stand_any A n c (.iface 69 (.int .i64 k)) (-1) (k5 : Int) w5 (.inr ⟨k, rfl⟩)).mono ?_
        rintro e w7 ⟨ok, a', rfl, hr, hb7⟩
        have hR : SeekR xs t (-1) false ok a' := by
          refine .inr ⟨rfl, _, HK.out, ?_⟩
          rw [HL.out]
          rcases hr with ⟨h1, rfl, rfl⟩ | ⟨h1, rfl, rfl⟩
          · exact .inl ⟨by omega, rfl, by omega⟩
          · exact .inr ⟨by omega, rfl, rfl⟩
        clear hr
        replace x2 := x2.below hb7
        replace hb6 := hb6.trans (hb7.mono hb6.size)
        obtain ⟨v0, v1, v2, v3⟩ := x2.get4c
        obtain ⟨f0, f1, f2, f3⟩ := x2.free4c
        clear u0 u1 u2 u3
        go_wp2
        replace x2 := x2.all4c (.slice A n c) (.iface 69 (.int .i64 k)) (.int .i64 a') (.bool (!ok))
        obtain ⟨z0, z1, z2, z3⟩ := x2.get4c
        refine bodyPost_ret ?_ rfl ⟨ok, a', rfl, hR, below_set4c hb6 (by omega) _ _ _ _⟩
        simp [results, Tryd.results27, go_sem, z0, z1, z2, z3]
      · obtain ⟨f, rfl⟩ := Int.eq_ofNat_of_zero_le (a := a) (by unfold StandsAt at ha; omega)
        have hf : f < n := by unfold StandsAt at ha; omega
        obtain ⟨ad, rfl, _⟩ := h.at_ hf
        have hfc : f < c := by omega
        have hmx : max (f : Int) 0 = (f : Int) := by omega
        go_upto_region 5 with fail
        have hW := seekW_is w (some ad) n c (.iface 69 (.int .i64 k)) (f : Int) t (.slice (some (ad.add (f * 2))) (n - f) (c - f))
        generalize HWW : ((((w.alloc (.cells #[.slice (some ad) n c, (.iface 69 (.int .i64 k)), .int .i64 (f : Int), .bool false] 55)).alloc (.cells #[.int .i64 t] 2)).alloc (.cells #[.slice none 0 0, .nilIface, .int .i64 0, .bool false] 55)).alloc (.cells #[(.slice (some (ad.add (f * 2))) (n - f) (c - f))] 27)) = W at *
        clear HWW
        have hS := search_any (w.heap.size + 1 + 1 + 1) (w.heap.size + 1) (n - f) _ w.heap.size _ _ t W ((h.from_ (by omega)).below hW.bel) hW.bel.size hW.b3.lt hW.b1.lt (by omega) (HR.out.drop f) (hW.b3.cell 0 _ rfl) (hW.b1.cell 0 _ rfl)
        have q3 := hW.b3.cell 0 _ rfl
        go_wp2_with fail
        refine hS.mono ?_
        rintro e w5 ⟨⟨k5, rfl, hk5⟩, hb5⟩
        have HK := Lib.hid (hk5.shift (by rw [HL.out]; omega))
        have hk5n := HK.out.hi
        rw [HL.out] at hk5n
        clear hS q3 hk5
        have hb6 := hW.bel.trans (hb5.mono hW.bel.size)
        have x0 := hW.b0.below hb5
        have x2 := hW.b2.below hb5
        have hs5 := hb6.size
        clear hW hb5
        obtain ⟨u0, u1, u2, u3⟩ := x0.get4c
        go_wp2_with fail
        refine (stand_any (some ad) n c (.iface 69 (.int .i64 k)) (f : Int) ((f : Int) + (k5 : Int)) w5 (.inr ⟨k, rfl⟩)).mono ?_
        rintro e w7 ⟨ok, a', rfl, hr, hb7⟩
        have hR : SeekR xs t (f : Int) false ok a' := by
          refine .inr ⟨rfl, _, HK.out, ?_⟩
          rw [HL.out]
          rcases hr with ⟨h1, rfl, rfl⟩ | ⟨h1, rfl, rfl⟩
          · exact .inl ⟨by omega, rfl, by omega⟩
          · exact .inr ⟨by omega, rfl, rfl⟩
        clear hr
        replace x2 := x2.below hb7
        replace hb6 := hb6.trans (hb7.mono hb6.size)
        obtain ⟨v0, v1, v2, v3⟩ := x2.get4c
        obtain ⟨f0, f1, f2, f3⟩ := x2.free4c
        clear u0 u1 u2 u3
        go_wp2
        replace x2 := x2.all4c (.slice (some ad) n c) (.iface 69 (.int .i64 k)) (.int .i64 a') (.bool (!ok))
        obtain ⟨z0, z1, z2, z3⟩ := x2.get4c
        refine bodyPost_ret ?_ rfl ⟨ok, a', rfl, hR, below_set4c hb6 (by omega) _ _ _ _⟩
        simp [results, Tryd.results27, go_sem, z0, z1, z2, z3]
    · go_wp2
      refine bodyPost_ret ?_ rfl ⟨false, a, rfl, .inl ⟨rfl, rfl, rfl⟩, by repeat (first | with_reducible exact Below.refl _ _ | with_reducible assumption | with_reducible refine Below.drew ?_ | with_reducible refine below_drewN ?_ _ | with_reducible refine Below.alloc ?_ (by (first | assumption | omega | (simp; done) | (simp; omega))) _ | with_reducible refine below_set ?_ (by (first | assumption | omega | (simp; done) | (simp; omega))) _ _)⟩
      simp [results, Tryd.results27, go_sem]

end Go.Proofs.YtcnhagngcgoiaaaDoor
