/-
  The contract of the example at the head of the laws of layer 6: it holds.
-/
import Derived.Test.YtgjmdoaadiipmaaDoorTabGet
import Derived.Test.YtgjmdoaadiipmaaDoorTabTable
namespace Go.Proofs.YtgjmdoaadiipmaaDoor
open Go.RowKit

theorem up6_got : DGets (restL [129, 0] (0 : Nat)) 2 9 0 := by
  refine ⟨1, ⟨by omega, by decide +kernel, fun j hj => ?_, fun _ => by decide +kernel⟩, .inr (.inr ⟨by decide +kernel, by decide +kernel, by decide +kernel, by decide +kernel, rfl⟩)⟩
  obtain rfl : j = 0 := by omega
  decide +kernel
theorem Rd.duo (w : World) (x y : Nat) : Rd (w.alloc (.cells #[.int .u8 (x : Int), .int .u8 (y : Int)] 5)) (w.heap.size + 1) (some ⟨w.heap.size, 0, none⟩) 2 2 [x, y] := by
  obtain ⟨h0, h1, _, _⟩ := two_new (w := w) (a := .int .u8 (x : Int)) (b := .int .u8 (y : Int)) (t := 5) (Below.refl _ _)
  refine ⟨rfl, Nat.le_refl _, fun h => (by cases h), fun _ => ⟨_, rfl, by simp, fun j hj => ?_⟩⟩
  rcases (by omega : j = 0 ∨ j = 1) with rfl | rfl
  · exact h0
  · exact h1
/-- below the reader nothing has turned -/
theorem below_went {w w' : World} {g : Nat} (h : w.grownBy w' (some g)) (hg : g < w.heap.size) : Below g w w' := ⟨h.os, h.tape, h.output, h.size, fun k hk => h.block k (by omega) (by simp; omega)⟩
theorem TabAt.went {w0 w w' : World} {g t k : Nat} (h : TabAt w0 w t k) (hb : Below g w w') (hg : t < g) (h0 : w0.heap.size ≤ g) : TabAt w0 w' t k :=
  ⟨h.bel.trans (hb.mono h0), h.from_, Nat.lt_of_lt_of_le h.lt hb.size, fun i hi => (hb.cell (p := ⟨t, i * 2, none⟩) hg).trans (h.head i hi), fun i hi => (hb.cell (p := ⟨t, i * 2 + 1, none⟩) hg).trans (h.body i hi), fun i => (hb.frozen (p := ⟨t, i, none⟩) hg).trans (h.free i)⟩

set_option maxHeartbeats 1000000 in
theorem up6_any (w : World) (hR : RoomW w) (hT : RowsW w) : Calls Tryd.prog 5 #[] w fun e w' => e = .returned (.bool true) ∧ Below w.heap.size w w' := by
  go_enter Tryd.func5, Tryd.ntmps5
  go_wp2_with fail
  refine (table_any w hT).mono ?_
  rintro e w1 ⟨t, rfl, hat⟩
  have hR1 := hR.bel hat.bel
  have hT1 := hT.bel hat.bel
  go_wp2_with fail
  have hba := (Below.refl w1.heap.size w1).alloc (Nat.le_refl _) (.cells #[.int .u8 129, .int .u8 0] 5)
  have hat2 := hat.more hba
  have hR2 := hR1.bel hba
  have hT2 := hT1.bel hba
  have hrd : Rd (w1.alloc (.cells #[.int .u8 129, .int .u8 0] 5)) (w1.alloc (.cells #[.int .u8 129, .int .u8 0] 5)).heap.size (some ⟨w1.heap.size, 0, none⟩) 2 2 [129, 0] := by
    have := Rd.duo w1 129 0
    simpa using this
  clear hat hR1 hT1 hba
  generalize w1.alloc (.cells #[.int .u8 129, .int .u8 0] 5) = w2 at *
  refine (new_any _ 2 2 [129, 0] w2 hrd (by simp) (by omega)).mono ?_
  rintro e w3 ⟨rfl, hr3, hb3, hs3⟩
  have hat3 := hat2.more hb3
  have hR3 := hR2.bel hb3
  have hT3 := hT2.bel hb3
  have hg1 : 1 < w2.heap.size := hT2.size
  have ht2 := hat2.lt
  have h02 := hat2.bel.size
  clear hat2 hR2 hT2 hb3 hrd
  generalize w2.heap.size = g at *
  go_wp2_with fail
  refine (tget_any g _ 2 2 [129, 0] 0 w3 hr3 hR3 hT3 hg1).mono ?_
  rintro e w4 ⟨v, m, k, a', hD, rfl, _, _, hg4⟩
  obtain ⟨rfl, rfl, rfl⟩ := hD.same up6_got
  have hat4 := hat3.went (below_went hg4 (by omega)) ht2 h02
  clear hat3 hg4 hD
  have hc0 : w4.cell? ⟨t, 510, none⟩ = some (.int .i64 4) := hat4.head 255 (by omega)
  have hc1 : w4.cell? ⟨t, 511, none⟩ = some (.int .i64 64) := hat4.body 255 (by omega)
  have hb4 := hat4.bel
  clear hat4
  rw [show errV 0 = .nilIface from rfl]
  go_wp2
  go_ret
  exact ⟨rfl, hb4⟩

end Go.Proofs.YtgjmdoaadiipmaaDoor
