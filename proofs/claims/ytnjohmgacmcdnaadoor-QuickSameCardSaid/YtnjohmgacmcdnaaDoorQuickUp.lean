/-
  The example at the head of layer 12's laws.
-/
import Derived.Test.YtnjohmgacmcdnaaDoorQuickDec
import Derived.Test.YtnjohmgacmcdnaaDoorCode
import Derived.Test.YtnjohmgacmcdnaaDoorSame
namespace Go.Proofs.YtnjohmgacmcdnaaDoor
open Go.RowKit

theorem up12_none : DecA 1 [] 1 [] 2 :=
  .inr ⟨by omega, _, .inr ⟨1, rfl, .inl rfl, .inl ⟨rfl, rfl⟩⟩, .inl ⟨by unfold firstK; simp [badK, flat], rfl, by unfold firstK; simp [badK, flat]⟩⟩
theorem up12_flat : flat [0, 0, 0, 0, 0, 0, 0, 1, 0, 0, 0, 0, 0, 0, 0, 9] = cdK 2 [((1 : Int), 9)] 1 ++ [] := by decide +kernel
theorem up12_some : DecA 2 [0, 0, 0, 0, 0, 0, 0, 1, 0, 0, 0, 0, 0, 0, 0, 9] 1 [((1 : Int), 9)] 0 := by
  refine .inr ⟨by omega, ?_⟩
  rw [up12_flat]
  refine dec_encoded (k := 2) (.inr rfl) (xs := [((1 : Int), 9)]) (fun j => ?_) (fun i h => absurd h (by simp)) []
  cases j with
  | zero => exact ⟨by simp, by simp⟩
  | succ j => exact ⟨by simp, by simp⟩
theorem Own.lit16c {w0 w : World} (h : Below w0.heap.size w0 w) : Own w0 (w.alloc (.cells #[.int .u8 0, .int .u8 0, .int .u8 0, .int .u8 0, .int .u8 0, .int .u8 0, .int .u8 0, .int .u8 1, .int .u8 0, .int .u8 0, .int .u8 0, .int .u8 0, .int .u8 0, .int .u8 0, .int .u8 0, .int .u8 9] 5)) (.slice (some ⟨w.heap.size, 0, none⟩) 16 16) [0, 0, 0, 0, 0, 0, 0, 1, 0, 0, 0, 0, 0, 0, 0, 9] :=
  ⟨World.ownsRow_lit w #[.int .u8 0, .int .u8 0, .int .u8 0, .int .u8 0, .int .u8 0, .int .u8 0, .int .u8 0, .int .u8 1, .int .u8 0, .int .u8 0, .int .u8 0, .int .u8 0, .int .u8 0, .int .u8 0, .int .u8 0, .int .u8 9] 16 h.size (by unfold maxLen; omega) rfl, h.alloc h.size _⟩

set_option maxRecDepth 20000 in
set_option maxHeartbeats 4000000 in
theorem up12_any (w : World) (hT : TabsW w) : Calls Tryd.prog 5 #[] w fun e w' => e = .returned (.bool true) ∧ Below w.heap.size w w' := by
  have hD0 := quickdec_any none 0 0 [] 1 1 w (by omega) Rd.nil_ (by simp) (by omega) hT
  go_enter Tryd.func5, Tryd.ntmps5
  go_wp2_with fail
  refine hD0.mono ?_
  rintro e w1 ⟨xs, er, A1, c1, hd, rfl, ho1⟩
  obtain ⟨rfl, rfl⟩ := hd.same up12_none
  rw [show errV 2 = .iface 42 (.int .i64 2) from rfl]
  have hb1 := ho1.bel
  clear hd hD0 ho1
  simp only [List.length_nil]
  have ho2 := Own.lit16c (w0 := w) (w := w1) hb1
  have hb2 := ho2.bel
  have hD1 := quickdec_any (some ⟨w1.heap.size, 0, none⟩) 16 16 _ 2 1 _ (by omega) ho2.rd (by decide) (by omega) (hT.bel hb2)
  go_wp2_with fail
  refine hD1.mono ?_
  rintro e w3 ⟨xs, er, A3, c3, hd, rfl, ho3⟩
  obtain ⟨rfl, rfl⟩ := hd.same up12_some
  rw [show errV 0 = .nilIface from rfl]
  have hb3 := hb2.trans (ho3.bel.mono hb2.size)
  have hr3 := ho3.rd
  clear hd hD1 ho3 ho2
  simp only [List.length_cons, List.length_nil, Nat.zero_add] at hr3 ⊢
  have hC := fun X => code_any 2 X (by omega)
  rw [show errV 2 = .iface 42 (.int .i64 2) from rfl] at hC
  have hal : Below w3.heap.size w3 (w3.alloc (.cells #[.int .i64 1, .int .u64 9] 41)) := by repeat (first | with_reducible exact Below.refl _ _ | with_reducible assumption | with_reducible refine Below.drew ?_ | with_reducible refine below_drewN ?_ _ | with_reducible refine Below.alloc ?_ (by (first | assumption | omega | (simp; done) | (simp; omega))) _ | with_reducible refine below_set ?_ (by (first | assumption | omega | (simp; done) | (simp; omega))) _ _)
  have hr4 := RdQ.one w3 ((1 : Int), 9) ⟨by simp, by simp, by simp⟩
  have hs4 : (w3.alloc (.cells #[.int .i64 1, .int .u64 9] 41)).heap.size = w3.heap.size + 1 := by simp
  have hS := same_any A3 (some ⟨w3.heap.size, 0, none⟩) 1 c3 1 1 [((1 : Int), 9)] [((1 : Int), 9)] (w3.alloc (.cells #[.int .i64 1, .int .u64 9] 41)) ((hr3.below hal).more hal.size) (by rw [hs4]; exact hr4) (by omega) (by omega)
  replace hb3 := hb3.trans (hal.mono hb3.size)
  clear hr3 hr4 hs4 hal hb2
  go_wp2_with fail
  refine (hC _).mono ?_
  rintro e w5 ⟨rfl, rfl⟩
  clear hC
  go_wp2_with fail
  refine hS.mono ?_
  rintro e w5 ⟨⟨b, rfl, hb⟩, hb5⟩
  obtain rfl := hb.2 (by first | rfl | trivial)
  clear hS hb
  go_wp2
  go_ret
  exact ⟨rfl, hb3.trans (hb5.mono hb3.size)⟩

end Go.Proofs.YtnjohmgacmcdnaaDoor
