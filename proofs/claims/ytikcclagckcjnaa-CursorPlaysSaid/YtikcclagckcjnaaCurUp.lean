/-
  The example at the head of layer 17's laws.
-/
import Derived.Test.YtikcclagckcjnaaCurTo
import Derived.Test.YtikcclagckcjnaaCode
namespace Go.Proofs.Ytikcclagckcjnaa
open Go.RowKit

theorem isErr_v (k : Nat) : IsErr (errV k) := by
  unfold errV
  split
  · exact .inl rfl
  · exact .inr ⟨_, rfl⟩

set_option maxRecDepth 20000 in
set_option maxHeartbeats 2000000 in
theorem up17_any (w : World) : Calls Try.prog 5 #[] w (RetTrue w) := by
  have e7 : errV 7 = .iface 29 (.int .i64 7) := rfl
  go_enter Try.func5, Try.ntmps5
  go_wp2_with fail
  refine (cur_new none 0 0 (.iface 29 (.int .i64 7)) w (.inr ⟨7, rfl⟩)).mono ?_
  rintro e w1 ⟨rfl, hb1⟩
  go_wp2_with fail
  refine (cur_next none 0 0 (.iface 29 (.int .i64 7)) (-1) false w1 (.inr ⟨7, rfl⟩) ⟨by omega, by omega⟩ (by omega)).mono ?_
  rintro e w2 ⟨ok, a', rfl, hr, hb2⟩
  obtain ⟨rfl, rfl⟩ := hr.one (.inr ⟨.inr (by simp), rfl, rfl⟩)
  replace hb1 := hb1.trans (hb2.mono hb1.size)
  clear hr hb2
  go_upto_region 2 with fail
  have x1 := BoxL.new_at0 (w := w2) [.slice none 0 0, .iface 29 (.int .i64 7), .int .i64 (-1), .bool true] 31 rfl
  replace hb1 : Below w.heap.size w (w2.alloc (.cells #[.slice none 0 0, .iface 29 (.int .i64 7), .int .i64 (-1), .bool true] 31)) := hb1.alloc hb1.size _
  generalize w2.heap.size = g1 at *
  generalize w2.alloc (.cells [.slice none 0 0, .iface 29 (.int .i64 7), .int .i64 (-1), .bool true].toArray 31) = w3 at *
  clear w2 w1
  have l1 : lookQ [] (-1) true = (0, 0) := rfl
  have hlook := cur_look none 0 0 [] (.iface 29 (.int .i64 7)) (-1) true w3 (.inr ⟨7, rfl⟩) ⟨by omega, by omega⟩ ⟨rfl, Nat.le_refl _, fun _ => rfl, fun h => absurd h (by omega), by simp⟩
  rw [l1] at hlook
  obtain ⟨u0, u1, u2, u3⟩ := x1.get4
  go_wp2_with fail
  refine hlook.mono ?_
  rintro e w4 ⟨rfl, hb4⟩
  clear u0 u1 u2 u3 hlook l1
  replace x1 := x1.below hb4
  replace hb1 := hb1.trans (hb4.mono hb1.size)
  clear hb4
  have hr4 := RdQ.one w4 ((5 : Int), 6) ⟨by simp, by simp, by simp⟩
  have hs4 : (w4.alloc (.cells #[.int .i64 5, .int .u64 6] 52)).heap.size = w4.heap.size + 1 := by simp
  have hb5 : Below w4.heap.size w4 (w4.alloc (.cells #[.int .i64 5, .int .u64 6] 52)) := by repeat (first | with_reducible exact Below.refl _ _ | assumption | with_reducible refine Below.drew ?_ | with_reducible refine Below.alloc ?_ (by (first | assumption | omega | (simp; done) | (simp; omega))) _)
  go_wp2_with fail
  refine (cur_new _ 1 1 .nilIface _ (.inl rfl)).mono ?_
  rintro e w6 ⟨rfl, hb6⟩
  have hr6 := (hr4.below (hb6.mono (Nat.le_of_eq hs4.symm))).more (by rw [← hs4]; exact hb6.size)
  replace hb5 := hb5.trans (hb6.mono hb5.size)
  clear hr4 hb6 hs4
  go_wp2_with fail
  refine (cur_seek _ 1 1 _ .nilIface (-1) 5 false w6 (.inl rfl) ⟨by omega, by omega⟩ (by omega) hr6 (RiseQ.one _)).mono ?_
  rintro e w7 ⟨ok, a', rfl, hr, hb7⟩
  obtain ⟨rfl, rfl⟩ := hr.one (.inr ⟨rfl, 0, ⟨Nat.le_refl _, by simp, fun i h1 h2 => absurd h2 (by omega), fun _ => by simp⟩, .inl ⟨by simp, rfl, rfl⟩⟩)
  replace hr6 := (hr6.below hb7).more hb7.size
  replace hb5 := hb5.trans (hb7.mono hb5.size)
  replace x1 := x1.below hb5
  replace hb1 := hb1.trans (hb5.mono hb1.size)
  clear hr hb7 hb5
  go_upto_region 4 with fail
  generalize w4.heap.size = g4 at *
  have x5 := BoxL.new_at0 (w := w7) [.slice (some ⟨g4, 0, none⟩) 1 1, .nilIface, .int .i64 0, .bool false] 31 rfl
  have hal : Below w7.heap.size w7 (w7.alloc (.cells #[.slice (some ⟨g4, 0, none⟩) 1 1, .nilIface, .int .i64 0, .bool false] 31)) := by repeat (first | with_reducible exact Below.refl _ _ | assumption | with_reducible refine Below.drew ?_ | with_reducible refine Below.alloc ?_ (by (first | assumption | omega | (simp; done) | (simp; omega))) _)
  replace x1 := x1.below hal
  replace hr6 := (hr6.below hal).more hal.size
  replace hb1 := hb1.trans (hal.mono hb1.size)
  clear hal
  generalize w7.heap.size = g5 at *
  generalize w7.alloc (.cells #[.slice (some ⟨g4, 0, none⟩) 1 1, .nilIface, .int .i64 0, .bool false] 31) = w8 at *
  have l1 : lookQ [((5 : Int), 6)] 0 false = (5, 6) := rfl
  have hlook := cur_look _ 1 1 _ .nilIface 0 false w8 (.inl rfl) ⟨by omega, by omega⟩ hr6
  rw [l1] at hlook
  obtain ⟨u0, u1, u2, u3⟩ := x5.get4
  go_wp2_with fail
  refine hlook.mono ?_
  rintro e w9 ⟨rfl, hb9⟩
  replace x1 := x1.below hb9
  replace hb1 := hb1.trans (hb9.mono hb1.size)
  clear hlook l1 hr6 hb9 u0 u1 u2 u3 x5
  obtain ⟨u0, u1, u2, u3⟩ := x1.get4
  have hE := cur_err none 0 0 (.iface 29 (.int .i64 7)) (-1) true w9 (.inr ⟨7, rfl⟩)
  simp only [cond_true] at hE
  go_wp2_with fail
  refine hE.mono ?_
  rintro e w10 ⟨rfl, hb10⟩
  replace hb1 := hb1.trans (hb10.mono hb1.size)
  clear hE u0 u1 u2 u3
  have hC := code_some 7 w10 (by omega) (by omega)
  go_wp2_with fail
  refine hC.mono ?_
  rintro e w11 ⟨rfl, rfl⟩
  go_wp2
  go_ret
  exact ⟨rfl, hb1⟩

end Go.Proofs.Ytikcclagckcjnaa
