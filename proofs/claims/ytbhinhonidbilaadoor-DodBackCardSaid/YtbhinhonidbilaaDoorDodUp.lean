/-
  The contract of the example at the head of the laws of layer 5: it holds.
-/
import Derived.Test.YtbhinhonidbilaaDoorDodCode
import Derived.Test.YtbhinhonidbilaaDoorDodGet
import Derived.Deep.RegionWith
namespace Go.Proofs.YtbhinhonidbilaaDoor
open Go.RowKit

theorem up5_code : codeD 1 = [true, false, false, false, false, false, false, false, true] := by decide +kernel
theorem up5_pack : pack (codeD 1) = [128, 128] := by rw [up5_code]; decide +kernel
theorem up5_len : (codeD 1).length = 9 := by rw [up5_code]; rfl
theorem up5_got : DGets (restL [129, 0] 0) 2 9 0 := by
  refine ⟨1, ⟨by omega, by decide +kernel, fun j hj => ?_, fun _ => by decide +kernel⟩, .inr (.inr ⟨by decide +kernel, by decide +kernel, by decide +kernel, by decide +kernel, rfl⟩)⟩
  obtain rfl : j = 0 := by omega
  decide +kernel

theorem up5_codes (w : World) (hR : RoomW w) : Calls Tryd.prog 10 #[.int .i64 1] w fun e w' => ∃ A c, e = .returned (.agg #[.slice A 2 c, .int .i64 9]) ∧ Own w w' (.slice A 2 c) [128, 128] := by
  refine (dcode_any 1 w (by omega) hR).mono ?_
  rintro e w' ⟨A, c, he, hown⟩
  rw [up5_pack] at he hown
  rw [up5_len] at he
  exact ⟨A, c, he, hown⟩
theorem Rd.pair (w : World) (x y : Nat) : Rd (w.alloc (.cells #[.int .u8 (x : Int), .int .u8 (y : Int)] 5)) (w.heap.size + 1) (some ⟨w.heap.size, 0, none⟩) 2 2 [x, y] := by
  obtain ⟨h0, h1, _, _⟩ := two_new (w := w) (a := .int .u8 (x : Int)) (b := .int .u8 (y : Int)) (t := 5) (Below.refl _ _)
  refine ⟨rfl, Nat.le_refl _, fun h => (by cases h), fun _ => ⟨_, rfl, by simp, fun j hj => ?_⟩⟩
  rcases (by omega : j = 0 ∨ j = 1) with rfl | rfl
  · exact h0
  · exact h1
theorem up5_get (w : World) (g : Nat) (hg : g = w.heap.size) (hR : RoomW (w.alloc (.cells #[.int .u8 129, .int .u8 0] 5))) (v1 n1 e1 : Value) (hv : v1 = .int .i64 2) (hn : n1 = .int .i64 9) (he : e1 = .nilIface) :
    Calls Tryd.prog 6 #[.slice (some ⟨g, 0, none⟩) 2 2, .int .i64 0] (w.alloc (.cells #[.int .u8 129, .int .u8 0] 5)) fun e w' => e = .returned (.tuple #[v1, n1, e1]) ∧ Below (w.alloc (.cells #[.int .u8 129, .int .u8 0] 5)).heap.size (w.alloc (.cells #[.int .u8 129, .int .u8 0] 5)) w' := by
  subst hv hn he hg
  refine (dget_all _ 2 2 _ [129, 0] 0 _ (Rd.pair w 129 0) (by simp) (by omega) (by omega) hR).mono ?_
  rintro e w' ⟨v, n, k, hu, he, hw⟩
  obtain ⟨rfl, rfl, rfl⟩ := hu.same up5_got
  exact ⟨he, hw⟩

set_option maxHeartbeats 1000000 in
theorem up5_any (w : World) (hR : RoomW w) : Calls Tryd.prog 5 #[] w fun e w' => e = .returned (.bool true) ∧ Below w.heap.size w w' := by
  obtain ⟨s, HS⟩ : ∃ s, Hid (Value.string (strB [128, 128]) = s) := ⟨_, Lib.hid rfl⟩
  obtain ⟨v1, HV⟩ : ∃ v1, Hid (v1 = Value.int .i64 2) := ⟨_, Lib.hid rfl⟩
  obtain ⟨n1, HN⟩ : ∃ n1, Hid (n1 = Value.int .i64 9) := ⟨_, Lib.hid rfl⟩
  obtain ⟨e1, HE⟩ : ∃ e1, Hid (e1 = Value.nilIface) := ⟨_, Lib.hid rfl⟩
  go_enter Tryd.func5, Tryd.ntmps5
  go_wp2_with fail
  refine (up5_codes w hR).mono ?_
  rintro e w1 ⟨A, c, rfl, hown⟩
  go_wp2_with fail
  have hb1 := hown.bel.alloc hown.bel.size (.cells #[.slice A 2 c, .int .i64 9] 33)
  have hb2 := hb1.alloc hb1.size (.cells #[.int .u8 129, .int .u8 0] 5)
  have hg := up5_get (w1.alloc (.cells #[.slice A 2 c, .int .i64 9] 33)) (w1.heap.size + 1) (by simp) (hR.bel hb2) v1 n1 e1 HV.out HN.out HE.out
  have hx := ((BoxAt.new w1 (.slice A 2 c) (.int .i64 9) 33)).below ((Below.refl _ _).alloc (Nat.le_refl _) (.cells #[.int .u8 129, .int .u8 0] 5))
  have hown2 := (hown.alloc (.cells #[.slice A 2 c, .int .i64 9] 33)).alloc (.cells #[.int .u8 129, .int .u8 0] 5)
  clear hb1 hown
  generalize (w1.alloc (.cells #[.slice A 2 c, .int .i64 9] 33)).alloc (.cells #[.int .u8 129, .int .u8 0] 5) = W at *
  refine hg.mono ?_
  clear hg
  rintro e w2 ⟨rfl, hb3⟩
  have hown3 := hown2.keep hb3
  have hx3 := hx.below hb3
  clear hown2 hx
  obtain ⟨_, xc0, xc1, _, _⟩ := hx3
  have hs1 := run_str hown3.rd
  have hs2 : (convert 22 9 (.slice (some ⟨w2.heap.size, 0, none⟩) 2 2)).run Tryd.prog (w2.alloc (.cells #[.int .u8 128, .int .u8 128] 5)) = .ok (.string (strB [128, 128])) (w2.alloc (.cells #[.int .u8 128, .int .u8 128] 5)) := run_str (Rd.pair w2 128 128)
  have hb4 := hown3.bel.alloc hown3.bel.size (.cells #[.int .u8 128, .int .u8 128] 5)
  clear hown3 hb2 hb3
  have e1' := HV.out
  have e2' := HN.out
  have e3' := HE.out
  subst e1' e2' e3'
  go_wp2
  go_ret
  exact ⟨rfl, hb4⟩

end Go.Proofs.YtbhinhonidbilaaDoor
