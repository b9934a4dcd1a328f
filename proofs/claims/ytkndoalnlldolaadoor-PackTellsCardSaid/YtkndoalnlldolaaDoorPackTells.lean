/-
  PackTells, walked: it returns true, whatever the arguments.
-/
import Derived.Test.YtkndoalnlldolaaDoorPackUp
import Derived.Test.YtkndoalnlldolaaDoorPackRef
import Derived.Test.YtkndoalnlldolaaDoorWords
namespace Go.Proofs.YtkndoalnlldolaaDoor
open Go.RowKit

set_option maxRecDepth 20000 in
set_option maxHeartbeats 1000000 in
theorem ptells_big (A : Option Addr) (m c : Nat) (z s : Int) (w : World) (_hl : m ≤ 9223372036854775807) (h : 100 < m) (hR : RoomW w) (hT : TzW w) :
    Calls Tryd.prog 3 #[.int .i64 z, .slice A m c, .int .i64 s] w (RetTrue w) := by
  go_enter Tryd.func3, Tryd.ntmps3
  go_wp2_with (go_at_call 5; refine (up15_any _ hR hT).mono ?_; rintro e w1 ⟨rfl, hb1⟩)
  go_ret
  exact ⟨rfl, hb1⟩

set_option maxRecDepth 20000 in
set_option maxHeartbeats 4000000 in
theorem ptells_in (A : Option Addr) (m c : Nat) (z s : Int) (xs : List (Int × Nat)) (w : World) (h1 : RdQ w w.heap.size A m c xs) (hm : m ≤ 100) (hR : RoomW w) (hT : TzW w) :
    Calls Tryd.prog 3 #[.int .i64 z, .slice A m c, .int .i64 s] w (RetTrue w) := by
  go_enter Tryd.func3, Tryd.ntmps3
  go_wp2_with fail
  refine (up15_any w hR hT).mono ?_
  rintro e w1 ⟨rfl, hb1⟩
  go_wp2_with fail
  refine (pack_any z s A m c xs w1 ((h1.below hb1).more hb1.size) (by omega) (hR.bel hb1) (hT.bel hb1)).mono ?_
  rintro e w2 ⟨er, A2, c2, her, rfl, ho2⟩
  have hb2 := hb1.trans (ho2.bel.mono hb1.size)
  have hr2 := ho2.rd
  clear ho2 hb1
  go_wp2_with fail
  refine (rpack_any z s A m c xs w2 ((h1.below hb2).more hb2.size) hm).mono ?_
  rintro e w3 ⟨er', A3, c3, her', rfl, ho3⟩
  obtain rfl := her.same her'
  have hb3 := hb2.trans (ho3.bel.mono hb2.size)
  have hr3 := ho3.rd
  replace hr2 := hr2.below ho3.bel
  have he6 := her.le
  clear ho3 hb2 her her' h1
  generalize blockE z s xs er = bl at *
  obtain ⟨L, HL⟩ : ∃ L, Hid (bl.length = L) := ⟨_, Lib.hid rfl⟩
  rw [HL.out] at hr2 hr3 ⊢
  have hq2 := run_str hr2
  have hq3 := run_str hr3
  have hC := code_any er w3 (by omega)
  clear hr2 hr3
  go_wp2_with (go_at_call 8; refine hC.mono ?_; rintro e w4 ⟨rfl, rfl⟩)
  go_ret
  exact ⟨rfl, hb3⟩

theorem ptells_all (A : Option Addr) (m c : Nat) (z s : Int) (xs : List (Int × Nat)) (w : World) (h1 : RdQ w w.heap.size A m c xs) (hl : m ≤ 9223372036854775807) (hR : RoomW w) (hT : TzW w) :
    Calls Tryd.prog 3 #[.int .i64 z, .slice A m c, .int .i64 s] w (RetTrue w) := by
  by_cases h : 100 < m
  · exact ptells_big A m c z s w hl h hR hT
  · exact ptells_in A m c z s xs w h1 (by omega) hR hT

end Go.Proofs.YtkndoalnlldolaaDoor
