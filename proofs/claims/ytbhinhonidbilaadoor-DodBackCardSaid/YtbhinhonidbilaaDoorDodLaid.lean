/-
  What the row's condition on the listed table gives the walks; that the program's own start meets it.
-/
import Derived.Test.YtbhinhonidbilaaDoorDod
import Derived.Test.YtbhinhonidbilaaDoorLaw
import Derived.Lib.LaidTab
import Derived.LaidMore
import Derived.Stop.Joined
namespace Go.Proofs.YtbhinhonidbilaaDoor
open Go.ChangeShapes Go.WideShapes Go.ChangeAt Go.RowKit

theorem Tryd.gRoom : Tryd.prog.globalNamed "gaiter/dod.room" = some 0 := by kernel_rfl
theorem Tryd.tRoom : (Tryd.prog.globals[0]?).map (·.type) = some 49 := by kernel_rfl
theorem Tryd.cellsI : Tryd.prog.cellsOf 3 = 1 := by kernel_rfl
theorem Tryd.cellsR : Tryd.prog.cellsOf 49 = 5 := by kernel_rfl

/-- the listed variables -/
def laidR : List (String × DataW Unit) := [("gaiter/dod.room", Rows.laid_gaiter_dod_room)]

theorem room_laid {W : World} (h : laidMetH Tryd.prog laidR W) : RoomW W := by
  rw [MakeChecks.laidMetH_plain _ _ _ (by kernel_rfl)] at h
  have hT := Lib.tabIs_of_head (k := .i64) (zs := [0, 7, 9, 12, 64]) (rest := []) Tryd.gRoom Tryd.tRoom Tryd.underlying49 Tryd.underlying3 Tryd.cellsI Tryd.cellsR h
  have hc := fun i hi => hT.cell Tryd.gRoom i hi
  refine ⟨?_, fun i hi => ?_⟩
  · have := World.block_lt_of_cell? W _ (hc 0 (by decide))
    exact this
  · rcases (by omega : i = 0 ∨ i = 1 ∨ i = 2 ∨ i = 3 ∨ i = 4) with rfl | rfl | rfl | rfl | rfl
    · exact hc 0 (by decide)
    · exact hc 1 (by decide)
    · exact hc 2 (by decide)
    · exact hc 3 (by decide)
    · exact hc 4 (by decide)

theorem door_met (os : Os) (args : Array Value) : laidMetH Tryd.prog laidR ((World.doorLaid Tryd.prog 14 os).forCall (fun _ _ => 0) ⟨#[], args, []⟩).memory :=
  laidMetH_of_parts3 (fuel := 8) (laidMet_of_run' 8 (by kernel_rfl) (by kernel_rfl)) (by kernel_rfl) (by kernel_rfl)

end Go.Proofs.YtbhinhonidbilaaDoor
