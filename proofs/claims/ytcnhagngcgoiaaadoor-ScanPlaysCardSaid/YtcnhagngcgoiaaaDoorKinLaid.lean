/-
  What the row's condition on the two listed tables gives the walks; that the program's own start meets it.
-/
import Derived.Test.YtcnhagngcgoiaaaDoorDods
import Derived.Test.YtcnhagngcgoiaaaDoorXorsG
import Derived.Test.YtcnhagngcgoiaaaDoorWords
namespace Go.Proofs.YtcnhagngcgoiaaaDoor
open Go.ChangeShapes Go.WideShapes Go.ChangeAt Go.RowKit

theorem Tryd.gTz : Tryd.prog.globalNamed "math/bits.deBruijn64tab" = some 1 := by kernel_rfl
theorem Tryd.tTz : (Tryd.prog.globals[1]?).map (·.type) = some 182 := by kernel_rfl
theorem Tryd.cellsTz : Tryd.prog.cellsOf 182 = 64 := by kernel_rfl
theorem Tryd.gRoom : Tryd.prog.globalNamed "gaiter/dod.room" = some 0 := by kernel_rfl
theorem Tryd.tRoom : (Tryd.prog.globals[0]?).map (·.type) = some 173 := by kernel_rfl
theorem Tryd.cellsInt : Tryd.prog.cellsOf 3 = 1 := by kernel_rfl
theorem Tryd.cellsR : Tryd.prog.cellsOf 173 = 5 := by kernel_rfl

/-- the table's numbers -/
def tzL : List Int := [0, 1, 56, 2, 57, 49, 28, 3, 61, 58, 42, 50, 38, 29, 17, 4, 62, 47, 59, 36, 45, 43, 51, 22, 53, 39, 33, 30, 24, 18, 12, 5, 63, 55, 48, 27, 60, 41, 37, 16, 46, 35, 44, 21, 52, 32, 23, 11, 54, 26, 40, 15, 34, 20, 31, 10, 25, 14, 19, 9, 13, 8, 7, 6]
def roomL : List Int := [0, 7, 9, 12, 64]
/-- the listed variables -/
def laid8 : List (String × DataW Unit) := [("math/bits.deBruijn64tab", Rows.laid_math_bits_deBruijn64tab), ("gaiter/dod.room", Rows.laid_gaiter_dod_room)]

theorem tz_laid {W : World} (h : laidMetH Tryd.prog laid8 W) : TzW W := by
  rw [MakeChecks.laidMetH_plain _ _ _ (by kernel_rfl)] at h
  have hT := tabIs_in (k := .u8) (zs := tzL) Tryd.gTz Tryd.tTz Tryd.underlying182 Tryd.underlying5 Tryd.cellsB Tryd.cellsTz h (by unfold laid8; exact List.mem_cons_self ..)
  have hc := fun i hi => hT.cell Tryd.gTz i hi
  refine ⟨?_, fun t ht => ?_⟩
  · exact World.block_lt_of_cell? W _ (hc 0 (by decide))
  · have key : ∀ t : Nat, t < 64 → 2 ^ t * 285870213051353865 % 18446744073709551616 / 288230376151711744 < tzL.length ∧ tzL.getD (2 ^ t * 285870213051353865 % 18446744073709551616 / 288230376151711744) 0 = (t : Int) := by decide +kernel
    obtain ⟨k1, k2⟩ := key t (by omega)
    generalize 2 ^ t * 285870213051353865 % 18446744073709551616 / 288230376151711744 = i at *
    have h1 := hc i k1
    rw [h1, ← k2]
theorem room_laid {W : World} (h : laidMetH Tryd.prog laid8 W) : RoomW W := by
  rw [MakeChecks.laidMetH_plain _ _ _ (by kernel_rfl)] at h
  have hT := tabIs_in (k := .i64) (zs := roomL) Tryd.gRoom Tryd.tRoom Tryd.underlying173 Tryd.underlying3 Tryd.cellsInt Tryd.cellsR h (by unfold laid8; exact List.mem_cons_of_mem _ (List.mem_cons_self ..))
  have hc := fun i hi => hT.cell Tryd.gRoom i hi
  refine ⟨?_, fun i hi => ?_⟩
  · have := World.block_lt_of_cell? W _ (hc 0 (by decide))
    exact this
  · rcases (by omega : i = 0 ∨ i = 1 ∨ i = 2 ∨ i = 3 ∨ i = 4) with rfl | rfl | rfl | rfl | rfl
    · exact hc 0 (by decide)
    · exact hc 1 (by decide)
    · exact hc 2 (by decide)
    · exact hc 3 (by decide)
    · exact hc 4 (by decide)

theorem door8_met (os : Os) (args : Array Value) : laidMetH Tryd.prog laid8 ((World.doorLaid Tryd.prog 19 os).forCall (fun _ _ => 0) ⟨#[], args, []⟩).memory :=
  laidMetH_of_parts3 (fuel := 8) (laidMet_of_run' 8 (by kernel_rfl) (by kernel_rfl)) (by kernel_rfl) (by kernel_rfl)

end Go.Proofs.YtcnhagngcgoiaaaDoor
