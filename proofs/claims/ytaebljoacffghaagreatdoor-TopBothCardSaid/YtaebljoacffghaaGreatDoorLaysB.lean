/-
  Texts of this proof, one behind the other: PairTab, BatLaid.
-/
import Derived.Test.YtaebljoacffghaaGreatDoorWords
import Derived.Test.YtaebljoacffghaaGreatDoorDods
import Derived.Test.YtaebljoacffghaaGreatDoorXorsG
import Derived.Test.YtaebljoacffghaaGreatDoorBatB
import Derived.Lib.LaidTab
import Derived.LaidMore
import Derived.Stop.Joined

/-
  An array of structs of two integers that reads so holds those integers.
-/
namespace Go.Proofs.YtaebljoacffghaaGreatDoor
open Go.ChangeShapes Go.WideShapes Go.ChangeAt Go.RowKit

/-- an array of structs of two integers that reads so holds those integers -/
theorem pair_tab {H : Type} {enc : TypeId × Value → H} {P : Program} {w : World} {base : Nat} {sp : Nat → Bool} {held : Bool} {fuel : Nat} {t e it : TypeId} {n : Nat} {k : IntKind} {f0 f1 : Field} {cs : List Value} {ds : List (DataW H)} {p : List MemPlace}
    (ht : P.underlying t = some (.array n e)) (he : P.underlying e = some (.struct #[f0, f1])) (hk : P.underlying it = some (.int k)) (hci : P.cellsOf it = 1) (hce : P.cellsOf e = 2)
    (h : DataW.trod enc P w base sp held fuel t cs = some (.agg ds, p)) {i : Nat} (hi : i < n) {a b : Int} (hd : ds[i]? = some (.agg [.lit (.int k a), .lit (.int k b)]))
    (e0 : f0.type = it := by rfl) (e1 : f1.type = it := by rfl) (o0 : f0.offset = 0 := by rfl) (o1 : f1.offset = 1 := by rfl) :
    cs[i * 2]? = some (.int k a) ∧ cs[i * 2 + 1]? = some (.int k b) := by
  obtain ⟨xs, m, _, hx, _, hl, hf⟩ := DataW.trod_array ht h
  injection hx with hx1 hx2
  injection hx1 with hx1
  obtain ⟨b', hb⟩ : ∃ b', xs[i]? = some b' := ⟨xs[i]'(by omega), List.getElem?_eq_getElem _⟩
  have h1 := hf i hi
  rw [hb, hce] at h1
  rw [hx1, List.getElem?_map, hb] at hd
  obtain ⟨y0, y1, m', hy, _, g0, g1⟩ := trod_struct2 he h1
  rw [e0, o0, hci] at g0
  rw [e1, o1, hci] at g1
  obtain ⟨a', ha, hy0, _⟩ := DataW.trod_int hk g0
  obtain ⟨b'', hb', hy1, _⟩ := DataW.trod_int hk g1
  rw [hy] at hd
  simp only [Option.map_some, Option.some.injEq, DataW.agg.injEq, List.cons.injEq, and_true] at hd
  rw [hy0, hy1] at hd
  simp only [DataW.lit.injEq, Lit.int.injEq, true_and] at hd
  obtain ⟨rfl, rfl⟩ := hd
  refine ⟨?_, ?_⟩
  · have := congrArg (·[0]?) ha
    simpa [List.getElem?_take, List.getElem?_drop] using this
  · have := congrArg (·[0]?) hb'
    simpa [List.getElem?_take, List.getElem?_drop] using this

end Go.Proofs.YtaebljoacffghaaGreatDoor

/-
  What the row's condition on the three listed tables gives the walks; that the program's own start meets it.
-/
namespace Go.Proofs.YtaebljoacffghaaGreatDoor
open Go.ChangeShapes Go.WideShapes Go.ChangeAt Go.RowKit

theorem Tryz.gTz : Tryz.prog.globalNamed "math/bits.deBruijn64tab" = some 1 := by kernel_rfl
theorem Tryz.tTz : (Tryz.prog.globals[1]?).map (·.type) = some 220 := by kernel_rfl
theorem Tryz.cellsTz : Tryz.prog.cellsOf 220 = 64 := by kernel_rfl
theorem Tryz.gRoom : Tryz.prog.globalNamed "gaiter/dod.room" = some 0 := by kernel_rfl
theorem Tryz.tRoom : (Tryz.prog.globals[0]?).map (·.type) = some 203 := by kernel_rfl
theorem Tryz.gTab : Tryz.prog.globalNamed "gaiter/tab.rows" = some 2 := by kernel_rfl
theorem Tryz.tTab : (Tryz.prog.globals[2]?).map (·.type) = some 227 := by kernel_rfl
theorem Tryz.cellsPair : Tryz.prog.cellsOf 223 = 2 := by kernel_rfl
theorem Tryz.cellsInt : Tryz.prog.cellsOf 3 = 1 := by kernel_rfl
theorem Tryz.cellsR : Tryz.prog.cellsOf 203 = 5 := by kernel_rfl

/-- the table's numbers -/
def tzL : List Int := [0, 1, 56, 2, 57, 49, 28, 3, 61, 58, 42, 50, 38, 29, 17, 4, 62, 47, 59, 36, 45, 43, 51, 22, 53, 39, 33, 30, 24, 18, 12, 5, 63, 55, 48, 27, 60, 41, 37, 16, 46, 35, 44, 21, 52, 32, 23, 11, 54, 26, 40, 15, 34, 20, 31, 10, 25, 14, 19, 9, 13, 8, 7, 6]
def roomL : List Int := [0, 7, 9, 12, 64]
/-- the listed variables -/
def laidB : List (String × DataW Unit) := [("math/bits.deBruijn64tab", Rows.laid_math_bits_deBruijn64tab), ("gaiter/dod.room", Rows.laid_gaiter_dod_room), ("gaiter/tab.rows", Rows.laid_gaiter_tab_rows)]

theorem tz_laid {W : World} (h : laidMetH Tryz.prog laidB W) : TzW W := by
  rw [MakeChecks.laidMetH_plain _ _ _ (by kernel_rfl)] at h
  have hT := tabIs_in (k := .u8) (zs := tzL) Tryz.gTz Tryz.tTz Tryz.underlying220 Tryz.underlying5 Tryz.cellsB Tryz.cellsTz h (by unfold laidB; exact List.mem_cons_self ..)
  have hc := fun i hi => hT.cell Tryz.gTz i hi
  refine ⟨?_, fun t ht => ?_⟩
  · exact World.block_lt_of_cell? W _ (hc 0 (by decide))
  · have key : ∀ t : Nat, t < 64 → 2 ^ t * 285870213051353865 % 18446744073709551616 / 288230376151711744 < tzL.length ∧ tzL.getD (2 ^ t * 285870213051353865 % 18446744073709551616 / 288230376151711744) 0 = (t : Int) := by decide +kernel
    obtain ⟨k1, k2⟩ := key t (by omega)
    generalize 2 ^ t * 285870213051353865 % 18446744073709551616 / 288230376151711744 = i at *
    have h1 := hc i k1
    rw [h1, ← k2]
theorem room_laid {W : World} (h : laidMetH Tryz.prog laidB W) : RoomW W := by
  rw [MakeChecks.laidMetH_plain _ _ _ (by kernel_rfl)] at h
  have hT := tabIs_in (k := .i64) (zs := roomL) Tryz.gRoom Tryz.tRoom Tryz.underlying203 Tryz.underlying3 Tryz.cellsInt Tryz.cellsR h (by unfold laidB; exact List.mem_cons_of_mem _ (List.mem_cons_self ..))
  have hc := fun i hi => hT.cell Tryz.gRoom i hi
  refine ⟨?_, fun i hi => ?_⟩
  · have := World.block_lt_of_cell? W _ (hc 0 (by decide))
    exact this
  · rcases (by omega : i = 0 ∨ i = 1 ∨ i = 2 ∨ i = 3 ∨ i = 4) with rfl | rfl | rfl | rfl | rfl
    · exact hc 0 (by decide)
    · exact hc 1 (by decide)
    · exact hc 2 (by decide)
    · exact hc 3 (by decide)
    · exact hc 4 (by decide)

theorem rows_laid {W : World} (h : laidMetH Tryz.prog laidB W) : RowsW W := by
  rw [MakeChecks.laidMetH_plain _ _ _ (by kernel_rfl)] at h
  obtain ⟨ps, hl, _⟩ := h
  obtain ⟨g2, t2, cs2, fuel2, p2, hg2, ht2, hvar2, hd2⟩ := laidVars_in (x := ("gaiter/tab.rows", Rows.laid_gaiter_tab_rows)) hl (by unfold laidB; exact List.mem_cons_of_mem _ (List.mem_cons_of_mem _ (List.mem_cons_self ..)))
  obtain rfl := Option.some.inj (Tryz.gTab.symm.trans hg2)
  obtain rfl := Option.some.inj (Tryz.tTab.symm.trans ht2)
  have hp := fun i (hi : i < 5) a b => pair_tab (k := .i64) Tryz.underlying227 Tryz.underlying223 Tryz.underlying3 Tryz.cellsInt Tryz.cellsPair hd2 hi (a := a) (b := b)
  have hc := World.var?_cell Tryz.gTab hvar2
  have key : ∀ i, i < 5 → W.cell? ⟨2, i * 2, none⟩ = some (.int .i64 ((headN i : Nat) : Int)) ∧ W.cell? ⟨2, i * 2 + 1, none⟩ = some (.int .i64 ((roomN i : Nat) : Int)) := by
    intro i hi
    have h1 := hp i hi ((headN i : Nat) : Int) ((roomN i : Nat) : Int) (by
      rcases (by omega : i = 0 ∨ i = 1 ∨ i = 2 ∨ i = 3 ∨ i = 4) with rfl | rfl | rfl | rfl | rfl <;> rfl)
    rw [hc, hc]
    simpa using h1
  refine ⟨?_, fun i hi => (key i hi).1, fun i hi => (key i hi).2⟩
  exact World.block_lt_of_cell? W _ (key 0 (by omega)).1

theorem doorB_met (os : Os) (args : Array Value) : laidMetH Tryz.prog laidB ((World.doorLaid Tryz.prog 29 os).forCall (fun _ _ => 0) ⟨#[], args, []⟩).memory :=
  laidMetH_of_parts3 (fuel := 8) (laidMet_of_run' 8 (by kernel_rfl) (by kernel_rfl)) (by kernel_rfl) (by kernel_rfl)

end Go.Proofs.YtaebljoacffghaaGreatDoor
