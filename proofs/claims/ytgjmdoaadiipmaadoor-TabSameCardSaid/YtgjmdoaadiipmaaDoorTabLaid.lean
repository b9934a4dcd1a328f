/-
  What the row's condition on the two listed tables gives the walks; that the program's own start meets it.
-/
import Derived.Test.YtgjmdoaadiipmaaDoorTab
import Derived.Test.YtgjmdoaadiipmaaDoorLaw
import Derived.Lib.LaidTab
import Derived.LaidMore
import Derived.Stop.Joined
namespace Go.Proofs.YtgjmdoaadiipmaaDoor
open Go.ChangeShapes Go.WideShapes Go.ChangeAt Go.RowKit

theorem Tryd.gRoom : Tryd.prog.globalNamed "gaiter/dod.room" = some 0 := by kernel_rfl
theorem Tryd.tRoom : (Tryd.prog.globals[0]?).map (·.type) = some 65 := by kernel_rfl
theorem Tryd.cellsInt : Tryd.prog.cellsOf 3 = 1 := by kernel_rfl
theorem Tryd.cellsR : Tryd.prog.cellsOf 65 = 5 := by kernel_rfl
theorem Tryd.gTab : Tryd.prog.globalNamed "gaiter/tab.rows" = some 1 := by kernel_rfl

theorem Tryd.tTab : (Tryd.prog.globals[1]?).map (·.type) = some 68 := by kernel_rfl
theorem Tryd.cellsPair : Tryd.prog.cellsOf 30 = 2 := by kernel_rfl

/-- an array of structs of two integers that reads so holds those integers -/
theorem pair_tab {H : Type} {enc : TypeId × Value → H} {P : Program} {w : World} {base : Nat} {sp : Nat → Bool} {held : Bool} {fuel : Nat} {t e it : TypeId} {n : Nat} {k : IntKind} {f0 f1 : Field} {cs : List Value} {ds : List (DataW H)} {p : List MemPlace}
    (ht : P.underlying t = some (.array n e)) (he : P.underlying e = some (.struct #[f0, f1])) (hk : P.underlying it = some (.int k)) (hci : P.cellsOf it = 1) (hce : P.cellsOf e = 2)
    (h : DataW.trod enc P w base sp held fuel t cs = some (.agg ds, p)) {i : Nat} (hi : i < n) {a b : Int} (hd : ds[i]? = some (.agg [.lit (.int k a), .lit (.int k b)]))
    (e0 : f0.type = it := by rfl) (e1 : f1.type = it := by rfl) (o0 : f0.offset = 0 := by rfl) (o1 : f1.offset = 1 := by rfl) :
    cs[i * 2]? = some (.int k a) ∧ cs[i * 2 + 1]? = some (.int k b) := by
  obtain ⟨xs, m, _, hx, _, hl, hf⟩ := DataW.trod_array ht h
  injection hx with hx1 hx2
  injection hx1 with hx1
  obtain ⟨b', hb⟩ : ∃ b', xs[i]? = some b' := ⟨xs[i]'(by omega), List.getElem?_eq_getElem _⟩
  have h1 := hf i hi
  rw [hb, hce] at h1
  rw [hx1, List.getElem?_map, hb] at hd
  obtain ⟨y0, y1, m', hy, _, g0, g1⟩ := trod_struct2 he h1
  rw [e0, o0, hci] at g0
  rw [e1, o1, hci] at g1
  obtain ⟨a', ha, hy0, _⟩ := DataW.trod_int hk g0
  obtain ⟨b'', hb', hy1, _⟩ := DataW.trod_int hk g1
  rw [hy] at hd
  simp only [Option.map_some, Option.some.injEq, DataW.agg.injEq, List.cons.injEq, and_true] at hd
  rw [hy0, hy1] at hd
  simp only [DataW.lit.injEq, Lit.int.injEq, true_and] at hd
  obtain ⟨rfl, rfl⟩ := hd
  refine ⟨?_, ?_⟩
  · have := congrArg (·[0]?) ha
    simpa [List.getElem?_take, List.getElem?_drop] using this
  · have := congrArg (·[0]?) hb'
    simpa [List.getElem?_take, List.getElem?_drop] using this

/-- the listed variables -/
def laid6 : List (String × DataW Unit) := [("gaiter/dod.room", Rows.laid_gaiter_dod_room), ("gaiter/tab.rows", Rows.laid_gaiter_tab_rows)]

theorem room6_laid {W : World} (h : laidMetH Tryd.prog laid6 W) : RoomW W := by
  rw [MakeChecks.laidMetH_plain _ _ _ (by kernel_rfl)] at h
  have hT := Lib.tabIs_of_head (k := .i64) (zs := [0, 7, 9, 12, 64]) (rest := [("gaiter/tab.rows", Rows.laid_gaiter_tab_rows)]) Tryd.gRoom Tryd.tRoom Tryd.underlying65 Tryd.underlying3 Tryd.cellsInt Tryd.cellsR h
  have hc := fun i hi => hT.cell Tryd.gRoom i hi
  refine ⟨?_, fun i hi => ?_⟩
  · have := World.block_lt_of_cell? W _ (hc 0 (by decide))
    exact this
  · rcases (by omega : i = 0 ∨ i = 1 ∨ i = 2 ∨ i = 3 ∨ i = 4) with rfl | rfl | rfl | rfl | rfl
    · exact hc 0 (by decide)
    · exact hc 1 (by decide)
    · exact hc 2 (by decide)
    · exact hc 3 (by decide)
    · exact hc 4 (by decide)

theorem door6_met (os : Os) (args : Array Value) : laidMetH Tryd.prog laid6 ((World.doorLaid Tryd.prog 24 os).forCall (fun _ _ => 0) ⟨#[], args, []⟩).memory :=
  laidMetH_of_parts3 (fuel := 8) (laidMet_of_run' 8 (by kernel_rfl) (by kernel_rfl)) (by kernel_rfl) (by kernel_rfl)

theorem rows6_laid {W : World} (h : laidMetH Tryd.prog laid6 W) : RowsW W := by
  rw [MakeChecks.laidMetH_plain _ _ _ (by kernel_rfl)] at h
  obtain ⟨ps, ⟨g1, t1, cs1, fuel1, p1, q1, _, _, _, _, ⟨g2, t2, cs2, fuel2, p2, q2, hg2, ht2, hvar2, hd2, _, _⟩, _⟩, _⟩ := h
  obtain rfl := Option.some.inj (Tryd.gTab.symm.trans hg2)
  obtain rfl := Option.some.inj (Tryd.tTab.symm.trans ht2)
  have hp := fun i (hi : i < 5) a b => pair_tab (k := .i64) Tryd.underlying68 Tryd.underlying30 Tryd.underlying3 Tryd.cellsInt Tryd.cellsPair hd2 hi (a := a) (b := b)
  have hc := World.var?_cell Tryd.gTab hvar2
  have key : ∀ i, i < 5 → W.cell? ⟨1, i * 2, none⟩ = some (.int .i64 ((headN i : Nat) : Int)) ∧ W.cell? ⟨1, i * 2 + 1, none⟩ = some (.int .i64 ((roomN i : Nat) : Int)) := by
    intro i hi
    have h1 := hp i hi ((headN i : Nat) : Int) ((roomN i : Nat) : Int) (by
      rcases (by omega : i = 0 ∨ i = 1 ∨ i = 2 ∨ i = 3 ∨ i = 4) with rfl | rfl | rfl | rfl | rfl <;> rfl)
    rw [hc, hc]
    simpa using h1
  refine ⟨?_, fun i hi => (key i hi).1, fun i hi => (key i hi).2⟩
  exact World.block_lt_of_cell? W _ (key 0 (by omega)).1

end Go.Proofs.YtgjmdoaadiipmaaDoor
