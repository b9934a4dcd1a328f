/-
  The contracts of the program's isKind and entryMayBe: what an index may be.
-/
import Derived.Test.YtkndoalnlldolaaDoorEnts
import Derived.Test.YtkndoalnlldolaaDoorUvPut
import Derived.BigQuiet
namespace Go.Proofs.YtkndoalnlldolaaDoor
open Go.RowKit

/-- what a function that decides p comes to: it may make memory -/
def RetDP (w : World) (p : Prop) (e : Ending) (w' : World) : Prop := ∃ b : Bool, (b = true ↔ p) ∧ e = .returned (.bool b) ∧ Below w.heap.size w w'

set_option maxRecDepth 20000 in
set_option maxHeartbeats 400000 in
theorem iskind_any (k : Int) (w : World) :
    Calls Tryd.prog 34 #[.int .i64 k] w fun e w' => (∃ b : Bool, (b = true ↔ (k = 1 ∨ k = 2)) ∧ e = .returned (.bool b)) ∧ w = w' := by
  by_cases h1 : k = 1
  · subst h1
    go_enter Tryd.func34, Tryd.ntmps34
    go_wp2
    go_ret
    exact ⟨⟨true, by simp, rfl⟩, rfl⟩
  · by_cases h2 : k = 2
    · subst h2
      go_enter Tryd.func34, Tryd.ntmps34
      go_wp2
      go_ret
      exact ⟨⟨true, by simp, rfl⟩, rfl⟩
    · have H : Hid (false = true ↔ (k = 1 ∨ k = 2)) := Lib.hid (by simp [h1, h2])
      have e1 : (k == 1) = false := by simp [h1]
      have e2 : (k == 2) = false := by simp [h2]
      clear h1 h2
      go_enter Tryd.func34, Tryd.ntmps34
      go_wp2
      go_ret
      exact ⟨⟨false, H.out, rfl⟩, rfl⟩

set_option maxRecDepth 20000 in
set_option maxHeartbeats 400000 in
theorem entmay_any (e : Ent) (w : World) :
    Calls Tryd.prog 35 #[eagg e] w (RetDP w (MayE e)) := by
  obtain ⟨m, x, c, l⟩ := e
  have HB : Below w.heap.size w (w.alloc (.cells #[.int .i64 m, .int .i64 x, .int .i64 c, .int .i64 l] 46)) := (Below.refl w.heap.size w).alloc (Nat.le_refl _) _
  have HT : (1 ≤ c ∧ c ≤ 65535 ∧ 4 ≤ l ∧ l ≤ 2147483647 ∧ m ≤ x) → RetDP w (MayE ⟨m, x, c, l⟩) (.returned (.bool true)) (w.alloc (.cells #[.int .i64 m, .int .i64 x, .int .i64 c, .int .i64 l] 46)) :=
    fun h => ⟨true, ⟨fun _ => ⟨⟨h.1, h.2.1⟩, ⟨h.2.2.1, h.2.2.2.1⟩, h.2.2.2.2⟩, fun _ => rfl⟩, rfl, HB⟩
  have HF : ¬ (1 ≤ c ∧ c ≤ 65535 ∧ 4 ≤ l ∧ l ≤ 2147483647 ∧ m ≤ x) → RetDP w (MayE ⟨m, x, c, l⟩) (.returned (.bool false)) (w.alloc (.cells #[.int .i64 m, .int .i64 x, .int .i64 c, .int .i64 l] 46)) :=
    fun h => ⟨false, ⟨fun h2 => (by cases h2), fun h2 => absurd ⟨h2.1.1, h2.1.2, h2.2.1.1, h2.2.1.2, h2.2.2⟩ h⟩, rfl, HB⟩
  have HT := Lib.hid HT
  have HF := Lib.hid HF
  clear HB
  unfold eagg
  go_enter Tryd.func35, Tryd.ntmps35
  by_cases h1 : 1 ≤ c
  · by_cases h2 : c ≤ 65535
    · by_cases h3 : 4 ≤ l
      · by_cases h4 : l ≤ 2147483647
        · by_cases h5 : m ≤ x
          · go_wp2
            go_ret
            exact HT.out ⟨h1, h2, h3, h4, h5⟩
          · go_wp2
            go_ret
            exact HF.out (by omega)
        · go_wp2
          go_ret
          exact HF.out (by omega)
      · go_wp2
        go_ret
        exact HF.out (by omega)
    · go_wp2
      go_ret
      exact HF.out (by omega)
  · go_wp2
    go_ret
    exact HF.out (by omega)


end Go.Proofs.YtkndoalnlldolaaDoor
