/-
  What is proved: for every input the law CursorForth returns true, and each argument reads afterwards as it read before. No condition.
-/
import Derived.Test.YtikcclagckcjnaaCursorForth
import Derived.Lib.SmallJoins
namespace Go.Proofs.Ytikcclagckcjnaa
open Go.ChangeShapes Go.WideShapes Go.ChangeAt Go.RowKit

set_option maxRecDepth 100000 in
theorem cforth_lifted (os : Os) (started : os.Started) (H : Type) (enc : TypeId × Value → H) :
    ReturnsInHanded {} Try.checked os 4 .any (Rows.cursorForthSpec.pre6 enc Try.prog Try.f4 Rows.cursorForthRow.domain false) (Rows.cursorForthSpec.post enc Try.prog Try.f4 false true false false) := by
  refine returnsInHanded_of_change (C := Try.checked) Try.own started (by kernel_rfl) Try.func4
    (ChangeSpec.witness6 (enc := enc) (C := Try.checked) false ⟨#[], #[.slice none 0 0, .slice none 0 0], []⟩ 8 (by kernel_rfl) (by kernel_rfl) (by kernel_rfl) (by kernel_rfl)) ?_
  intro W base args ds gs before hval0 hW _ _
  have hval : ∀ (j : Nat) t v, Try.f4.params[j]? = some t → args[j]? = some v → Value.okWide Try.prog W .any base t v := hval0
  have hW' := hW
  obtain ⟨p, q, hA0, hV, rfl, hfz, hnd⟩ := hW
  have hA : DataW.TrodAll enc Try.prog W 0 (fun _ => true) true Try.f4.params.toList args.toList ds p := hA0
  rw [Try.params4] at hA hval
  obtain ⟨v0, vs0, d0, ds0, p0, q0, hargs, rfl, rfl, h0, r0⟩ := trodAll_cons hA
  obtain ⟨v1, vs1, d1, ds1, p1, q1, rfl, rfl, rfl, h1, r1⟩ := trodAll_cons r0
  obtain ⟨rfl, rfl, rfl⟩ := trodAll_nil r1
  obtain rfl : args = #[v0, v1] := by cases args; simp_all
  obtain ⟨A0, n0, c0, x0, rfl, hr0, hl0⟩ := open_samples (hval 0 22 v0 rfl rfl) h0
  obtain ⟨A1, n1, c1, rfl, hr1, hl1⟩ := open_deeds17 (hval 1 23 v1 rfl rfl) h1
  exact (cforth_all A0 A1 n0 c0 n1 c1 x0 W hr0 hr1 ⟨hl0, hl1⟩).mono
    fun e W' h => law_post (s := Rows.cursorForthSpec) rfl (by kernel_rfl) rfl (by kernel_rfl) hW' h

theorem cforth_holds : Rows.CursorForthSaid :=
  OpenClaim.holds_of_wide 4 Try.f4 rfl rfl rfl rfl rfl rfl rfl ⟨rfl, rfl, rfl, rfl, rfl⟩ rfl rfl rfl rfl rfl (by kernel_rfl) Try.func4 (by kernel_rfl)
    (of_decide_eq_true (by kernel_rfl)) (by unfold Func.isWrapper; first | (rw [if_pos (by decide +kernel)]; kernel_rfl) | (rw [if_neg (by decide +kernel)]; exact ⟨rfl, rfl⟩))
    (fun os started H enc _ => cforth_lifted os started H enc)

end Go.Proofs.Ytikcclagckcjnaa
