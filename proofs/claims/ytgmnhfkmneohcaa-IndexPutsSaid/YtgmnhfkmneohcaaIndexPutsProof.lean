/-
  What is proved: for every input the law IndexPuts returns true, and each argument reads afterwards as it read before. No condition.
-/
import Derived.Test.YtgmnhfkmneohcaaIndexPuts
import Derived.Lib.SmallJoins
namespace Go.Proofs.Ytgmnhfkmneohcaa
open Go.ChangeShapes Go.WideShapes Go.ChangeAt Go.RowKit

set_option maxRecDepth 100000 in
theorem iputs_lifted (os : Os) (started : os.Started) (H : Type) (enc : TypeId × Value → H) :
    ReturnsInHanded {} Try.checked os 3 .any (Rows.indexPutsSpec.pre6 enc Try.prog Try.f3 Rows.indexPutsRow.domain false) (Rows.indexPutsSpec.post enc Try.prog Try.f3 false true false false) := by
  refine returnsInHanded_of_change (C := Try.checked) Try.own started (by kernel_rfl) Try.func3
    (ChangeSpec.witness6 (enc := enc) (C := Try.checked) false ⟨#[], #[.agg #[.int .i64 0, .slice none 0 0]], []⟩ 8 (by kernel_rfl) (by kernel_rfl) (by kernel_rfl) (by kernel_rfl)) ?_
  intro W base args ds gs before hval0 hW _ _
  have hval : ∀ (j : Nat) t v, Try.f3.params[j]? = some t → args[j]? = some v → Value.okWide Try.prog W .any base t v := hval0
  have hW' := hW
  obtain ⟨p, q, hA0, hV, rfl, hfz, hnd⟩ := hW
  have hA : DataW.TrodAll enc Try.prog W 0 (fun _ => true) true Try.f3.params.toList args.toList ds p := hA0
  rw [Try.params3] at hA hval
  obtain ⟨v0, vs0, d0, ds0, p0, q0, hargs, rfl, rfl, h0, r0⟩ := trodAll_cons hA
  obtain ⟨rfl, rfl, rfl⟩ := trodAll_nil r0
  obtain rfl : args = #[v0] := by cases args; simp_all
  obtain ⟨s0, u0, y0, z0, m0, rfl, rfl, rfl, g0, k0⟩ := Go.Joins.open_agg2 Try.underlying24 (by kernel_rfl) (by kernel_rfl) (hval 0 24 v0 rfl rfl) h0
  obtain ⟨a0, e0, wf0⟩ := open_int_v Try.underlying3 g0
  subst e0
  obtain ⟨A0, n0, c0, x0, f0, hr0, hl0⟩ := open_ents k0
  simp only [List.cons.injEq, and_true] at f0
  subst f0
  exact (iputs_all a0 A0 n0 c0 x0 W hr0 hl0).mono
    fun e W' h => law_post (s := Rows.indexPutsSpec) rfl (by kernel_rfl) rfl (by kernel_rfl) hW' h

theorem iputs_holds : Rows.IndexPutsSaid :=
  OpenClaim.holds_of_wide 3 Try.f3 rfl rfl rfl rfl rfl rfl rfl ⟨rfl, rfl, rfl, rfl, rfl⟩ rfl rfl rfl rfl rfl (by kernel_rfl) Try.func3 (by kernel_rfl)
    (of_decide_eq_true (by kernel_rfl)) (by unfold Func.isWrapper; first | (rw [if_pos (by decide +kernel)]; kernel_rfl) | (rw [if_neg (by decide +kernel)]; exact ⟨rfl, rfl⟩))
    (fun os started H enc _ => iputs_lifted os started H enc)

end Go.Proofs.Ytgmnhfkmneohcaa
