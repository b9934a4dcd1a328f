/-
  What is proved: for every input the law FillPlays returns true, and each argument reads afterwards as it read before. No condition.
-/
import Derived.Test.YtcjbaolpkbkblaaFillPlays
namespace Go.Proofs.Ytcjbaolpkbkblaa
open Go.ChangeShapes Go.WideShapes Go.ChangeAt Go.RowKit

theorem plays_all (A1 A2 : Option Addr) (m1 c1 m2 c2 : Nat) (bs : List Nat) (w : World) (h1 : Rd w w.heap.size A1 m1 c1 bs) (hb : ∀ x ∈ bs, x < 256) (h2 : RdP w w.heap.size A2 m2) (hl : m1 ≤ 9223372036854775807 ∧ m2 ≤ 9223372036854775807) :
    Calls Try.prog 3 #[.slice A1 m1 c1, .slice A2 m2 c2] w (RetTrue w) := by
  by_cases hs : m1 ≤ 500 ∧ m2 ≤ 100
  · exact plays_in A1 A2 m1 c1 m2 c2 bs w h1 hb h2 hs.1 hs.2
  · exact plays_big A1 A2 m1 c1 m2 c2 w hl (by omega)

set_option maxRecDepth 100000 in
theorem plays_lifted (os : Os) (started : os.Started) (H : Type) (enc : TypeId × Value → H) :
    ReturnsInHanded {} Try.checked os 3 .any (Rows.fillPlaysSpec.pre6 enc Try.prog Try.f3 Rows.fillPlaysRow.domain false) (Rows.fillPlaysSpec.post enc Try.prog Try.f3 false true false false) := by
  refine returnsInHanded_of_change (C := Try.checked) Try.own started (by kernel_rfl) Try.func3
    (ChangeSpec.witness6 (enc := enc) (C := Try.checked) false ⟨#[], #[.slice none 0 0, .slice none 0 0], []⟩ 8 (by kernel_rfl) (by kernel_rfl) (by kernel_rfl) (by kernel_rfl)) ?_
  intro W base args ds gs before hval0 hW _ _
  have hval : ∀ (j : Nat) t v, Try.f3.params[j]? = some t → args[j]? = some v → Value.okWide Try.prog W .any base t v := hval0
  have hW' := hW
  obtain ⟨p, q, hA0, hV, rfl, hfz, hnd⟩ := hW
  have hA : DataW.TrodAll enc Try.prog W 0 (fun _ => true) true Try.f3.params.toList args.toList ds p := hA0
  rw [Try.params3] at hA hval
  obtain ⟨v0, vs0, d0, ds0, p0, q0, hargs, rfl, rfl, h0, r0⟩ := trodAll_cons hA
  obtain ⟨v1, vs1, d1, ds1, p1, q1, rfl, rfl, rfl, h1, r1⟩ := trodAll_cons r0
  obtain ⟨rfl, rfl, rfl⟩ := trodAll_nil r1
  obtain rfl : args = #[v0, v1] := by cases args; simp_all
  obtain ⟨A0, n0, c0, b0, rfl, hr0, hb0, hl0⟩ := open_bytes (hval 0 22 v0 rfl rfl) h0
  obtain ⟨A1, n1, c1, rfl, hr1, hl1⟩ := open_deeds (hval 1 23 v1 rfl rfl) h1
  exact (plays_all A0 A1 n0 c0 n1 c1 b0 W hr0 hb0 hr1 ⟨hl0, hl1⟩).mono
    fun e W' h => law_post (s := Rows.fillPlaysSpec) rfl (by kernel_rfl) rfl (by kernel_rfl) hW' h

theorem plays_holds : Rows.FillPlaysSaid :=
  OpenClaim.holds_of_wide 3 Try.f3 rfl rfl rfl rfl rfl rfl rfl ⟨rfl, rfl, rfl, rfl, rfl⟩ rfl rfl rfl rfl rfl (by kernel_rfl) Try.func3 (by kernel_rfl)
    (of_decide_eq_true (by kernel_rfl)) (by unfold Func.isWrapper; first | (rw [if_pos (by decide +kernel)]; kernel_rfl) | (rw [if_neg (by decide +kernel)]; exact ⟨rfl, rfl⟩))
    (fun os started H enc _ => plays_lifted os started H enc)

end Go.Proofs.Ytcjbaolpkbkblaa
