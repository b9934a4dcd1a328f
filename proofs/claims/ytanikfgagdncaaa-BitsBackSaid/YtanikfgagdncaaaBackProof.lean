/-
  What is proved: for every input the law BitsBack returns true, and each argument reads afterwards as it read before. No condition.
-/
import Derived.Test.YtanikfgagdncaaaBack
namespace Go.Proofs.Ytanikfgagdncaaa
open Go.ChangeShapes Go.WideShapes Go.ChangeAt Go.RowKit

theorem back_all (A1 A2 : Option Addr) (m1 c1 m2 c2 : Nat) (l m : List Nat) (v : Nat) (n : Int) (w : World)
    (h1 : Rd w w.heap.size A1 m1 c1 l) (h2 : Rd w w.heap.size A2 m2 c2 m) (hb1 : ∀ x ∈ l, x < 256) (hb2 : ∀ x ∈ m, x < 256)
    (hl : m1 ≤ 9223372036854775807 ∧ m2 ≤ 9223372036854775807) (hv : v ≤ 18446744073709551615) :
    Calls Try.prog 4 #[.slice A1 m1 c1, .slice A2 m2 c2, .int .u64 (v : Int), .int .i64 n] w (RetTrue w) := by
  by_cases hs : m1 ≤ 500 ∧ m2 ≤ 500 ∧ 0 ≤ n ∧ n ≤ 64
  · obtain ⟨n', rfl⟩ := Int.eq_ofNat_of_zero_le hs.2.2.1
    exact back_in A1 A2 m1 c1 m2 c2 l m v n' w h1 h2 hb1 hb2 hs.1 hs.2.1 hv (by omega)
  · exact back_big A1 A2 m1 c1 m2 c2 v n w hl (by omega)

set_option maxRecDepth 100000 in
theorem back_lifted (os : Os) (started : os.Started) (H : Type) (enc : TypeId × Value → H) :
    ReturnsInHanded {} Try.checked os 4 .any (Rows.bitsBackSpec.pre6 enc Try.prog Try.f4 Rows.bitsBackRow.domain false) (Rows.bitsBackSpec.post enc Try.prog Try.f4 false true false false) := by
  refine returnsInHanded_of_change (C := Try.checked) Try.own started (by kernel_rfl) Try.func4
    (ChangeSpec.witness6 (enc := enc) (C := Try.checked) false ⟨#[], #[.slice none 0 0, .slice none 0 0, .int .u64 0, .int .i64 0], []⟩ 8 (by kernel_rfl) (by kernel_rfl) (by kernel_rfl) (by kernel_rfl)) ?_
  intro W base args ds gs before hval0 hW _ _
  have hval : ∀ (j : Nat) t v, Try.f4.params[j]? = some t → args[j]? = some v → Value.okWide Try.prog W .any base t v := hval0
  have hW' := hW
  obtain ⟨p, q, hA0, hV, rfl, hfz, hnd⟩ := hW
  have hA : DataW.TrodAll enc Try.prog W 0 (fun _ => true) true Try.f4.params.toList args.toList ds p := hA0
  rw [Try.params4] at hA hval
  obtain ⟨v0, vs0, d0, ds0, p0, q0, hargs, rfl, rfl, h0, r0⟩ := trodAll_cons hA
  obtain ⟨v1, vs1, d1, ds1, p1, q1, rfl, rfl, rfl, h1, r1⟩ := trodAll_cons r0
  obtain ⟨v2, vs2, d2, ds2, p2, q2, rfl, rfl, rfl, h2, r2⟩ := trodAll_cons r1
  obtain ⟨v3, vs3, d3, ds3, p3, q3, rfl, rfl, rfl, h3, r3⟩ := trodAll_cons r2
  obtain ⟨rfl, rfl, rfl⟩ := trodAll_nil r3
  obtain rfl : args = #[v0, v1, v2, v3] := by cases args; simp_all
  obtain ⟨A0, n0, c0, b0, rfl, hr0, hb0, hl0⟩ := open_bytes (hval 0 22 v0 rfl rfl) h0
  obtain ⟨A1, n1, c1, b1, rfl, hr1, hb1, hl1⟩ := open_bytes (hval 1 22 v1 rfl rfl) h1
  obtain ⟨a2, rfl, rfl, rfl, w2⟩ := open_int Try.underlying23 (hval 2 23 v2 rfl rfl) h2
  obtain ⟨a3, rfl, rfl, rfl, _⟩ := open_int Try.underlying3 (hval 3 3 v3 rfl rfl) h3
  obtain ⟨k2, rfl, hk2⟩ := wf_u64 w2
  exact (back_all A0 A1 n0 c0 n1 c1 b0 b1 k2 a3 W hr0 hr1 hb0 hb1 ⟨hl0, hl1⟩ hk2).mono
    fun e W' h => law_post (s := Rows.bitsBackSpec) rfl (by kernel_rfl) rfl (by kernel_rfl) hW' h

theorem back_holds : Rows.BitsBackSaid :=
  OpenClaim.holds_of_wide 4 Try.f4 rfl rfl rfl rfl rfl rfl rfl ⟨rfl, rfl, rfl, rfl, rfl⟩ rfl rfl rfl rfl rfl (by kernel_rfl) Try.func4 (by kernel_rfl)
    (of_decide_eq_true (by kernel_rfl)) (by unfold Func.isWrapper; first | (rw [if_pos (by decide +kernel)]; kernel_rfl) | (rw [if_neg (by decide +kernel)]; exact ⟨rfl, rfl⟩))
    (fun os started H enc _ => back_lifted os started H enc)

end Go.Proofs.Ytanikfgagdncaaa
