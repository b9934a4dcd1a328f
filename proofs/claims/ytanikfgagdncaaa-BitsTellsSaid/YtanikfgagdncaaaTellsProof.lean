/-
  What is proved: for every input the law BitsTells returns true, and each argument reads afterwards as it read before. No condition.
-/
import Derived.Test.YtanikfgagdncaaaTellsOut
namespace Go.Proofs.Ytanikfgagdncaaa
open Go.ChangeShapes Go.WideShapes Go.ChangeAt Go.RowKit

theorem tells_all (A1 A2 A3 : Option Addr) (m1 c1 m2 c2 m3 c3 : Nat) (l m b : List Nat) (v : Nat) (n a : Int) (w : World)
    (h1 : Rd w w.heap.size A1 m1 c1 l) (h2 : Rd w w.heap.size A2 m2 c2 m) (h3 : Rd w w.heap.size A3 m3 c3 b) (hb1 : ∀ x ∈ l, x < 256) (hb2 : ∀ x ∈ m, x < 256) (hb3 : ∀ x ∈ b, x < 256)
    (hl : m1 ≤ 9223372036854775807 ∧ m2 ≤ 9223372036854775807 ∧ m3 ≤ 9223372036854775807) (hv : v ≤ 18446744073709551615) (hn : -9223372036854775808 ≤ n ∧ n ≤ 9223372036854775807) (ha : -9223372036854775808 ≤ a ∧ a ≤ 9223372036854775807) :
    Calls Try.prog 3 #[.slice A1 m1 c1, .slice A2 m2 c2, .int .u64 (v : Int), .int .i64 n, .slice A3 m3 c3, .int .i64 a] w (RetTrue w) := by
  by_cases hs : m1 ≤ 500 ∧ m2 ≤ 500 ∧ m3 ≤ 500
  · by_cases hr : 0 ≤ n ∧ n ≤ 64
    · obtain ⟨n', rfl⟩ := Int.eq_ofNat_of_zero_le hr.1
      exact tells_in A1 A2 A3 m1 c1 m2 c2 m3 c3 l m b v n' a w h1 h2 h3 hb1 hb2 hb3 hs.1 hs.2.1 hs.2.2 hv (by omega) ha
    · exact tells_out A1 A2 A3 m1 c1 m2 c2 m3 c3 l m b v n a w h1 h2 h3 hb1 hb2 hb3 hs.1 hs.2.1 hs.2.2 (by omega) hn ha
  · exact tells_big A1 A2 A3 m1 c1 m2 c2 m3 c3 v n a w hl (by omega)

set_option maxRecDepth 100000 in
theorem tells_lifted (os : Os) (started : os.Started) (H : Type) (enc : TypeId × Value → H) :
    ReturnsInHanded {} Try.checked os 3 .any (Rows.bitsTellsSpec.pre6 enc Try.prog Try.f3 Rows.bitsTellsRow.domain false) (Rows.bitsTellsSpec.post enc Try.prog Try.f3 false true false false) := by
  refine returnsInHanded_of_change (C := Try.checked) Try.own started (by kernel_rfl) Try.func3
    (ChangeSpec.witness6 (enc := enc) (C := Try.checked) false ⟨#[], #[.slice none 0 0, .slice none 0 0, .int .u64 0, .int .i64 0, .slice none 0 0, .int .i64 0], []⟩ 8 (by kernel_rfl) (by kernel_rfl) (by kernel_rfl) (by kernel_rfl)) ?_
  intro W base args ds gs before hval0 hW _ _
  have hval : ∀ (j : Nat) t v, Try.f3.params[j]? = some t → args[j]? = some v → Value.okWide Try.prog W .any base t v := hval0
  have hW' := hW
  obtain ⟨p, q, hA0, hV, rfl, hfz, hnd⟩ := hW
  have hA : DataW.TrodAll enc Try.prog W 0 (fun _ => true) true Try.f3.params.toList args.toList ds p := hA0
  rw [Try.params3] at hA hval
  obtain ⟨v0, vs0, d0, ds0, p0, q0, hargs, rfl, rfl, h0, r0⟩ := trodAll_cons hA
  obtain ⟨v1, vs1, d1, ds1, p1, q1, rfl, rfl, rfl, h1, r1⟩ := trodAll_cons r0
  obtain ⟨v2, vs2, d2, ds2, p2, q2, rfl, rfl, rfl, h2, r2⟩ := trodAll_cons r1
  obtain ⟨v3, vs3, d3, ds3, p3, q3, rfl, rfl, rfl, h3, r3⟩ := trodAll_cons r2
  obtain ⟨v4, vs4, d4, ds4, p4, q4, rfl, rfl, rfl, h4, r4⟩ := trodAll_cons r3
  obtain ⟨v5, vs5, d5, ds5, p5, q5, rfl, rfl, rfl, h5, r5⟩ := trodAll_cons r4
  obtain ⟨rfl, rfl, rfl⟩ := trodAll_nil r5
  obtain rfl : args = #[v0, v1, v2, v3, v4, v5] := by cases args; simp_all
  obtain ⟨A0, n0, c0, b0, rfl, hr0, hb0, hl0⟩ := open_bytes (hval 0 22 v0 rfl rfl) h0
  obtain ⟨A1, n1, c1, b1, rfl, hr1, hb1, hl1⟩ := open_bytes (hval 1 22 v1 rfl rfl) h1
  obtain ⟨a2, rfl, rfl, rfl, w2⟩ := open_int Try.underlying23 (hval 2 23 v2 rfl rfl) h2
  obtain ⟨a3, rfl, rfl, rfl, w3⟩ := open_int Try.underlying3 (hval 3 3 v3 rfl rfl) h3
  obtain ⟨A4, n4, c4, b4, rfl, hr4, hb4, hl4⟩ := open_bytes (hval 4 22 v4 rfl rfl) h4
  obtain ⟨a5, rfl, rfl, rfl, w5⟩ := open_int Try.underlying3 (hval 5 3 v5 rfl rfl) h5
  obtain ⟨k2, rfl, hk2⟩ := wf_u64 w2
  exact (tells_all A0 A1 A4 n0 c0 n1 c1 n4 c4 b0 b1 b4 k2 a3 a5 W hr0 hr1 hr4 hb0 hb1 hb4 ⟨hl0, hl1, hl4⟩ hk2 (wf_i64 w3) (wf_i64 w5)).mono
    fun e W' h => law_post (s := Rows.bitsTellsSpec) rfl (by kernel_rfl) rfl (by kernel_rfl) hW' h

theorem tells_holds : Rows.BitsTellsSaid :=
  OpenClaim.holds_of_wide 3 Try.f3 rfl rfl rfl rfl rfl rfl rfl ⟨rfl, rfl, rfl, rfl, rfl⟩ rfl rfl rfl rfl rfl (by kernel_rfl) Try.func3 (by kernel_rfl)
    (of_decide_eq_true (by kernel_rfl)) (by unfold Func.isWrapper; first | (rw [if_pos (by decide +kernel)]; kernel_rfl) | (rw [if_neg (by decide +kernel)]; exact ⟨rfl, rfl⟩))
    (fun os started H enc _ => tells_lifted os started H enc)

end Go.Proofs.Ytanikfgagdncaaa
