/-
  What is proved: for every input the law XorBack returns true, and each argument reads afterwards as it read before; the package's table reads as the program's text lays it. No condition.
-/
import Derived.Test.YtfehlkilnghhiaaDoorXorBack
import Derived.Test.YtfehlkilnghhiaaDoorXorLaid
import Derived.Test.YtfehlkilnghhiaaDoorCards
import Derived.Test.YtfehlkilnghhiaaDoorTie
namespace Go.Proofs.YtfehlkilnghhiaaDoor
open Go.ChangeShapes Go.WideShapes Go.ChangeAt Go.RowKit

set_option maxRecDepth 100000 in
theorem xback_lifted (os : Os) (started : os.Started) (H : Type) (enc : TypeId × Value → H) :
    ReturnsInHanded {} Tryd.checked os 4 .any (fun w args => (Rows.xorBackSpec.pre enc Tryd.prog Tryd.f4 [] false w args ∧ laidMetH Tryd.prog laid7 w) ∧ sizedMet enc Tryd.prog Tryd.f4 (OpenSpec.ofChange Rows.xorBackSpec) false w args)
      (Rows.xorBackSpec.post enc Tryd.prog Tryd.f4 false true false false) := by
  refine returnsInHanded_of_change_and (C := Tryd.checked) (X := fun w _ => laidMetH Tryd.prog laid7 w) (fun _ _ _ hh h => h.of_heap hh) Tryd.own started (by kernel_rfl) Tryd.func4
    (ChangeSpec.witness_shaped (enc := enc) (C := Tryd.checked) (os := os) (X := fun w _ => laidMetH Tryd.prog laid7 w) false (World.doorLaid Tryd.prog 14 os) #[.slice none 0 0, .slice none 0 0, .slice none 0 0, .slice none 0 0] 8 rfl (World.shaped_of_RefB (by kernel_rfl) (by kernel_rfl)) (by kernel_rfl) (by kernel_rfl) (by kernel_rfl) (door7_met os _)) ?_
  intro W base args ds gs before hval0 hW _ _ hL _
  have hval : ∀ (j : Nat) t v, Tryd.f4.params[j]? = some t → args[j]? = some v → Value.okWide Tryd.prog W .any base t v := hval0
  have hW' := hW
  obtain ⟨p, q, hA0, hV, rfl, hfz, hnd⟩ := hW
  have hA : DataW.TrodAll enc Tryd.prog W 0 (fun _ => true) true Tryd.f4.params.toList args.toList ds p := hA0
  rw [Tryd.params4] at hA hval
  obtain ⟨v0, vs0, d0, ds0, p0, q0, hargs, rfl, rfl, h0, r0⟩ := trodAll_cons hA
  obtain ⟨v1, vs1, d1, ds1, p1, q1, rfl, rfl, rfl, h1, r1⟩ := trodAll_cons r0
  obtain ⟨v2, vs2, d2, ds2, p2, q2, rfl, rfl, rfl, h2, r2⟩ := trodAll_cons r1
  obtain ⟨v3, vs3, d3, ds3, p3, q3, rfl, rfl, rfl, h3, r3⟩ := trodAll_cons r2
  obtain ⟨rfl, rfl, rfl⟩ := trodAll_nil r3
  obtain rfl : args = #[v0, v1, v2, v3] := by cases args; simp_all
  obtain ⟨A0, n0, c0, b0, rfl, hr0, hb0, hl0⟩ := open_bytes (hval 0 25 v0 rfl rfl) h0
  obtain ⟨A1, n1, c1, b1, rfl, hr1, hl1⟩ := open_u64sl (hval 1 46 v1 rfl rfl) h1
  obtain ⟨A2, n2, c2, b2, rfl, hr2, hb2, hl2⟩ := open_bytes (hval 2 25 v2 rfl rfl) h2
  obtain ⟨A3, n3, c3, b3, rfl, hr3, hb3, hl3⟩ := open_bytes (hval 3 25 v3 rfl rfl) h3
  exact (xback_all A0 A1 A2 A3 n0 c0 n1 c1 n2 c2 n3 c3 b0 b2 b3 b1 W hr0 hr1 hr2 hr3 hb0 hb2 hb3 ⟨hl0, hl1, hl2, hl3⟩ (tz_laid hL)).mono
    fun e W' h => law_post (s := Rows.xorBackSpec) rfl (by kernel_rfl) rfl (by kernel_rfl) hW' h

theorem xback_holds : Rows.XorBackSaid :=
  OpenClaim.holds_of_wide 4 Tryd.f4 rfl rfl rfl rfl rfl rfl rfl ⟨rfl, rfl, rfl, rfl, rfl⟩ rfl rfl rfl rfl rfl (by kernel_rfl) Tryd.func4 (by kernel_rfl)
    (of_decide_eq_true (by kernel_rfl)) (by unfold Func.isWrapper; first | (rw [if_pos (by decide +kernel)]; kernel_rfl) | (rw [if_neg (by decide +kernel)]; exact ⟨rfl, rfl⟩))
    (fun os started H enc _ => xback_lifted os started H enc)

theorem xback_card : Rows.XorBackCardSaid :=
  Claim7.holds_tied_plain_at .later [] [.data] true Rows.xorBackCard.stood.harness true
    xback_holds (fun _ h => by cases h) (by kernel_rfl) (fun _ h => by cases h) xorBack_row_tie rfl ⟨rfl, rfl⟩ (by kernel_rfl) rfl
    (fun f fn hf hfn => by
      obtain rfl : f = 4 := Option.some.inj ((show Tryd.prog.funcNamed "gaiter/gaiterlaw07.XorBack" = some 4 by kernel_rfl).symm.trans hf) |>.symm
      obtain rfl : fn = Tryd.f4 := (Option.some.inj (Tryd.func4.symm.trans hfn)).symm
      exact ⟨by kernel_rfl, fun j t ht => by
        have hall : (Tryd.f4.params.toList.all fun u => !Tryd.prog.wantsStandIn u) = true := by kernel_rfl
        have hm : t ∈ Tryd.f4.params.toList := by simpa using Array.mem_of_getElem? ht
        exact (show Tryd.prog.wantsStandIn t = false by simpa using List.all_eq_true.1 hall t hm)⟩)
    (by kernel_rfl)

end Go.Proofs.YtfehlkilnghhiaaDoor
