/-
  The example at the head of layer 19's laws.
-/
import Derived.Test.YtkjkdiijlgoagaaGreatDoorJmpA
import Derived.Test.YtkjkdiijlgoagaaGreatDoorScanA
import Derived.Test.YtkjkdiijlgoagaaGreatDoorCode
namespace Go.Proofs.YtkjkdiijlgoagaaGreatDoor
open Go.RowKit

theorem jwF_void : (jwF []).xs = [] ∧ (jwF []).er = 5 ∧ (jwF []).cn = 0 := by
  have h := wholeF_void
  refine ⟨?_, ?_, ?_⟩
  · show (wholeF []).1 = []
    rw [h]
  · show (wholeF []).2 = 5
    rw [h]
  · show chunksN [] = 0
    unfold wholeF at h
    unfold chunksN
    cases hg : getI [] with
    | error j => rfl
    | ok q =>
      obtain ⟨k, es, n⟩ := q
      have h1 := getI_ok (by simp) hg
      have h2 := lens_four h1.1 es.length (Nat.le_refl _)
      have h3 := h1.2.2.2
      rw [List.take_length] at h2
      simp only [List.length_nil] at h3
      simp only
      omega

set_option maxRecDepth 20000 in
set_option maxHeartbeats 2000000 in
theorem up19_any (w : World) (hT : TabsW w) : Calls Tryz.prog 5 #[] w (RetTrue w) := by
  have hN := jnew_any none 0 0 0 [] w Rd.nil_ (Nat.zero_le _) (by simp) (by omega)
  obtain ⟨x1, x2, x3⟩ := jwF_void
  have hat := jnew_at (bs := []) (by simp) (by simp)
  have hfix : JFix (jwF []) := ⟨by omega, by omega⟩
  generalize jwF [] = W at *
  generalize jnewF [] = s at *
  have HX := Lib.hid (And.intro x1 (And.intro x2 x3))
  clear x1 x2 x3
  have HT := Lib.hid hT
  clear hT
  go_enter Tryz.func5, Tryz.ntmps5
  go_wp2_with fail
  refine hN.mono ?_
  rintro e w1 ⟨g, rfl, hg, hj, hb1⟩
  clear hN
  have hlt : g < w1.heap.size := by
    obtain ⟨_, _, _, _, _, _, h⟩ := hj
    exact h.box.lt
  have hS := jnext_any _ W g s (-1) false w1 hj (fun k hk => by omega) (HT.out.bel hb1) hat hfix
  go_wp2_with fail
  refine hS.mono ?_
  rintro e w2 ⟨ok, a', s2, rfl, hr, hat2, hj2, hg2, _⟩
  rw [HX.out.1] at hr
  obtain ⟨rfl, rfl⟩ := hr.one (.inr ⟨.inr (by simp), rfl, rfl⟩)
  have hb2 := below_far hb1 hg2 hg
  have hck := hat2.count.1 rfl
  rw [HX.out.2.2] at hck
  have hck0 : s2.ck = 0 := by omega
  have hE := jerr_any _ W g s2 (-1) true w2 hj2 hat2
  rw [HX.out.2.1] at hE
  simp only [cond_true] at hE
  have hC := fun X => code_any 5 X (by omega)
  have hK := fun X (hX : Below w2.heap.size w2 X) => jck_any _ g s2 X (hj2.below hX)
  rw [hck0] at hK
  generalize errV 5 = ev at *
  clear hS hr hat hat2 hck hck0 hg2
  go_wp2_with fail
  refine hE.mono ?_
  rintro e w3 ⟨rfl, hb4⟩
  clear hE
  go_wp2_with fail
  refine (hC _).mono ?_
  rintro e w4 ⟨rfl, rfl⟩
  clear hC
  go_wp2_with fail
  refine (hK _ hb4).mono ?_
  rintro e w5 ⟨rfl, hb5⟩
  go_wp2
  go_ret
  exact ⟨rfl, (hb2.trans (hb4.mono hb2.size)).trans (hb5.mono (Nat.le_trans hb2.size hb4.size))⟩

end Go.Proofs.YtkjkdiijlgoagaaGreatDoor
