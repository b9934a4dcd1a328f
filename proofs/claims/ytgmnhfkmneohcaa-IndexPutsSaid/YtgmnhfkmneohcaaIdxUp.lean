/-
  The contract of the example at the head of the laws of layer 14: it holds.
-/
import Derived.Test.YtgmnhfkmneohcaaIdxPut
import Derived.Test.YtgmnhfkmneohcaaIdxGet
namespace Go.Proofs.Ytgmnhfkmneohcaa
open Go.RowKit

theorem idx_none_len : (idxB 1 []).length = 10 := by simp [idxB, headB, entsB, uvB_last, bigB_length]
theorem idx_lt {k : Nat} (hk : k < 256) (es : List Ent) : ∀ x ∈ idxB k es, x < 256 := by
  intro x hx
  rcases List.mem_append.1 hx with h | h
  · exact headB_lt hk es x h
  · exact bigB_lt _ _ x h
theorem may_none : May 1 [] := ⟨.inl rfl, by simp, fun j h => absurd h (by simp)⟩
theorem getI_none : getI (idxB 1 []) = .ok (1, [], 10) := by
  have := getI_put (k := 1) (es := []) (.inl rfl) may_none (by simp) []
  rw [List.append_nil, idx_none_len] at this
  simpa [lensN] using this
theorem getI_nil : getI [] = .error 5 := by simp [getI, getK]

set_option maxRecDepth 20000 in
set_option maxHeartbeats 1000000 in
theorem up14_any (w : World) : Calls Try.prog 6 #[] w fun e w' => e = .returned (.bool true) ∧ Below w.heap.size w w' := by
  have hput := iput_any 1 none 0 0 0 [] w RdE.nil_ (by omega) (by omega)
  have HM := Lib.hid may_none
  go_enter Try.func6, Try.ntmps6
  go_wp2_with fail
  refine hput.mono ?_
  rintro e w1 ⟨hy, hno⟩
  clear hno
  obtain ⟨A1, c1, rfl, ho1⟩ := hy HM.out
  have e10 : (idxB (Int.toNat 1) []).length = 10 := idx_none_len
  have hget := iget_any A1 _ c1 _ _ w1 ho1.rd (Nat.le_refl _) (idx_lt (by decide) []) (by rw [e10]; omega)
  have hg1 : getI (idxB (Int.toNat 1) []) = .ok (1, [], 10) := getI_none
  have hb1 := ho1.bel
  rw [hg1] at hget
  rw [e10] at hget ⊢
  clear hy ho1 e10 hg1 hput
  go_wp2_with fail
  refine hget.mono ?_
  rintro e w2 ⟨A2, c2, rfl, ho2⟩
  have hb2 := hb1.trans (ho2.bel.mono hb1.size)
  clear ho2 hget
  have hgn := fun w' => iget_any none 0 0 0 [] w' Rd.nil_ (Nat.zero_le _) (by simp) (by omega)
  rw [getI_nil] at hgn
  simp only [List.length_nil]
  go_wp2_with fail
  refine (hgn _).mono ?_
  rintro e w3 ⟨rfl, hb3⟩
  obtain ⟨c0, c1', _, _⟩ := two_new (hb3.alloc hb3.size (.cells #[.int .i64 0, .slice none 0 0] 24))
  have hb4 := hb2.trans ((((Below.refl w2.heap.size w2).alloc (Nat.le_refl _) (.cells #[.int .i64 1, .slice A2 0 c2] 24)).trans (hb3.mono (by simp))).mono hb2.size)
  have hcd := fun w' => code_any 5 w' (by omega)
  rw [show errV 5 = .iface 50 (.int .i64 5) from rfl] at hcd ⊢
  clear hgn
  go_wp2_with (go_at_call 10; refine (hcd _).mono ?_; rintro e w5 ⟨rfl, rfl⟩)
  go_ret
  exact ⟨rfl, hb4.alloc hb4.size _⟩

end Go.Proofs.Ytgmnhfkmneohcaa
