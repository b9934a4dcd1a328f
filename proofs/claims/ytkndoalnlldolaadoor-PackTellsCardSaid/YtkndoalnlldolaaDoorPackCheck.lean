/-
  The contract of the program's check: what is amiss with samples that are to be a block.
-/
import Derived.Test.YtkndoalnlldolaaDoorPackRise
import Derived.Test.YtkndoalnlldolaaDoorPack1
import Derived.Test.YtkndoalnlldolaaDoorCode
import Derived.Test.YtkndoalnlldolaaDoorWrapLe
namespace Go.Proofs.YtkndoalnlldolaaDoor
open Go.RowKit

/-- what check comes to -/
def RetCk (w : World) (z s : Int) (xs : List (Int × Nat)) (e : Ending) (w' : World) : Prop := ∃ er, PackE z s xs er ∧ e = .returned (errV er) ∧ Below w.heap.size w w'

set_option maxRecDepth 20000 in
set_option maxHeartbeats 1000000 in
theorem check_any (z s : Int) (A : Option Addr) (n c : Nat) (xs : List (Int × Nat)) (w : World) (h : RdQ w w.heap.size A n c xs) (hn : n ≤ 5000) :
    Calls Tryd.prog 12 #[.int .i64 z, .slice A n c, .int .i64 s] w (RetCk w z s xs) := by
  have hR := fun w' (hb : Below w.heap.size w w') => rise_any A n c xs w' ((h.below hb).more hb.size) (by omega)
  clear h
  go_enter Tryd.func12, Tryd.ntmps12
  by_cases h1 : 1 ≤ s
  · by_cases h2 : s ≤ 65535
    · obtain ⟨k, rfl⟩ := Int.eq_ofNat_of_zero_le (show 0 ≤ s by omega)
      have HS : Hid (1 ≤ (k : Int) ∧ (k : Int) ≤ 65535) := Lib.hid ⟨h1, h2⟩
      by_cases hz : z = 1 ∨ z = 2
      · obtain ⟨d, rfl, hd⟩ : ∃ d : Nat, z = (d : Int) ∧ (d = 1 ∨ d = 2) := ⟨z.toNat, by omega, by omega⟩
        have hw1 : IntKind.u64.wrap (n : Int) = (n : Int) := wrap_le n (by omega)
        have hw2 : IntKind.u64.wrap (k : Int) = (k : Int) := wrap_le k (by omega)
        have hw3 : IntKind.u64.wrap (65535 * (k : Int)) = 65535 * (k : Int) := by
          have := wrap_le (65535 * k) (by omega)
          simpa using this
        have hnl : ¬ 65535 * (k : Int) < (n : Int) := by omega
        clear hz
        rcases hd with rfl | rfl
        all_goals
          go_wp2_with fail
          refine (hR _ (Below.refl _ _)).mono ?_
          rintro e w1 ⟨b, hb, rfl, hbel⟩
          cases b with
          | true =>
            have HH := Lib.hid (hb.1 rfl)
            clear hb hR
            go_wp2
            go_ret
            exact ⟨0, .inr ⟨HS.out, .inr ⟨_, rfl, (by decide), .inr ⟨HH.out, rfl⟩⟩⟩, rfl, hbel⟩
          | false =>
            have HH : Hid (¬ Rises xs) := Lib.hid (fun hr => by cases (hb.2 hr))
            clear hb hR
            go_wp2
            go_ret
            exact ⟨4, .inr ⟨HS.out, .inr ⟨_, rfl, (by decide), .inl ⟨HH.out, rfl⟩⟩⟩, rfl, hbel⟩
      · have HZ : Hid (z ≠ 1 ∧ z ≠ 2) := Lib.hid (by omega)
        have hz1 : (z != 1) = true := by simp; omega
        have hz2 : (z != 2) = true := by simp; omega
        clear hR hz
        go_wp2
        go_ret
        exact ⟨6, .inr ⟨HS.out, .inl ⟨HZ.out, rfl⟩⟩, rfl, Below.refl _ _⟩
    · have HS : Hid (¬ (1 ≤ s ∧ s ≤ 65535)) := Lib.hid (by omega)
      clear hR
      go_wp2
      go_ret
      exact ⟨1, .inl ⟨HS.out, rfl⟩, rfl, Below.refl _ _⟩
  · have HS : Hid (¬ (1 ≤ s ∧ s ≤ 65535)) := Lib.hid (by omega)
    clear hR
    go_wp2
    go_ret
    exact ⟨1, .inl ⟨HS.out, rfl⟩, rfl, Below.refl _ _⟩

end Go.Proofs.YtkndoalnlldolaaDoor
