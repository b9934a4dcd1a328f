/-
  CrcTells, walked: it returns true, whatever the arguments.
-/
import Derived.Test.YtafchjedpkkbkaaCrcUp
import Derived.Test.YtafchjedpkkbkaaLaw
namespace Go.Proofs.Ytafchjedpkkbkaa
open Go.RowKit

set_option maxRecDepth 20000 in
set_option maxHeartbeats 400000 in
theorem crctells_big (A : Option Addr) (m c : Nat) (w : World) (_hl : m ≤ 9223372036854775807) (h : 2000 < m) :
    Calls Try.prog 3 #[.slice A m c] w (RetTrue w) := by
  go_enter Try.func3, Try.ntmps3
  go_wp2_with (go_at_call 5; refine (up13_any _).mono ?_; rintro e w1 ⟨rfl, hb1⟩)
  go_ret
  exact ⟨rfl, hb1⟩

set_option maxRecDepth 20000 in
set_option maxHeartbeats 400000 in
theorem crctells_in (A : Option Addr) (m c : Nat) (bs : List Nat) (w : World) (h : Rd w w.heap.size A m c bs) (hb : ∀ x ∈ bs, x < 256) (hm : m ≤ 2000) :
    Calls Try.prog 3 #[.slice A m c] w (RetTrue w) := by
  go_enter Try.func3, Try.ntmps3
  go_wp2_with fail
  refine (up13_any w).mono ?_
  rintro e w1 ⟨rfl, hb1⟩
  have hs := sum_any A m c _ bs w1 (h.below hb1) hb (by omega)
  have hr := rsum_any A m c _ bs w1 (h.below hb1) hb (by omega)
  clear h hb
  generalize crcS bs = s at *
  go_wp2_with (first
    | (go_at_call 6; refine hs.mono ?_; rintro e w2 ⟨rfl, rfl⟩)
    | (go_at_call 7; refine hr.mono ?_; rintro e w2 ⟨rfl, rfl⟩))
  go_ret
  exact ⟨rfl, hb1⟩

theorem crctells_all (A : Option Addr) (m c : Nat) (bs : List Nat) (w : World) (h : Rd w w.heap.size A m c bs) (hb : ∀ x ∈ bs, x < 256) (hl : m ≤ 9223372036854775807) :
    Calls Try.prog 3 #[.slice A m c] w (RetTrue w) := by
  rcases Nat.lt_or_ge 2000 m with hm | hm
  · exact crctells_big A m c w hl hm
  · exact crctells_in A m c bs w h hb hm

end Go.Proofs.Ytafchjedpkkbkaa
