/-
  The contract of the laws' own Is, where the bits are these: 1.
-/
import Derived.Deep.RegionWith
import Derived.Test.YtfehlkilnghhiaaDoorLawBits
namespace Go.Proofs.YtfehlkilnghhiaaDoor
open Go.RowKit

set_option maxHeartbeats 400000 in
theorem is_yes (A A2 : Option Addr) (m c n c2 : Nat) (p : List Bool) (w : World) (h1 : Rd w w.heap.size A m c (pack p)) (h2 : Rd w w.heap.size A2 n c2 (enc p)) (hn : n ≤ 1000000) :
    Calls Tryd.prog 13 #[.agg #[.slice A m c, .int .i64 ((p.length : Nat) : Int)], .slice A2 n c2] w fun e w' => e = .returned (.int .i64 1) ∧ Below w.heap.size w w' := by
  have hl : p.length = n := by have := h2.len; rwa [enc_length] at this
  rw [hl]
  have hb0 : Below w.heap.size w (w.alloc (.cells #[.slice A m c, .int .i64 (n : Int)] 31)).drew := ((Below.refl _ _).alloc (Nat.le_refl _) _).drew
  have hq1 := run_str (h1.below hb0)
  have h2' := h2.below hb0
  have hd : ((n : Int) != (n : Int)) = false := by simp
  go_enter Tryd.func13, Tryd.ntmps13
  go_wp2
  go_region_with (first
    | (go_at_call 25; refine (bytes_any _ _ _ p _ (h2'.more (by simp)) hn).mono ?_; rintro e w1 ⟨A3, c3, rfl, hown⟩; have hb1 : Below w.heap.size w w1 := hb0.trans (hown.bel.mono hb0.size); have hq2 := run_str (h1.below hb1); have hq3 := run_str hown.rd; obtain ⟨cb0, cb1, _, _⟩ := two_new (w := w) (wr := w1) (below_like hown.bel rfl rfl rfl rfl)))
  all_goals
    clear hq1 hq2 hq3 cb0 cb1 hb0
    go_wp2
    go_ret
    exact ⟨rfl, hb1⟩

end Go.Proofs.YtfehlkilnghhiaaDoor
