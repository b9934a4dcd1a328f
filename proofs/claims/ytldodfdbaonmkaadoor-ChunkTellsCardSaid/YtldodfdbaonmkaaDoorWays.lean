/-
  The contract of bits.Join, its lists and numbers under names.
-/
import Derived.Test.YtldodfdbaonmkaaDoorBox
import Derived.Test.YtldodfdbaonmkaaDoorJoin
namespace Go.Proofs.YtldodfdbaonmkaaDoor
open Go.RowKit

/-- Join, its lists and numbers under names -/
theorem join_as (A1 A2 : Option Addr) (m1 c1 m2 c2 : Nat) (p q r : List Bool) (L1 L2 : Int) (M : Nat) (w : World) (h1 : Rd w w.heap.size A1 m1 c1 (pack p)) (h2 : Rd w w.heap.size A2 m2 c2 (pack q)) (hL1 : L1 = ((p.length : Nat) : Int)) (hL2 : L2 = ((q.length : Nat) : Int)) (hr : r = p ++ q) (hM : r.length = M) (hp : p.length ≤ 100000) (hq : q.length ≤ 100000) :
    Calls Tryd.prog 13 #[.agg #[.slice A1 m1 c1, .int .i64 L1], .agg #[.slice A2 m2 c2, .int .i64 L2]] w
      fun e w' => ∃ A c, e = .returned (.agg #[.slice A (pack r).length c, .int .i64 (M : Int)]) ∧ Own w w' (.slice A (pack r).length c) (pack r) := by
  subst hL1 hL2 hM hr
  exact join_any A1 A2 m1 c1 m2 c2 p q w h1 h2 (by omega) (by omega)

end Go.Proofs.YtldodfdbaonmkaaDoor
