/-
  Append of entries at a step of a region that draws its order.
-/
import Derived.Test.YtcnhagngcgoiaaaDoorEnts
import Derived.Deep.RegionHeld3
namespace Go.Proofs.YtcnhagngcgoiaaaDoor
open Go.RowKit

/-- at a step of a region that draws its order -/
theorem step_appE {tS t : TypeId} (hu : Tryd.prog.underlying tS = some (.slice t)) (hinfo : (Tryd.prog.info? t).map (fun i => (i.zero, i.size, i.bytes)) = some (some (.agg #[.int .i64 0, .int .i64 0, .int .i64 0, .int .i64 0]), 4, 32))
    {ops : Array Oper} {o : Oper} {a : Act} {K : Act → World → Prop} {Q : Exit → Act → World → Prop} {E : Prop} (hgd : o.guard = none) (s x : Operand)
    (ho : o.op = .call { callee := .builtin .append, args := #[s, x], argTypes := #[tS, tS] })
    {w0 w : World} {B : Nat} {v : Value} {bs cs : List Ent} {A : Option Addr} {m c : Nat} (hs : a.eval s = v) (hx : a.eval x = .slice A m c) (hown : OwnE t w0 w v bs) (hr : RdE w B A m c cs)
    (hm : bs.length + m ≤ 1073741824) (h : ∀ v' w', OwnE t w0 w' v' (bs ++ cs) → w.grownBy w' v.ownBlock → K (a.put o.dst v') w') :
    if Region.wanted o (yielded ops a.tmps) = true then Oper.wp Tryd.prog o a w K Q else E := by
  have hw : Region.wanted o (yielded ops a.tmps) = true := by simp [Region.wanted, hgd]
  rw [if_pos hw]
  exact wp_appE hu hinfo s x ho hs hx hown hr hm h

end Go.Proofs.YtcnhagngcgoiaaaDoor
