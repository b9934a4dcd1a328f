/-
  Words for memory: a state of layer 8 in a box, and a sample's two cells.
-/
import Derived.Test.YtldodfdbaonmkaaDoorMidApp
import Derived.Test.YtldodfdbaonmkaaDoorKin1
namespace Go.Proofs.YtldodfdbaonmkaaDoor
open Go.RowKit

/-- a state's box and a sample's two cells, all ahead of block B -/
structure SQ (X : World) (B g : Nat) (s : KS) (ad : Addr) (t : Int) (v : Nat) : Prop where
  b : BoxL X g [.int .i64 (s.n : Int), .int .i64 s.t, .int .i64 s.d, .int .u64 (s.v : Int), .int .u64 (s.e : Int), .int .u64 (s.x.prev : Int), .int .i64 (s.x.lead : Int), .int .i64 (s.x.len : Int)]
  hg : g < B
  ha : ad.block < B
  c0 : X.cell? ad = some (.int .i64 t)
  c1 : X.cell? ⟨ad.block, ad.off + 1, none⟩ = some (.int .u64 (v : Int))
section
variable {X X' : World} {B g : Nat} {s : KS} {ad : Addr} {t : Int} {v : Nat}
theorem SQ.below (h : SQ X B g s ad t v) (hb : Below B X X') : SQ X' B g s ad t v := ⟨h.b.belowB hb h.hg, h.hg, h.ha, (hb.cell h.ha).trans h.c0, (hb.cell (p := ⟨ad.block, ad.off + 1, none⟩) h.ha).trans h.c1⟩
theorem SQ.cells (h : SQ X B g s ad t v) : (X.cell? ⟨g, 0, none⟩ = some (.int .i64 (s.n : Int)) ∧ X.cell? ⟨g, 1, none⟩ = some (.int .i64 s.t) ∧ X.cell? ⟨g, 2, none⟩ = some (.int .i64 s.d) ∧ X.cell? ⟨g, 3, none⟩ = some (.int .u64 (s.v : Int)) ∧ X.cell? ⟨g, 4, none⟩ = some (.int .u64 (s.e : Int)) ∧ X.cell? ⟨g, 5, none⟩ = some (.int .u64 (s.x.prev : Int)) ∧ X.cell? ⟨g, 6, none⟩ = some (.int .i64 (s.x.lead : Int)) ∧ X.cell? ⟨g, 7, none⟩ = some (.int .i64 (s.x.len : Int))) ∧ X.cell? ad = some (.int .i64 t) ∧ X.cell? ⟨ad.block, ad.off + 1, none⟩ = some (.int .u64 (v : Int)) := ⟨h.b.get8, h.c0, h.c1⟩
end

end Go.Proofs.YtldodfdbaonmkaaDoor
