/-
  The reference's PutSample for any kind: one answer, told in Put's form.
-/
import Derived.Test.YtkndoalnlldolaaDoorKinAllP
import Derived.Test.YtkndoalnlldolaaDoorRefKin2
namespace Go.Proofs.YtkndoalnlldolaaDoor
open Go.RowKit

/-- what PutSample comes to -/
def RetRPA (w : World) (r : PA) (e : Ending) (w' : World) : Prop :=
  ∃ A c, e = .returned (.tuple #[.slice A r.p.length c, (.agg #[.int .i64 (r.s.n : Int), .int .i64 r.s.t, .int .i64 r.s.d, .int .u64 (r.s.v : Int), .int .u64 (r.s.e : Int), .int .u64 (r.s.x.prev : Int), .int .i64 (r.s.x.lead : Int), .int .i64 (r.s.x.len : Int)]), .int .i64 (r.e : Int)]) ∧ Own w w' (.slice A r.p.length c) (enc r.p)
theorem rput_all (z : Int) (s : KS) (t : Int) (v : Nat) (w : World) (hs : s.May) (hn : s.n ≤ 1000000) (hv : v ≤ 18446744073709551615) :
    Calls Tryd.prog 27 #[.int .i64 z, (.agg #[.int .i64 (s.n : Int), .int .i64 s.t, .int .i64 s.d, .int .u64 (s.v : Int), .int .u64 (s.e : Int), .int .u64 (s.x.prev : Int), .int .i64 (s.x.lead : Int), .int .i64 (s.x.len : Int)]), (.agg #[.int .i64 t, .int .u64 (v : Int)])] w (RetRPA w (putA z s t v)) := by
  unfold putA
  split
  · rename_i h
    exact (rput_kind z s t v w (by simp [h.1]) (by simp [h.2])).mono fun e w' ⟨h1, h2⟩ => ⟨none, 0, h1, Own.nil_ _ _ h2⟩
  · rename_i h
    obtain ⟨k, rfl, hk⟩ := known_is h
    split
    · rename_i h3
      exact (rput_order k s t v w hk h3).mono fun e w' ⟨h1, h2⟩ => ⟨none, 0, h1, Own.nil_ _ _ h2⟩
    · rename_i h3
      exact rput_yes k s t v w hk hs hn hv (by simpa using h3)

end Go.Proofs.YtkndoalnlldolaaDoor
