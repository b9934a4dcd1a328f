/-
  The reference's GetSample for any kind: one answer, told in Get's form.
-/
import Derived.Test.YtnjohmgacmcdnaaDoorKinAllG
import Derived.Test.YtnjohmgacmcdnaaDoorRefKin4
namespace Go.Proofs.YtnjohmgacmcdnaaDoor
open Go.RowKit

/-- what GetSample comes to -/
def RetRGA (w : World) (z : Int) (s : KS) (p : List Bool) (e : Ending) (w' : World) : Prop :=
  ∃ r, KG z s p r ∧ e = .returned (.tuple #[(.agg #[.int .i64 r.t, .int .u64 (r.v : Int)]), (.agg #[.int .i64 (r.s.n : Int), .int .i64 r.s.t, .int .i64 r.s.d, .int .u64 (r.s.v : Int), .int .u64 (r.s.e : Int), .int .u64 (r.s.x.prev : Int), .int .i64 (r.s.x.lead : Int), .int .i64 (r.s.x.len : Int)]), .int .i64 (r.n : Int), .int .i64 (r.e : Int)]) ∧ Below w.heap.size w w'
theorem rget_all8 (z : Int) (s : KS) (A : Option Addr) (m c : Nat) (p : List Bool) (w : World) (hs : s.May) (hn : s.n ≤ 1000000) (h : Rd w w.heap.size A m c (enc p)) (hm : m ≤ 100000) :
    Calls Tryd.prog 18 #[.int .i64 z, (.agg #[.int .i64 (s.n : Int), .int .i64 s.t, .int .i64 s.d, .int .u64 (s.v : Int), .int .u64 (s.e : Int), .int .u64 (s.x.prev : Int), .int .i64 (s.x.lead : Int), .int .i64 (s.x.len : Int)]), .slice A m c] w (RetRGA w z s p) := by
  by_cases hz : z ≠ 1 ∧ z ≠ 2
  · exact (rget_kind z s A m c w (by simp [hz.1]) (by simp [hz.2])).mono fun e w' ⟨h1, h2⟩ => ⟨_, .inl ⟨hz, rfl⟩, h1, h2⟩
  · obtain ⟨k, rfl, hk⟩ := known_is hz
    exact (rget_any k s A m c p w hk hs hn h hm).mono fun e w' ⟨r, h1, h2, h3⟩ => ⟨r, .inr ⟨k, rfl, hk, h1⟩, h2, h3⟩

end Go.Proofs.YtnjohmgacmcdnaaDoor
