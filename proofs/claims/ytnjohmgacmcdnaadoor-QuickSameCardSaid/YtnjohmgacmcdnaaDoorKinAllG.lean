/-
  Layer 8's Get for any kind: one answer, told in one form.
-/
import Derived.Test.YtnjohmgacmcdnaaDoorCode
import Derived.Test.YtnjohmgacmcdnaaDoorKinG
import Derived.Test.YtnjohmgacmcdnaaDoorKinGet
namespace Go.Proofs.YtnjohmgacmcdnaaDoor
open Go.RowKit

/-- what Get comes to -/
def RetGA (w : World) (z : Int) (s : KS) (p : List Bool) (e : Ending) (w' : World) : Prop :=
  ∃ r, KG z s p r ∧ e = .returned (.tuple #[(.agg #[.int .i64 r.t, .int .u64 (r.v : Int)]), (.agg #[.int .i64 (r.s.n : Int), .int .i64 r.s.t, .int .i64 r.s.d, .int .u64 (r.s.v : Int), .int .u64 (r.s.e : Int), .int .u64 (r.s.x.prev : Int), .int .i64 (r.s.x.lead : Int), .int .i64 (r.s.x.len : Int)]), .int .i64 (r.n : Int), errV r.e]) ∧ Below w.heap.size w w'
theorem get_all (z : Int) (A : Option Addr) (m c B : Nat) (bs : List Nat) (a : Int) (s : KS) (w : World) (h : Rd w B A m c bs) (hB : B ≤ w.heap.size) (hb : ∀ x ∈ bs, x < 256) (hm : m ≤ 100000)
    (ha : -9223372036854775808 ≤ a ∧ a ≤ 9223372036854775807) (hs : s.May) (hn : s.n ≤ 1000000) (hR : RoomW w) (hT : TzW w) :
    Calls Tryd.prog 23 #[.int .i64 z, (.agg #[.int .i64 (s.n : Int), .int .i64 s.t, .int .i64 s.d, .int .u64 (s.v : Int), .int .u64 (s.e : Int), .int .u64 (s.x.prev : Int), .int .i64 (s.x.lead : Int), .int .i64 (s.x.len : Int)]), .slice A m c, .int .i64 a] w (RetGA w z s (restL bs a)) := by
  by_cases hz : z ≠ 1 ∧ z ≠ 2
  · exact (get_kind z s A m c a w (by simp [hz.1]) (by simp [hz.2])).mono fun e w' ⟨h1, h2⟩ => ⟨_, .inl ⟨hz, rfl⟩, h1, h2⟩
  · obtain ⟨k, rfl, hk⟩ := known_is hz
    exact (get_any k A m c B bs a s w hk h hB hb hm ha hs hn hR hT).mono fun e w' ⟨r, h1, h2, h3⟩ => ⟨r, .inr ⟨k, rfl, hk, h1⟩, h2, h3⟩

end Go.Proofs.YtnjohmgacmcdnaaDoor
