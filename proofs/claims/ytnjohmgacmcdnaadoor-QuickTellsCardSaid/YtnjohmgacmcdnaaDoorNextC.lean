/-
  What layer 11's Next is to come to: its contract, as the laws use it. The three tables are there, in blocks ahead of the reader's.
-/
import Derived.Test.YtnjohmgacmcdnaaDoorBat1
import Derived.Test.YtnjohmgacmcdnaaDoorTabGet
import Derived.Test.YtnjohmgacmcdnaaDoorKinAllG
import Derived.Test.YtnjohmgacmcdnaaDoorWords
namespace Go.Proofs.YtnjohmgacmcdnaaDoor
open Go.RowKit

theorem TzW.grown {w w' : World} {g : Nat} (h : TzW w) (hg : w.grownBy w' (some g)) (h1 : 2 < g) : TzW w' :=
  ⟨by have := hg.size; have := h.size; omega, fun t ht => (World.cell?_of_block (a := ⟨2, 2 ^ t * 285870213051353865 % 18446744073709551616 / 288230376151711744, none⟩) (hg.block _ h.size (by simp; omega))).trans (h.cell t ht)⟩
/-- the three tables -/
structure TabsW (w : World) : Prop where
  room : RoomW w
  rows : RowsW w
  tz : TzW w
/-- they lie ahead of a block -/
def TabsLt (g : Nat) : Prop := 0 < g ∧ 1 < g ∧ 2 < g
section
variable {w w' : World} {g : Nat}
theorem TabsW.bel (h : TabsW w) (hb : Below w.heap.size w w') : TabsW w' := ⟨h.room.bel hb, h.rows.bel hb, h.tz.bel hb⟩
theorem TabsW.grown (h : TabsW w) (hg : w.grownBy w' (some g)) (hl : TabsLt g) : TabsW w' := ⟨h.room.grown hg hl.1, h.rows.grown hg hl.2.1, h.tz.grown hg hl.2.2⟩
theorem TabsW.lt (h : TabsW w) : TabsLt w.heap.size := ⟨h.room.1, h.rows.size, h.tz.size⟩
theorem TabsLt.le {g' : Nat} (h : TabsLt g) (hg : g ≤ g') : TabsLt g' := ⟨Nat.lt_of_lt_of_le h.1 hg, Nat.lt_of_lt_of_le h.2.1 hg, Nat.lt_of_lt_of_le h.2.2 hg⟩
end
/-- what Next comes to -/
def RetNX (w : World) (g : Nat) (A : Option Addr) (m c : Nat) (bs : List Nat) (a : Nat) (z n : Int) (s : KS) (e : Ending) (w' : World) : Prop :=
  ∃ (xs : List (Int × Nat)) (s1 : KS) (p1 : List Bool) (er : Nat) (A' : Option Addr) (c' a' : Nat), BatA z n s ((flat bs).drop a) xs s1 p1 er ∧ e = .returned (.tuple #[.slice A' xs.length c', (.agg #[.int .i64 (s1.n : Int), .int .i64 s1.t, .int .i64 s1.d, .int .u64 (s1.v : Int), .int .u64 (s1.e : Int), .int .u64 (s1.x.prev : Int), .int .i64 (s1.x.lead : Int), .int .i64 (s1.x.len : Int)]), errV er]) ∧
    RdQ w' w'.heap.size A' xs.length c' xs ∧ (∀ ad, A' = some ad → w.heap.size ≤ ad.block) ∧ Rdr w' g A m c bs a' ∧ (er = 0 → p1 = (flat bs).drop a') ∧ w.grownBy w' (some g)
/-- the contract -/
def NextC : Prop := ∀ (g : Nat) (A : Option Addr) (m c : Nat) (bs : List Nat) (a : Nat) (z n : Int) (s : KS) (w : World), Rdr w g A m c bs a → m ≤ 10000 → TabsLt g → TabsW w → -9223372036854775808 ≤ n ∧ n ≤ 9223372036854775807 → s.May → s.n ≤ 900000 →
  Calls Tryd.prog 15 #[.int .i64 z, .pointer (some ⟨g, 0, none⟩), (.agg #[.int .i64 (s.n : Int), .int .i64 s.t, .int .i64 s.d, .int .u64 (s.v : Int), .int .u64 (s.e : Int), .int .u64 (s.x.prev : Int), .int .i64 (s.x.lead : Int), .int .i64 (s.x.len : Int)]), .int .i64 n] w (RetNX w g A m c bs a z n s)

end Go.Proofs.YtnjohmgacmcdnaaDoor
