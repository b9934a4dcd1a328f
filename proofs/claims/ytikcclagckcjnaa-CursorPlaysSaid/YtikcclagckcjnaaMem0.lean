/-
  Words for memory that every text wants: places in a row.
-/
import Derived.Test.YtikcclagckcjnaaRows
import Derived.WalkKit
import Derived.WalkSpells
import Derived.WalkLawsBesides
import Derived.Lib.Hide
import Derived.Deep.AppendLies
import Derived.Deep.Draws
import Derived.Deep.QuietTactic
import Derived.BigQuiet
namespace Go.Proofs.Ytikcclagckcjnaa
open Go.RowKit

theorem add_block (a : Addr) (n : Nat) : (a.add n).block = a.block := by unfold Addr.add; split <;> rfl
theorem add_add' (a : Addr) (i j : Nat) : (a.add i).add j = a.add (i + j) := by
  unfold Addr.add
  by_cases hi : i = 0 <;> by_cases hj : j = 0 <;> simp [hi, hj, Nat.add_assoc]
theorem below_like {B : Nat} {a a' w : World} (h : Below B a w) (e1 : a.os = a'.os) (e2 : a.tape = a'.tape) (e3 : a.output = a'.output) (e4 : a.heap = a'.heap) : Below B a' w :=
  ⟨h.os.trans e1, h.tape.trans e2, h.output.trans e3, by rw [← e4]; exact h.size, fun k hk => by rw [← e4]; exact h.block k hk⟩

theorem undrew {B : Nat} {a w : World} (h : Below B a.drew w) : Below B a w := below_like h rfl rfl rfl rfl

theorem below_drewN {B : Nat} {a w : World} (h : Below B a w) (n : Nat) : Below B a (w.drewN n) := ⟨h.os, h.tape, h.output, h.size, h.block⟩

end Go.Proofs.Ytikcclagckcjnaa
