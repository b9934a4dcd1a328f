/-
  Words for BatchSame: one sample by Next; two states that are one; where the loop stands.
-/
import Derived.Test.YtchkpbhbdbafdaaDoorBatMem
import Derived.Test.YtchkpbhbdbafdaaDoorKinEq
namespace Go.Proofs.YtchkpbhbdbafdaaDoor
open Go.RowKit

theorem run_eql_kst (w : World) (s : KS) : (binOp .eql 32 (.agg #[.int .i64 (s.n : Int), .int .i64 s.t, .int .i64 s.d, .int .u64 (s.v : Int), .int .u64 (s.e : Int), .int .u64 (s.x.prev : Int), .int .i64 (s.x.lead : Int), .int .i64 (s.x.len : Int)]) (.agg #[.int .i64 (s.n : Int), .int .i64 s.t, .int .i64 s.d, .int .u64 (s.v : Int), .int .u64 (s.e : Int), .int .u64 (s.x.prev : Int), .int .i64 (s.x.lead : Int), .int .i64 (s.x.len : Int)])).run Tryd.prog w = .ok (.bool true) w := by
  rw [run_eql_struct, run_equalIn_agg _ _ _ _ _ kst_fields kst_held]
  simp [Op.eqFields, go_sem]
theorem BatA.one {z : Int} {s : KS} {p : List Bool} {xs : List (Int × Nat)} {s1 : KS} {p1 : List Bool} {e : Nat} {r : KA} (h : BatA z 1 s p xs s1 p1 e) (hk : KG z s p r) :
    e = r.e ∧ (r.e = 0 → xs = [(r.t, r.v)] ∧ s1 = r.s ∧ p1 = p.drop r.n) ∧ (r.e ≠ 0 → xs = [] ∧ s1 = s) := by
  rcases h with ⟨h1, rfl, rfl, rfl⟩ | ⟨h1, h⟩
  · rcases hk with ⟨_, rfl⟩ | ⟨k, rfl, hk, _⟩
    · exact ⟨rfl, fun h => by simp [badK] at h, fun _ => ⟨rfl, rfl⟩⟩
    · exact absurd h1 (by omega)
  · obtain ⟨r', hk', h⟩ := h
    obtain rfl := hk.same hk'
    rcases h with ⟨h2, rfl, rfl, rfl⟩ | ⟨h2, ys, rfl, h3, h4, h5, h6⟩
    · exact ⟨rfl, fun h => absurd h h2, fun _ => ⟨rfl, rfl⟩⟩
    · subst h3 h4 h5 h6
      exact ⟨h2.symm, fun _ => ⟨rfl, rfl, rfl⟩, fun h => absurd h2 h⟩
theorem gr_to_below {w w' : World} {g : Nat} (h : w.grownBy w' (some g)) (hg : g ≤ w.heap.size) : Below g w w' := ⟨h.os, h.tape, h.output, h.size, fun k hk => h.block k (by omega) (by simp; omega)⟩
/-- what is still to come of all samples -/
def Rem (z : Int) (N i : Nat) (xs : List (Int × Nat)) (sT : KS) (pT : List Bool) (eT : Nat) (s : KS) (p : List Bool) : Prop :=
  ((z = 1 ∨ z = 2) ∧ i ≤ xs.length ∧ Bat z (N - i) s p (xs.drop i) sT pT eT) ∨ ((z ≠ 1 ∧ z ≠ 2) ∧ i = 0 ∧ s = zeroK ∧ xs = [] ∧ sT = zeroK ∧ eT = 6)
section
variable {z : Int} {N i : Nat} {xs : List (Int × Nat)} {sT s : KS} {pT p : List Bool} {eT : Nat}
theorem Rem.start {n : Int} (h : BatA z n zeroK p xs sT pT eT) (hN : (min n 32).toNat = N) : Rem z N 0 xs sT pT eT zeroK p := by
  rcases h with ⟨h1, h2, h3, h4⟩ | ⟨h1, h⟩
  · exact .inr ⟨h1, rfl, rfl, h2, h3, h4⟩
  · exact .inl ⟨h1, Nat.zero_le _, by rw [← hN]; exact h⟩
theorem Rem.err (h : Rem z N i xs sT pT eT s p) (hi : i < N) {r : KA} (hk : KG z s p r) (he : r.e ≠ 0) : xs.length = i ∧ eT = r.e ∧ sT = s := by
  rcases h with ⟨h1, h2, h3⟩ | ⟨h1, rfl, rfl, rfl, rfl, rfl⟩
  · rw [show N - i = (N - (i + 1)) + 1 by omega] at h3
    obtain ⟨r', hk', h⟩ := h3
    obtain rfl := hk.same hk'
    rcases h with ⟨_, h4, h5, h6⟩ | ⟨h4, _⟩
    · have := congrArg List.length h4
      rw [List.length_drop] at this
      simp at this
      exact ⟨by omega, h6, h5⟩
    · exact absurd h4 he
  · rcases hk with ⟨_, rfl⟩ | ⟨k, rfl, hk, _⟩
    · exact ⟨rfl, rfl, rfl⟩
    · exact absurd h1 (by omega)
theorem Rem.step (h : Rem z N i xs sT pT eT s p) (hi : i < N) {r : KA} (hk : KG z s p r) (he : r.e = 0) : i < xs.length ∧ xs.getD i (0, 0) = (r.t, r.v) ∧ Rem z N (i + 1) xs sT pT eT r.s (p.drop r.n) := by
  rcases h with ⟨h1, h2, h3⟩ | ⟨h1, rfl, rfl, rfl, rfl, rfl⟩
  · rw [show N - i = (N - (i + 1)) + 1 by omega] at h3
    obtain ⟨r', hk', h⟩ := h3
    obtain rfl := hk.same hk'
    rcases h with ⟨h4, _⟩ | ⟨_, ys, h4, h5⟩
    · exact absurd he h4
    · have hlt : i < xs.length := by
        have := congrArg List.length h4
        rw [List.length_drop] at this
        simp at this
        omega
      rw [List.drop_eq_getElem_cons hlt] at h4
      injection h4 with h6 h7
      refine ⟨hlt, ?_, .inl ⟨h1, hlt, ?_⟩⟩
      · rw [List.getD_eq_getElem?_getD, List.getElem?_eq_getElem hlt]
        exact h6
      · rw [h7]
        exact h5
  · rcases hk with ⟨_, rfl⟩ | ⟨k, rfl, hk, _⟩
    · simp [badK] at he
    · exact absurd h1 (by omega)
theorem Rem.done (h : Rem z N N xs sT pT eT s p) (hz : z = 1 ∨ z = 2) : xs.length = N ∧ sT = s ∧ pT = p ∧ eT = 0 := by
  rcases h with ⟨h1, h2, h3⟩ | ⟨h1, _⟩
  · rw [Nat.sub_self] at h3
    obtain ⟨h4, h5, h6, h7⟩ := h3
    have := congrArg List.length h4
    rw [List.length_drop] at this
    simp at this
    exact ⟨by omega, h5, h6, h7⟩
  · exact absurd h1 (by omega)
theorem Rem.bad (h : Rem z N i xs sT pT eT s p) (hz : z ≠ 1 ∧ z ≠ 2) : xs.length = 0 ∧ eT = 6 := by
  rcases h with ⟨h1, _⟩ | ⟨_, _, _, rfl, _, rfl⟩
  · exact absurd h1 (by omega)
  · exact ⟨rfl, rfl⟩
end
/-- behind some samples: where the second reader stands, the state in both boxes -/
def AtBS (W : World) (g12 : Nat) (A : Option Addr) (m c : Nat) (bs : List Nat) (z : Int) (N : Nat) (xs : List (Int × Nat)) (sT : KS) (pT : List Bool) (eT : Nat) (x15 x16 : Value) (wr : World) : Prop :=
  ∃ (i a : Nat) (s : KS), i ≤ N ∧ x16 = .int .i64 ((i : Nat) : Int) ∧ x15 = .int .i64 ((a : Nat) : Int) ∧ Rem z N i xs sT pT eT s ((flat bs).drop a) ∧ s.May ∧ s.n = i ∧ Rdr wr g12 A m c bs a ∧ BoxL wr (g12 + 1) [.int .i64 (s.n : Int), .int .i64 s.t, .int .i64 s.d, .int .u64 (s.v : Int), .int .u64 (s.e : Int), .int .u64 (s.x.prev : Int), .int .i64 (s.x.lead : Int), .int .i64 (s.x.len : Int)] ∧ BoxL wr (g12 + 1 + 1) [.int .i64 (s.n : Int), .int .i64 s.t, .int .i64 s.d, .int .u64 (s.v : Int), .int .u64 (s.e : Int), .int .u64 (s.x.prev : Int), .int .i64 (s.x.lead : Int), .int .i64 (s.x.len : Int)] ∧ Below g12 W wr
/-- behind all of them -/
def OutBS (W : World) (g12 m : Nat) (bs : List Nat) (z : Int) (N : Nat) (xs : List (Int × Nat)) (sT : KS) (pT : List Bool) (eT : Nat) (x15 : Value) (wr : World) : Prop :=
  ∃ (a : Nat) (s : KS), x15 = .int .i64 ((a : Nat) : Int) ∧ Rem z N N xs sT pT eT s ((flat bs).drop a) ∧ a ≤ 8 * m ∧ BoxL wr (g12 + 1 + 1) [.int .i64 (s.n : Int), .int .i64 s.t, .int .i64 s.d, .int .u64 (s.v : Int), .int .u64 (s.e : Int), .int .u64 (s.x.prev : Int), .int .i64 (s.x.lead : Int), .int .i64 (s.x.len : Int)] ∧ Below g12 W wr

end Go.Proofs.YtchkpbhbdbafdaaDoor
