/-
  Words for the reference's GetIndex: a row of 64-bit numbers of the call's own; what is fair.
-/
import Derived.Test.YtgmnhfkmneohcaaMem
import Derived.Test.YtgmnhfkmneohcaaIdx2
namespace Go.Proofs.Ytgmnhfkmneohcaa
open Go.RowKit

def uval6 (n : Nat) : Value := .int .u64 (n : Int)
theorem uvals_one (p : List Nat) : ∀ u ∈ p.map uval6, u.oneCell' = true := by
  intro u hu
  simp only [List.mem_map] at hu
  obtain ⟨x, _, rfl⟩ := hu
  rfl
theorem Try.infoU6 : (Try.prog.info? 52).map (fun i => (i.zero, i.size, i.bytes)) = some (some (.int .u64 0), 1, 8) := by kernel_rfl
/-- v is a slice of 64-bit numbers of the call's own (made behind the world w0), it holds xs; of what lay in w0 nothing has turned -/
structure OwnU (w0 w : World) (v : Value) (xs : List Nat) : Prop where
  row : w.ownsRow w0.heap.size 52 1 v xs.length (xs.map uval6)
  bel : Below w0.heap.size w0 w
theorem OwnU.nil_ (w0 w : World) (h : Below w0.heap.size w0 w) : OwnU w0 w (.slice none 0 0) [] := ⟨World.ownsRow_nil _ _ _ _, h⟩
theorem OwnU.three {w0 w : World} {v : Value} {x y z : Nat} (h : OwnU w0 w v [x, y, z]) : ∃ g c, v = .slice (some ⟨g, 0, none⟩) 3 c ∧ w0.heap.size ≤ g ∧ 3 ≤ c ∧
    w.cell? ⟨g, 0, none⟩ = some (.int .u64 (x : Int)) ∧ w.cell? ⟨g, 1, none⟩ = some (.int .u64 (y : Int)) ∧ w.cell? ⟨g, 2, none⟩ = some (.int .u64 (z : Int)) := by
  obtain ⟨g, cap, hv, hb, _⟩ := h.row.form (by simp)
  have hc : 3 ≤ cap := by
    rcases h.row.2 with ⟨e, h0⟩ | ⟨g', cap', cur, e, _, _, hnc, _⟩
    · simp at h0
    · rw [hv] at e
      injection e with e1 e2 e3
      subst e3
      simpa using hnc
  refine ⟨g, cap, hv, hb, hc, ?_⟩
  have hr := h.row
  rw [hv] at hr
  have q0 := hr.cells (g := g) rfl 0 (uval6 x) rfl
  have q1 := hr.cells (g := g) rfl 1 (uval6 y) rfl
  have q2 := hr.cells (g := g) rfl 2 (uval6 z) rfl
  exact ⟨q0, q1, q2⟩
set_option maxRecDepth 20000 in
/-- append of one number in a new block, in a plain region -/
theorem wpList_appU {ops : Array Oper} {rest : List Oper} {o : Oper} {a : Act} {Q : Exit → Act → World → Prop} (hgd : o.guard = none) (s x : Operand)
    (ho : o.op = .call { callee := .builtin .append, args := #[s, x], argTypes := #[67, 67] })
    {w0 w : World} {v : Value} {xs : List Nat} {y : Nat} (hs : a.eval s = v) (hx : a.eval x = .slice (some ⟨w.heap.size, 0, none⟩) 1 1) (hown : OwnU w0 w v xs) (hl : xs.length ≤ 1000)
    (h : ∀ v' w', OwnU w0 w' v' (xs ++ [y]) → wpList Try.prog ops Q rest (a.put o.dst v') w') : wpList Try.prog ops Q (o :: rest) a (w.alloc (.cells #[.int .u64 (y : Int)] 52)) := by
  refine wpList_plain hgd fun K hK => ?_
  obtain ⟨i0, hi, hz0, hz1, hz2⟩ := info_parts Try.infoU6
  have hg : ∀ k, v.ownBlock = some k → w0.heap.size ≤ k := fun k hk => (hown.row.lt k hk).1
  obtain ⟨v', w', hrun, hown', hgrow, _⟩ := run_append_own (P := Try.prog) (w.alloc (.cells #[.int .u64 (y : Int)] 52)) w0.heap.size 67 o.type 52 i0 (.int .u64 0) 1 8 Try.underlying67 hi hz0 hz1 hz2 rfl (by decide) v xs.length (xs.map uval6) (hown.row.alloc _) ⟨w.heap.size, 0, none⟩ 1 1 [uval6 y]
    rfl (by
      intro j u hu
      have hj : j = 0 := by
        have := (List.getElem?_eq_some_iff.1 hu).1
        simp at this
        exact this
      subst hj
      simp at hu
      rw [← hu]
      exact cell_one_new w (.int .u64 (y : Int)) _ 0 _ rfl) (by intro u hu; simp at hu; subst hu; rfl) (by unfold maxLen; omega) (by omega) (by have := hown.bel.size; simp; omega)
  have hba : Below w0.heap.size w0 (w.alloc (.cells #[.int .u64 (y : Int)] 52)) := hown.bel.alloc hown.bel.size _
  have hfin : OwnU w0 w' v' (xs ++ [y]) := by
    refine ⟨?_, hba.grown hgrow hba.size hg⟩
    rw [List.map_append, List.length_append]
    exact hown'
  unfold Oper.wp execOp
  simp only [ho, resolve, invoke, builtin, Sem.run_bind, Sem.run_pure, Result.andThen_ok, List.map_toArray, List.map_cons, List.map_nil, hs, hx, hrun]
  exact hK _ _ (h v' w' hfin)

/-- how far Max may be from Min -/
def roomR (f : Nat) : Nat := if f ≤ 9223372036854775807 then 9223372036854775807 - f else 27670116110564327423 - f
/-- what is read goes around nowhere, and is not above all -/
def FairR (r : Nat × List Nat) : Prop := r.2.getD 0 0 ≤ roomR r.1 ∧ r.2.getD 1 0 ≤ 65535 ∧ r.2.getD 2 0 ≤ 2147483647
theorem wrap_room {f : Nat} (h : f ≤ 18446744073709551615) : IntKind.u64.wrap (9223372036854775807 - (f : Int)) = ((roomR f : Nat) : Int) := by
  have e : ∀ x : Int, IntKind.u64.wrap x = x % 18446744073709551616 := by intro x; simp [IntKind.wrap, IntKind.bits, IntKind.signed]
  rw [e]
  unfold roomR
  split <;> omega
theorem roomR_le {f : Nat} (h : f ≤ 18446744073709551615) : roomR f ≤ 18446744073709551615 := by
  unfold roomR
  split <;> omega
theorem not_fair {r : Nat × List Nat} (hf : FitR r) (h : ¬ FairR r) : ¬ MayE (progE r) := by
  obtain ⟨f, x, y, z, rfl, h1, h2, h3, h4⟩ := hf.at_
  unfold FairR at h
  simp only [List.getD_cons_zero, List.getD_cons_succ] at h
  unfold MayE progE
  simp only [List.getD_cons_zero, List.getD_cons_succ]
  rintro ⟨⟨c1, c2⟩, ⟨l1, l2⟩, hm⟩
  unfold smallN at c1 c2 l1 l2
  refine h ⟨?_, ?_, ?_⟩
  · unfold s64n at hm
    unfold roomR
    split at hm <;> split at hm <;> split <;> omega
  · split at c1 <;> omega
  · split at l1 <;> omega
theorem fair_prog {f x y z : Nat} (h : FairR (f, [x, y, z])) : progE (f, [x, y, z]) = ⟨s64n f, s64n ((f + x) % 18446744073709551616), (y : Int), (z : Int)⟩ := by
  unfold FairR at h
  simp only [List.getD_cons_zero, List.getD_cons_succ] at h
  unfold progE smallN
  simp only [List.getD_cons_zero, List.getD_cons_succ]
  rw [if_neg (by omega), if_neg (by omega)]
theorem wrap_max {f x : Nat} (_hf : f ≤ 18446744073709551615) (_hx : x ≤ 18446744073709551615) : IntKind.i64.wrap (s64n f + s64n x) = s64n ((f + x) % 18446744073709551616) := by
  rw [IntKind.wrap_i64]
  unfold s64n
  split <;> split <;> split <;> omega
theorem u64n_s64 {f : Nat} (hf : f ≤ 18446744073709551615) : IntKind.u64.wrap (s64n f) = (f : Int) := by
  have e : ∀ x : Int, IntKind.u64.wrap x = x % 18446744073709551616 := by intro x; simp [IntKind.wrap, IntKind.bits, IntKind.signed]
  rw [e]
  unfold s64n
  split <;> omega

end Go.Proofs.Ytgmnhfkmneohcaa
