/-
  Words for memory: a row of samples that lies beyond a block; append onto it, and where the new row lies.
-/
import Derived.Test.YtaebljoacffghaaGreatDoorWords
import Derived.Maps.AppendAt
import Derived.OwnWalkIn
import Derived.RangeFuncOwn
namespace Go.Proofs.YtaebljoacffghaaGreatDoor
open Go.RowKit

/-- v is a slice of samples that lies beyond block B, or is none; it holds xs -/
structure RowQ (B : Nat) (w : World) (v : Value) (xs : List (Int × Nat)) : Prop where
  row : w.ownsRow B 74 2 v xs.length (qvals xs)
  fit : ∀ x ∈ xs, FitQ x
section
variable {B : Nat} {w w' : World} {v : Value} {xs : List (Int × Nat)}
theorem RowQ.nil_ (B : Nat) (w : World) : RowQ B w (.slice none 0 0) [] := ⟨World.ownsRow_nil _ _ _ _, by simp⟩
theorem RowQ.kept {row : Option Nat} (h : RowQ B w v xs) (hg : w.grownBy w' row) (hne : ∀ k, v.ownBlock = some k → row ≠ some k) : RowQ B w' v xs :=
  ⟨h.row.kept hg (by
    cases hv : v.ownBlock with
    | none => exact .inl rfl
    | some k => exact .inr (fun e => hne k hv e.symm)), h.fit⟩
theorem RowQ.alloc (h : RowQ B w v xs) (o : Obj) : RowQ B (w.alloc o) v xs := ⟨h.row.alloc o, h.fit⟩
theorem RowQ.lt (h : RowQ B w v xs) {k : Nat} (hk : v.ownBlock = some k) : B ≤ k ∧ k < w.heap.size := h.row.lt k hk
theorem RowQ.form (h : RowQ B w v xs) : ∃ A c, v = .slice A xs.length c := by
  rcases h.row.2 with ⟨rfl, h0⟩ | ⟨g, cap, cur, rfl, _⟩
  · exact ⟨none, 0, by rw [h0]⟩
  · exact ⟨_, _, rfl⟩
theorem RowQ.rd {A : Option Addr} {n c : Nat} (h : RowQ B w (.slice A n c) xs) : RdQ w w.heap.size A n c xs := by
  have h0 := h.row
  have hn : n = xs.length := by
    rcases h0.2 with ⟨e, h1⟩ | ⟨g, cap, cur, e, _⟩
    · injection e with e1 e2 e3
      omega
    · injection e
  rw [hn] at h0 ⊢
  exact RdQ.ownRow h0 h.fit
/-- its block holds cells -/
theorem RowQ.cells (h : RowQ B w v xs) {k : Nat} (hk : v.ownBlock = some k) : ∃ o : Obj, w.heap[k]? = some o ∧ o.isCells = true := by
  rcases h.row.2 with ⟨rfl, _⟩ | ⟨g, cap, cur, rfl, _, hg, _⟩
  · simp [Value.ownBlock] at hk
  · simp [Value.ownBlock] at hk
    subst hk
    exact ⟨_, hg, rfl⟩
end

set_option maxRecDepth 20000 in
/-- append onto such a row: the run -/
theorem run_rowQ (ty : TypeId) {w : World} {B B2 : Nat} {v : Value} {bs cs : List (Int × Nat)} {ad : Addr} {m c : Nat} (hown : RowQ B w v bs) (hB : B ≤ w.heap.size) (hr : RdQ w B2 (some ad) m c cs) (hm : bs.length + m ≤ 1073741824) :
    ∃ v' w', (Builtin.append_ #[31, 31] ty #[v, .slice (some ad) m c]).run Tryz.prog w = .ok v' w' ∧ RowQ B w' v' (bs ++ cs) ∧ w.grownBy w' v.ownBlock ∧ (v'.ownBlock = v.ownBlock ∨ v'.ownBlock = some w.heap.size) := by
  obtain ⟨i0, hi, hz0, hz1, hz2⟩ := info_parts Tryz.infoQ
  obtain ⟨v', w', hrun, hown', hgrow, _, hat⟩ := run_append_own_at (P := Tryz.prog) w B 31 ty 74 i0 (.agg #[.int .i64 0, .int .u64 0]) 2 16 Tryz.underlying31 hi hz0 hz1 hz2 (by kernel_rfl) (by decide) v bs.length (qvals bs) hown.row ad m c (qvals cs)
    (by rw [qvals_length, hr.len]) (by
      intro j u hu
      have hj : j < m * 2 := by
        have := (List.getElem?_eq_some_iff.1 hu).1
        rw [qvals_length, hr.len] at this
        exact this
      obtain ⟨ad', e, _, hc⟩ := hr.cell (by omega)
      injection e with e
      subst e
      have hk : j / 2 < cs.length := by rw [hr.len]; omega
      have hq := qvals_at cs (j / 2) hk
      have hcc := hc (j / 2) (by rw [← hr.len]; exact hk)
      rcases (by omega : j = j / 2 * 2 ∨ j = j / 2 * 2 + 1) with e | e
      · rw [e] at hu ⊢
        have h0 : j / 2 * 2 / 2 * 2 = j / 2 * 2 := by omega
        rw [hcc.1, ← hu, hq.1]
      · rw [e] at hu ⊢
        rw [hcc.2, ← hu, hq.2]) (qvals_one cs) (by unfold maxLen; omega) (by omega) hB
  refine ⟨v', w', hrun, ⟨?_, fun x hx => (List.mem_append.1 hx).elim (hown.fit x) (hr.fit x)⟩, hgrow, hat⟩
  rw [qvals_app, List.length_append, hr.len]
  exact hown'
/-- in a plain region -/
theorem wpList_rowQ {ops : Array Oper} {rest : List Oper} {o : Oper} {a : Act} {Q : Exit → Act → World → Prop} (hgd : o.guard = none) (s x : Operand)
    (ho : o.op = .call { callee := .builtin .append, args := #[s, x], argTypes := #[31, 31] })
    {w : World} {B B2 : Nat} {v : Value} {bs cs : List (Int × Nat)} {ad : Addr} {m c : Nat} (hs : a.eval s = v) (hx : a.eval x = .slice (some ad) m c) (hown : RowQ B w v bs) (hB : B ≤ w.heap.size) (hr : RdQ w B2 (some ad) m c cs)
    (hm : bs.length + m ≤ 1073741824)
    (h : ∀ v' w', RowQ B w' v' (bs ++ cs) → w.grownBy w' v.ownBlock → (v'.ownBlock = v.ownBlock ∨ v'.ownBlock = some w.heap.size) → wpList Tryz.prog ops Q rest (a.put o.dst v') w') : wpList Tryz.prog ops Q (o :: rest) a w :=
  wpList_plain hgd fun K hK => by
    obtain ⟨v', w', hrun, h1, h2, h3⟩ := run_rowQ o.type hown hB hr hm
    unfold Oper.wp execOp
    simp only [ho, resolve, invoke, builtin, Sem.run_bind, Sem.run_pure, Result.andThen_ok, List.map_toArray, List.map_cons, List.map_nil, hs, hx, hrun]
    exact hK _ _ (h v' w' h1 h2 h3)
/-- inside a fence, in a round too -/
theorem wpListIn_rowQ {F : Fence} {n : Nat} {ops : Array Oper} {rest : List Oper} {o : Oper} {a : Act} {Q : Exit → Act → World → Prop} (hgd : o.guard = none) (s x : Operand)
    (ho : o.op = .call { callee := .builtin .append, args := #[s, x], argTypes := #[31, 31] })
    {w : World} {B B2 : Nat} {v : Value} {bs cs : List (Int × Nat)} {ad : Addr} {m c : Nat} (hs : a.eval s = v) (hx : a.eval x = .slice (some ad) m c) (hown : RowQ B w v bs) (hB : B ≤ w.heap.size) (hr : RdQ w B2 (some ad) m c cs)
    (hm : bs.length + m ≤ 1073741824)
    (h : ∀ v' w', RowQ B w' v' (bs ++ cs) → w.grownBy w' v.ownBlock → (v'.ownBlock = v.ownBlock ∨ v'.ownBlock = some w.heap.size) → wpListIn F n Tryz.prog ops Q rest (a.put o.dst v') w') : wpListIn F n Tryz.prog ops Q (o :: rest) a w :=
  wpListIn_plain hgd fun K hK => by
    obtain ⟨v', w', hrun, h1, h2, h3⟩ := run_rowQ o.type hown hB hr hm
    unfold Oper.wpIn
    refine ⟨by simp [Oper.about, ho, resolve, Target.leads, Sem.run_pure], ?_⟩
    rw [Oper.semAt_plain F _ _ (by rw [ho]; intro c hc; cases hc)]
    simp [execOp, ho, resolve, invoke, builtin, hs, hx, hrun, Result.andThen]
    exact hK _ _ (h v' w' h1 h2 h3)

end Go.Proofs.YtaebljoacffghaaGreatDoor
