/-
  Words for memory: a row of samples of the call's own; append onto it.
-/
import Derived.Test.YtikcclagckcjnaaSamples
namespace Go.Proofs.Ytikcclagckcjnaa
open Go.RowKit

/-- samples as values, cell by cell -/
def qvals : List (Int × Nat) → List Value
  | [] => []
  | x :: r => .int .i64 x.1 :: .int .u64 (x.2 : Int) :: qvals r
theorem qvals_length : ∀ xs : List (Int × Nat), (qvals xs).length = xs.length * 2
  | [] => rfl
  | x :: r => by simp only [qvals, List.length_cons, qvals_length r]; omega
theorem qvals_app : ∀ p q : List (Int × Nat), qvals (p ++ q) = qvals p ++ qvals q
  | [], q => rfl
  | x :: r, q => by simp only [List.cons_append, qvals, qvals_app r q]
theorem qvals_one : ∀ xs : List (Int × Nat), ∀ u ∈ qvals xs, u.oneCell' = true
  | [], u, h => by simp [qvals] at h
  | x :: r, u, h => by
    simp only [qvals, List.mem_cons] at h
    rcases h with rfl | rfl | h
    · rfl
    · rfl
    · exact qvals_one r u h
theorem qvals_at : ∀ (xs : List (Int × Nat)) (k : Nat), k < xs.length → (qvals xs)[k * 2]? = some (.int .i64 (xs.getD k (0, 0)).1) ∧ (qvals xs)[k * 2 + 1]? = some (.int .u64 (((xs.getD k (0, 0)).2 : Nat) : Int))
  | [], k, h => absurd h (by simp)
  | x :: r, 0, h => by simp [qvals]
  | x :: r, k + 1, h => by
    have := qvals_at r k (by simpa using h)
    have e1 : (k + 1) * 2 = k * 2 + 1 + 1 := by omega
    rw [e1]
    simpa [qvals] using this

theorem Try.infoQ : (Try.prog.info? 52).map (fun i => (i.zero, i.size, i.bytes)) = some (some (.agg #[.int .i64 0, .int .u64 0]), 2, 16) := by kernel_rfl

/-- v is a slice of samples of the call's own (made behind the world w0), it holds xs; of what lay in w0 nothing has turned -/
structure OwnQ (w0 w : World) (v : Value) (xs : List (Int × Nat)) : Prop where
  row : w.ownsRow w0.heap.size 52 2 v xs.length (qvals xs)
  bel : Below w0.heap.size w0 w
  fit : ∀ x ∈ xs, FitQ x

section
variable {w0 w w2 : World} {v : Value} {xs : List (Int × Nat)}
theorem OwnQ.nil_ (w0 w : World) (h : Below w0.heap.size w0 w) : OwnQ w0 w (.slice none 0 0) [] := ⟨World.ownsRow_nil _ _ _ _, h, by simp⟩
theorem OwnQ.alloc (h : OwnQ w0 w v xs) (o : Obj) : OwnQ w0 (w.alloc o) v xs := ⟨h.row.alloc o, h.bel.alloc h.bel.size o, h.fit⟩
theorem OwnQ.drew (h : OwnQ w0 w v xs) : OwnQ w0 w.drew v xs := ⟨h.row, h.bel.drew, h.fit⟩
theorem RdQ.ownRow {base n c : Nat} {A : Option Addr} (h : w.ownsRow base 52 2 (.slice A n c) n (qvals xs)) (hf : ∀ x ∈ xs, FitQ x) : RdQ w w.heap.size A n c xs := by
  have hl : xs.length = n := by have := h.1; rw [qvals_length] at this; omega
  have hc : n ≤ c ∧ (A = none → c = 0) := by
    rcases h.2 with ⟨e, h0⟩ | ⟨g, cap, cur, e, _, _, hnc, _⟩
    · injection e with e1 e2 e3
      exact ⟨by omega, fun _ => e3⟩
    · injection e with e1 e2 e3
      exact ⟨by omega, fun hA => by rw [hA] at e1; cases e1⟩
  refine ⟨hl, hc.1, hc.2, fun hn => ?_, hf⟩
  obtain ⟨g, cap, hv, _, hlt⟩ := h.form hn
  have hA : A = some ⟨g, 0, none⟩ := by injection hv
  subst hA
  refine ⟨_, rfl, hlt, fun j hj => ?_⟩
  have hq := qvals_at xs j (by omega)
  exact ⟨h.cells (g := g) rfl (j * 2) _ hq.1, h.cells (g := g) rfl (j * 2 + 1) _ hq.2⟩
theorem OwnQ.form (h : OwnQ w0 w v xs) : ∃ A c, v = .slice A xs.length c ∧ RdQ w w.heap.size A xs.length c xs := by
  rcases h.row.2 with ⟨rfl, h0⟩ | ⟨g, cap, cur, rfl, _⟩
  · have : xs = [] := List.eq_nil_of_length_eq_zero h0
    subst this
    exact ⟨_, _, rfl, rfl, Nat.le_refl _, fun _ => rfl, fun h => absurd h (by simp), by simp⟩
  · exact ⟨_, _, rfl, RdQ.ownRow h.row h.fit⟩
theorem OwnQ.rd {A : Option Addr} {n c : Nat} (h : OwnQ w0 w (.slice A n c) xs) : RdQ w w.heap.size A n c xs := by
  obtain ⟨A', c', e, hr⟩ := h.form
  injection e with e1 e2 e3
  subst e1 e2 e3
  exact hr
theorem OwnQ.keep (h : OwnQ w0 w v xs) (hb : Below w.heap.size w w2) : OwnQ w0 w2 v xs := by
  refine ⟨⟨h.row.1, ?_⟩, h.bel.trans (hb.mono h.bel.size), h.fit⟩
  rcases h.row.2 with h1 | ⟨g, cap, cur, hv, hg, hh, r⟩
  · exact .inl h1
  · refine .inr ⟨g, cap, cur, hv, hg, ?_, r⟩
    rw [hb.block g (by
      rcases Nat.lt_or_ge g w.heap.size with hlt | hge
      · exact hlt
      · rw [Array.getElem?_eq_none hge] at hh; cases hh)]
    exact hh
theorem OwnQ.weak {w1 : World} (h : OwnQ w1 w v xs) (hb : Below w0.heap.size w0 w1) : OwnQ w0 w v xs := by
  refine ⟨⟨h.row.1, ?_⟩, hb.trans (h.bel.mono hb.size), h.fit⟩
  rcases h.row.2 with h1 | ⟨g, cap, cur, hv, hg, r⟩
  · exact .inl h1
  · exact .inr ⟨g, cap, cur, hv, Nat.le_trans hb.size hg, r⟩
end

/-- one sample in a new block -/
theorem RdQ.one (w : World) (x : Int × Nat) (hx : FitQ x) : RdQ (w.alloc (.cells #[.int .i64 x.1, .int .u64 (x.2 : Int)] 52)) (w.heap.size + 1) (some ⟨w.heap.size, 0, none⟩) 1 1 [x] :=
  ⟨rfl, Nat.le_refl _, fun h => (by cases h), fun _ => ⟨_, rfl, by simp, fun j hj => by
    have : j = 0 := by omega
    subst this
    refine ⟨?_, ?_⟩
    · have : w.heap.size < (w.alloc (.cells #[.int .i64 x.1, .int .u64 (x.2 : Int)] 52)).heap.size := by simp
      simp [Addr.add]
    · simp [Addr.add]⟩, by simpa using hx⟩

set_option maxRecDepth 20000 in
/-- append onto a slice of samples of the call's own: the run -/
theorem run_appQ (ty : TypeId) {w0 w : World} {B : Nat} {v : Value} {bs cs : List (Int × Nat)} {A : Option Addr} {m c : Nat} (hown : OwnQ w0 w v bs) (hr : RdQ w B A m c cs) (hm : bs.length + m ≤ 1073741824) :
    ∃ v' w', (Builtin.append_ #[22, 22] ty #[v, .slice A m c]).run Try.prog w = .ok v' w' ∧ OwnQ w0 w' v' (bs ++ cs) ∧ w.grownBy w' v.ownBlock := by
  obtain ⟨i0, hi, hz0, hz1, hz2⟩ := info_parts Try.infoQ
  have hg : ∀ k, v.ownBlock = some k → w0.heap.size ≤ k := fun k hk => (hown.row.lt k hk).1
  have hfit : ∀ x ∈ bs ++ cs, FitQ x := fun x hx => (List.mem_append.1 hx).elim (hown.fit x) (hr.fit x)
  cases A with
  | none =>
    have hm0 : m = 0 := by
      rcases Nat.eq_zero_or_pos m with h0 | h0
      · exact h0
      · obtain ⟨ad, e, _⟩ := hr.cell h0
        cases e
    subst hm0
    have hcs : cs = [] := List.eq_nil_of_length_eq_zero hr.len
    subst hcs
    have hc0 : c = 0 := hr.no rfl
    subst hc0
    exact ⟨v, w, run_append_owned_none w w0.heap.size _ ty 52 i0 2 Try.underlying22 hi v bs.length (qvals bs) hown.row, by simpa using hown, World.grownBy.refl w _⟩
  | some ad =>
    obtain ⟨v', w', hrun, hown', hgrow, _⟩ := run_append_own (P := Try.prog) w w0.heap.size 22 ty 52 i0 (.agg #[.int .i64 0, .int .u64 0]) 2 16 Try.underlying22 hi hz0 hz1 hz2 (by kernel_rfl) (by decide) v bs.length (qvals bs) hown.row ad m c (qvals cs)
      (by rw [qvals_length, hr.len]) (by
        intro j u hu
        have hj : j < m * 2 := by
          have := (List.getElem?_eq_some_iff.1 hu).1
          rw [qvals_length, hr.len] at this
          exact this
        obtain ⟨ad', e, _, hc⟩ := hr.cell (by omega)
        injection e with e
        subst e
        have hk : j / 2 < cs.length := by rw [hr.len]; omega
        have hq := qvals_at cs (j / 2) hk
        have hcc := hc (j / 2) (by rw [← hr.len]; exact hk)
        rcases (by omega : j = j / 2 * 2 ∨ j = j / 2 * 2 + 1) with e | e
        · rw [e] at hu ⊢
          have h0 : j / 2 * 2 / 2 * 2 = j / 2 * 2 := by omega
          rw [hcc.1, ← hu, hq.1]
        · rw [e] at hu ⊢
          rw [hcc.2, ← hu, hq.2]) (qvals_one cs) (by unfold maxLen; omega) (by omega) hown.bel.size
    refine ⟨v', w', hrun, ⟨?_, hown.bel.grown hgrow hown.bel.size hg, hfit⟩, hgrow⟩
    rw [qvals_app, List.length_append, hr.len]
    exact hown'
theorem wp_appQ {o : Oper} {a : Act} {K : Act → World → Prop} {Q : Exit → Act → World → Prop} (s x : Operand)
    (ho : o.op = .call { callee := .builtin .append, args := #[s, x], argTypes := #[22, 22] })
    {w0 w : World} {B : Nat} {v : Value} {bs cs : List (Int × Nat)} {A : Option Addr} {m c : Nat} (hs : a.eval s = v) (hx : a.eval x = .slice A m c) (hown : OwnQ w0 w v bs) (hr : RdQ w B A m c cs)
    (hm : bs.length + m ≤ 1073741824) (h : ∀ v' w', OwnQ w0 w' v' (bs ++ cs) → w.grownBy w' v.ownBlock → K (a.put o.dst v') w') : o.wp Try.prog a w K Q := by
  obtain ⟨v', w', hrun, h1, h2⟩ := run_appQ o.type hown hr hm
  unfold Oper.wp execOp
  simp only [ho, resolve, invoke, builtin, Sem.run_bind, Sem.run_pure, Result.andThen_ok, List.map_toArray, List.map_cons, List.map_nil, hs, hx, hrun]
  exact h v' w' h1 h2
/-- in a plain region -/
theorem wpList_appQ {ops : Array Oper} {rest : List Oper} {o : Oper} {a : Act} {Q : Exit → Act → World → Prop} (hgd : o.guard = none) (s x : Operand)
    (ho : o.op = .call { callee := .builtin .append, args := #[s, x], argTypes := #[22, 22] })
    {w0 w : World} {B : Nat} {v : Value} {bs cs : List (Int × Nat)} {A : Option Addr} {m c : Nat} (hs : a.eval s = v) (hx : a.eval x = .slice A m c) (hown : OwnQ w0 w v bs) (hr : RdQ w B A m c cs)
    (hm : bs.length + m ≤ 1073741824)
    (h : ∀ v' w', OwnQ w0 w' v' (bs ++ cs) → w.grownBy w' v.ownBlock → wpList Try.prog ops Q rest (a.put o.dst v') w') : wpList Try.prog ops Q (o :: rest) a w :=
  wpList_plain hgd fun _ hK => wp_appQ s x ho hs hx hown hr hm fun v' w' h1 h2 => hK _ _ (h v' w' h1 h2)

end Go.Proofs.Ytikcclagckcjnaa
