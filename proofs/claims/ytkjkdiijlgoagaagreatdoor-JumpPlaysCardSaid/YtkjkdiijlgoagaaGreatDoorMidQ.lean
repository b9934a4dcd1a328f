/-
  Words for memory: samples of the call's own that lie behind block B, whatever was written ahead of B; append onto them.
-/
import Derived.Test.YtkjkdiijlgoagaaGreatDoorWords
namespace Go.Proofs.YtkjkdiijlgoagaaGreatDoor
open Go.RowKit

/-- samples of the call's own, made behind block B; of what lay in w0 nothing has turned -/
structure MidQ (w0 : World) (B : Nat) (w : World) (v : Value) (xs : List (Int × Nat)) : Prop where
  row : w.ownsRow B 70 2 v xs.length (qvals xs)
  bel : Below w0.heap.size w0 w
  le : w0.heap.size ≤ B
  fit : ∀ x ∈ xs, FitQ x
section
variable {w0 w w2 : World} {B : Nat} {v : Value} {xs : List (Int × Nat)}
theorem MidQ.nil_ (h : Below w0.heap.size w0 w) (hB : w0.heap.size ≤ B) : MidQ w0 B w (.slice none 0 0) [] := ⟨World.ownsRow_nil _ _ _ _, h, hB, by simp⟩
theorem MidQ.set (h : MidQ w0 B w v xs) (p : Addr) (u : Value) (h0 : w0.heap.size ≤ p.block) (h1 : p.block < B) : MidQ w0 B (w.setCell p u) v xs :=
  ⟨ownsRow_setCell_below h.row h1 u, h.bel.setCell h0 u, h.le, h.fit⟩
theorem MidQ.set8 (h : MidQ w0 B w v xs) {g : Nat} (h0 : w0.heap.size ≤ g) (h1 : g < B) (u0 u1 u2 u3 u4 u5 u6 u7 : Value) : MidQ w0 B ((((((((w.setCell ⟨g, 0, none⟩ (u0)).setCell ⟨g, 1, none⟩ (u1)).setCell ⟨g, 2, none⟩ (u2)).setCell ⟨g, 3, none⟩ (u3)).setCell ⟨g, 4, none⟩ (u4)).setCell ⟨g, 5, none⟩ (u5)).setCell ⟨g, 6, none⟩ (u6)).setCell ⟨g, 7, none⟩ (u7)) v xs :=
  (((((((h.set ⟨g, 0, none⟩ u0 h0 h1).set ⟨g, 1, none⟩ u1 h0 h1).set ⟨g, 2, none⟩ u2 h0 h1).set ⟨g, 3, none⟩ u3 h0 h1).set ⟨g, 4, none⟩ u4 h0 h1).set ⟨g, 5, none⟩ u5 h0 h1).set ⟨g, 6, none⟩ u6 h0 h1).set ⟨g, 7, none⟩ u7 h0 h1
theorem MidQ.own (h : MidQ w0 B w v xs) : OwnQ w0 w v xs := by
  refine ⟨⟨h.row.1, ?_⟩, h.bel, h.fit⟩
  rcases h.row.2 with h1 | ⟨g, cap, cur, hv, hg, r⟩
  · exact .inl h1
  · exact .inr ⟨g, cap, cur, hv, Nat.le_trans h.le hg, r⟩
theorem MidQ.rd {A : Option Addr} {n c : Nat} (h : MidQ w0 B w (.slice A n c) xs) : RdQ w w.heap.size A n c xs := h.own.rd
theorem MidQ.on (h : MidQ w0 B w v xs) (hb : Below w.heap.size w w2) : MidQ w0 B w2 v xs := by
  refine ⟨⟨h.row.1, ?_⟩, h.bel.trans (hb.mono h.bel.size), h.le, h.fit⟩
  rcases h.row.2 with h1 | ⟨g, cap, cur, hv, hg, hh, r⟩
  · exact .inl h1
  · refine .inr ⟨g, cap, cur, hv, hg, ?_, r⟩
    rw [hb.block g (by
      rcases Nat.lt_or_ge g w.heap.size with hlt | hge
      · exact hlt
      · rw [Array.getElem?_eq_none hge] at hh; cases hh)]
    exact hh
theorem MidQ.onA (h : MidQ w0 B w v xs) (o : Obj) : MidQ w0 B (w.alloc o) v xs := h.on ((Below.refl _ _).alloc (Nat.le_refl _) o)
theorem MidQ.drew (h : MidQ w0 B w v xs) : MidQ w0 B w.drew v xs := ⟨h.row, h.bel.drew, h.le, h.fit⟩
end
set_option maxRecDepth 20000 in
theorem run_appMQ (ty : TypeId) {w0 w : World} {B B2 : Nat} {v : Value} {bs cs : List (Int × Nat)} {A : Option Addr} {m c : Nat} (hown : MidQ w0 B w v bs) (hB : B ≤ w.heap.size) (hr : RdQ w B2 A m c cs) (hm : bs.length + m ≤ 1073741824) :
    ∃ v' w', (Builtin.append_ #[27, 27] ty #[v, .slice A m c]).run Tryz.prog w = .ok v' w' ∧ MidQ w0 B w' v' (bs ++ cs) ∧ Below B w w' ∧ w.grownBy w' v.ownBlock := by
  obtain ⟨i0, hi, hz0, hz1, hz2⟩ := info_parts Tryz.infoQ
  have hg : ∀ k, v.ownBlock = some k → B ≤ k := fun k hk => (hown.row.lt k hk).1
  have hfit : ∀ x ∈ bs ++ cs, FitQ x := fun x hx => (List.mem_append.1 hx).elim (hown.fit x) (hr.fit x)
  cases A with
  | none =>
    have hm0 : m = 0 := by
      rcases Nat.eq_zero_or_pos m with h0 | h0
      · exact h0
      · obtain ⟨ad, e, _⟩ := hr.cell h0
        cases e
    subst hm0
    have hcs : cs = [] := List.eq_nil_of_length_eq_zero hr.len
    subst hcs
    have hc0 : c = 0 := hr.no rfl
    subst hc0
    exact ⟨v, w, run_append_owned_none w B _ ty 70 i0 2 Tryz.underlying27 hi v bs.length (qvals bs) hown.row, by simpa using hown, Below.refl _ _, World.grownBy.refl w _⟩
  | some ad =>
    obtain ⟨v', w', hrun, hown', hgrow, _⟩ := run_append_own (P := Tryz.prog) w B 27 ty 70 i0 (.agg #[.int .i64 0, .int .u64 0]) 2 16 Tryz.underlying27 hi hz0 hz1 hz2 (by kernel_rfl) (by decide) v bs.length (qvals bs) hown.row ad m c (qvals cs)
      (by rw [qvals_length, hr.len]) (by
        intro j u hu
        have hj : j < m * 2 := by
          have := (List.getElem?_eq_some_iff.1 hu).1
          rw [qvals_length, hr.len] at this
          exact this
        obtain ⟨ad', e, _, hc⟩ := hr.cell (by omega)
        injection e with e
        subst e
        have hk : j / 2 < cs.length := by rw [hr.len]; omega
        have hq := qvals_at cs (j / 2) hk
        have hcc := hc (j / 2) (by rw [← hr.len]; exact hk)
        rcases (by omega : j = j / 2 * 2 ∨ j = j / 2 * 2 + 1) with e | e
        · rw [e] at hu ⊢
          have h0 : j / 2 * 2 / 2 * 2 = j / 2 * 2 := by omega
          rw [hcc.1, ← hu, hq.1]
        · rw [e] at hu ⊢
          rw [hcc.2, ← hu, hq.2]) (qvals_one cs) (by unfold maxLen; omega) (by omega) hB
    have hbB : Below B w w' := (Below.refl B w).grown hgrow hB hg
    refine ⟨v', w', hrun, ⟨?_, hown.bel.trans (hbB.mono hown.le), hown.le, hfit⟩, hbB, hgrow⟩
    rw [qvals_app, List.length_append, hr.len]
    exact hown'
theorem wp_appMQ {o : Oper} {a : Act} {K : Act → World → Prop} {Q : Exit → Act → World → Prop} (s x : Operand)
    (ho : o.op = .call { callee := .builtin .append, args := #[s, x], argTypes := #[27, 27] })
    {w0 w : World} {B B2 : Nat} {v : Value} {bs cs : List (Int × Nat)} {A : Option Addr} {m c : Nat} (hs : a.eval s = v) (hx : a.eval x = .slice A m c) (hown : MidQ w0 B w v bs) (hB : B ≤ w.heap.size) (hr : RdQ w B2 A m c cs)
    (hm : bs.length + m ≤ 1073741824) (h : ∀ v' w', MidQ w0 B w' v' (bs ++ cs) → Below B w w' → w.grownBy w' v.ownBlock → K (a.put o.dst v') w') : o.wp Tryz.prog a w K Q := by
  obtain ⟨v', w', hrun, h1, h2, h3⟩ := run_appMQ o.type hown hB hr hm
  unfold Oper.wp execOp
  simp only [ho, resolve, invoke, builtin, Sem.run_bind, Sem.run_pure, Result.andThen_ok, List.map_toArray, List.map_cons, List.map_nil, hs, hx, hrun]
  exact h v' w' h1 h2 h3
/-- at a step of a region that draws its order -/
theorem step_appMQ {ops : Array Oper} {o : Oper} {a : Act} {K : Act → World → Prop} {Q : Exit → Act → World → Prop} {E : Prop} (hgd : o.guard = none) (s x : Operand)
    (ho : o.op = .call { callee := .builtin .append, args := #[s, x], argTypes := #[27, 27] })
    {w0 w : World} {B B2 : Nat} {v : Value} {bs cs : List (Int × Nat)} {A : Option Addr} {m c : Nat} (hs : a.eval s = v) (hx : a.eval x = .slice A m c) (hown : MidQ w0 B w v bs) (hB : B ≤ w.heap.size) (hr : RdQ w B2 A m c cs)
    (hm : bs.length + m ≤ 1073741824) (h : ∀ v' w', MidQ w0 B w' v' (bs ++ cs) → Below B w w' → w.grownBy w' v.ownBlock → K (a.put o.dst v') w') :
    if Region.wanted o (yielded ops a.tmps) = true then Oper.wp Tryz.prog o a w K Q else E := by
  have hw : Region.wanted o (yielded ops a.tmps) = true := by simp [Region.wanted, hgd]
  rw [if_pos hw]
  exact wp_appMQ s x ho hs hx hown hB hr hm h
/-- in a plain region -/
theorem wpList_appMQ {ops : Array Oper} {rest : List Oper} {o : Oper} {a : Act} {Q : Exit → Act → World → Prop} (hgd : o.guard = none) (s x : Operand)
    (ho : o.op = .call { callee := .builtin .append, args := #[s, x], argTypes := #[27, 27] })
    {w0 w : World} {B B2 : Nat} {v : Value} {bs cs : List (Int × Nat)} {A : Option Addr} {m c : Nat} (hs : a.eval s = v) (hx : a.eval x = .slice A m c) (hown : MidQ w0 B w v bs) (hB : B ≤ w.heap.size) (hr : RdQ w B2 A m c cs)
    (hm : bs.length + m ≤ 1073741824)
    (h : ∀ v' w', MidQ w0 B w' v' (bs ++ cs) → Below B w w' → w.grownBy w' v.ownBlock → wpList Tryz.prog ops Q rest (a.put o.dst v') w') : wpList Tryz.prog ops Q (o :: rest) a w :=
  wpList_plain hgd fun _ hK => wp_appMQ s x ho hs hx hown hB hr hm fun v' w' h1 h2 h3 => hK _ _ (h v' w' h1 h2 h3)

end Go.Proofs.YtkjkdiijlgoagaaGreatDoor
