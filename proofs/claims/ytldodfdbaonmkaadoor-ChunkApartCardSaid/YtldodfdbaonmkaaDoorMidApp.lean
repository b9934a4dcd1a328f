/-
  append onto bytes of the call's own that lie behind block B, whatever was written ahead of B.
-/
import Derived.Test.YtldodfdbaonmkaaDoorBoxL
namespace Go.Proofs.YtldodfdbaonmkaaDoor
open Go.RowKit

theorem BoxL.belowB {w w' : World} {g B : Nat} {l : List Value} (h : BoxL w g l) (hb : Below B w w') (hg : g < B) : BoxL w' g l :=
  ⟨Nat.lt_of_lt_of_le h.lt hb.size, fun i v hi => (hb.cell (p := ⟨g, i, none⟩) hg).trans (h.cell i v hi), fun i v hi => (hb.frozen (p := ⟨g, i, none⟩) hg).trans (h.free i v hi)⟩
set_option maxRecDepth 20000 in
theorem run_appM (ty : TypeId) {w0 w : World} {B B2 : Nat} {v : Value} {bs cs : List Nat} {A : Option Addr} {m c : Nat} (hown : Mid w0 B w v bs) (hB : B ≤ w.heap.size) (hr : Rd w B2 A m c cs) (hm : bs.length + m ≤ 1073741824) :
    ∃ v' w', (Builtin.append_ #[24, 24] ty #[v, .slice A m c]).run Tryd.prog w = .ok v' w' ∧ Mid w0 B w' v' (bs ++ cs) ∧ Below B w w' ∧ w.grownBy w' v.ownBlock := by
  obtain ⟨i0, hi, hz0, hz1, hz2⟩ := info_parts Tryd.infoB
  have hg : ∀ k, v.ownBlock = some k → B ≤ k := fun k hk => (hown.row.lt k hk).1
  cases A with
  | none =>
    have hm0 : m = 0 := by
      rcases Nat.eq_zero_or_pos m with h0 | h0
      · exact h0
      · obtain ⟨ad, e, _⟩ := hr.cell h0
        cases e
    subst hm0
    have hcs : cs = [] := List.eq_nil_of_length_eq_zero hr.len
    subst hcs
    have hc0 : c = 0 := hr.no rfl
    subst hc0
    exact ⟨v, w, run_append_owned_none w B _ ty 5 i0 1 Tryd.underlying24 hi v bs.length (bvals bs) hown.row, by simpa using hown, Below.refl _ _, World.grownBy.refl w _⟩
  | some ad =>
    obtain ⟨v', w', hrun, hown', hgrow, _⟩ := run_append_own (P := Tryd.prog) w B 24 ty 5 i0 (.int .u8 0) 1 1 Tryd.underlying24 hi hz0 hz1 hz2 rfl (by decide) v bs.length (bvals bs) hown.row ad m c (bvals cs)
      (by rw [bvals_length, hr.len]; omega) (by
        intro j u hu
        have hj : j < m := by
          have := List.getElem?_eq_some_iff.1 hu
          obtain ⟨h1, _⟩ := this
          rw [bvals_length, hr.len] at h1
          exact h1
        obtain ⟨ad', e, _, hc⟩ := hr.cell (by omega)
        injection e with e
        subst e
        rw [hc j hj, ← hu]
        have : j < cs.length := by rw [hr.len]; exact hj
        simp [bvals, bval, List.getD_eq_getElem?_getD, this]) (bvals_one cs) (by unfold maxLen; omega) (by omega) hB
    have hbB : Below B w w' := (Below.refl B w).grown hgrow hB hg
    refine ⟨v', w', hrun, ⟨?_, hown.bel.trans (hbB.mono hown.le), hown.le⟩, hbB, hgrow⟩
    rw [bvals_app, List.length_append, hr.len]
    exact hown'
theorem wp_appM {o : Oper} {a : Act} {K : Act → World → Prop} {Q : Exit → Act → World → Prop} (s x : Operand)
    (ho : o.op = .call { callee := .builtin .append, args := #[s, x], argTypes := #[24, 24] })
    {w0 w : World} {B B2 : Nat} {v : Value} {bs cs : List Nat} {A : Option Addr} {m c : Nat} (hs : a.eval s = v) (hx : a.eval x = .slice A m c) (hown : Mid w0 B w v bs) (hB : B ≤ w.heap.size) (hr : Rd w B2 A m c cs)
    (hm : bs.length + m ≤ 1073741824) (h : ∀ v' w', Mid w0 B w' v' (bs ++ cs) → Below B w w' → w.grownBy w' v.ownBlock → K (a.put o.dst v') w') : o.wp Tryd.prog a w K Q := by
  obtain ⟨v', w', hrun, h1, h2, h3⟩ := run_appM o.type hown hB hr hm
  unfold Oper.wp execOp
  simp only [ho, resolve, invoke, builtin, Sem.run_bind, Sem.run_pure, Result.andThen_ok, List.map_toArray, List.map_cons, List.map_nil, hs, hx, hrun]
  exact h v' w' h1 h2 h3
/-- at a step of a region that draws its order -/
theorem step_appM {ops : Array Oper} {o : Oper} {a : Act} {K : Act → World → Prop} {Q : Exit → Act → World → Prop} {E : Prop} (hgd : o.guard = none) (s x : Operand)
    (ho : o.op = .call { callee := .builtin .append, args := #[s, x], argTypes := #[24, 24] })
    {w0 w : World} {B B2 : Nat} {v : Value} {bs cs : List Nat} {A : Option Addr} {m c : Nat} (hs : a.eval s = v) (hx : a.eval x = .slice A m c) (hown : Mid w0 B w v bs) (hB : B ≤ w.heap.size) (hr : Rd w B2 A m c cs)
    (hm : bs.length + m ≤ 1073741824) (h : ∀ v' w', Mid w0 B w' v' (bs ++ cs) → Below B w w' → w.grownBy w' v.ownBlock → K (a.put o.dst v') w') :
    if Region.wanted o (yielded ops a.tmps) = true then Oper.wp Tryd.prog o a w K Q else E := by
  have hw : Region.wanted o (yielded ops a.tmps) = true := by simp [Region.wanted, hgd]
  rw [if_pos hw]
  exact wp_appM s x ho hs hx hown hB hr hm h

end Go.Proofs.YtldodfdbaonmkaaDoor
