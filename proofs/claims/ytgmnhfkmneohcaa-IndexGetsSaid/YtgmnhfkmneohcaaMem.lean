/-
  Words for memory: a slice value that reads as bytes; a row of bytes of the call's own.
-/
import Derived.Test.YtgmnhfkmneohcaaRows
import Derived.Test.YtgmnhfkmneohcaaBits1
import Derived.WalkKit
import Derived.WalkSpells
import Derived.WalkLawsBesides
import Derived.Lib.Hide
import Derived.Deep.AppendLies
import Derived.Deep.Draws
import Derived.Laws.CopyOwn
import Derived.Laws.AppendOwnNone
import Derived.Deep.QuietTactic
import Derived.BigQuiet
namespace Go.Proofs.Ytgmnhfkmneohcaa
open Go.RowKit

/-- a byte as a value -/
def bval (n : Nat) : Value := .int .u8 (n : Int)
/-- bytes as values -/
def bvals (bs : List Nat) : List Value := bs.map bval
/-- bits as bytes of 0 and 1 -/
def enc (p : List Bool) : List Nat := p.map Bool.toNat

theorem bvals_app (p q : List Nat) : bvals (p ++ q) = bvals p ++ bvals q := by simp [bvals]
theorem bvals_length (p : List Nat) : (bvals p).length = p.length := by simp [bvals]
theorem bvals_one (p : List Nat) : ∀ u ∈ bvals p, u.oneCell' = true := by
  intro u hu
  simp only [bvals, List.mem_map] at hu
  obtain ⟨x, _, rfl⟩ := hu
  rfl

/-- the slice value '.slice A n c' reads as the bytes bs, and lies below block B -/
structure Rd (w : World) (B : Nat) (A : Option Addr) (n c : Nat) (bs : List Nat) : Prop where
  len : bs.length = n
  cap : n ≤ c
  no : A = none → c = 0
  cell : 0 < n → ∃ ad, A = some ad ∧ ad.block < B ∧ ∀ j, j < n → w.cell? (ad.add j) = some (.int .u8 ((bs.getD j 0 : Nat) : Int))

theorem add_block (a : Addr) (n : Nat) : (a.add n).block = a.block := by unfold Addr.add; split <;> rfl
theorem add_add' (a : Addr) (i j : Nat) : (a.add i).add j = a.add (i + j) := by
  unfold Addr.add
  by_cases hi : i = 0 <;> by_cases hj : j = 0 <;> simp [hi, hj, Nat.add_assoc]

section
variable {w w' : World} {B B' n c : Nat} {A : Option Addr} {bs : List Nat}
theorem Rd.at_ {k : Nat} (h : Rd w B A n c bs) (hk : k < n) : ∃ ad, A = some ad ∧ ad.block < B ∧ w.cell? (ad.add k) = some (.int .u8 ((bs.getD k 0 : Nat) : Int)) := by
  obtain ⟨ad, e, hb, hc⟩ := h.cell (by omega)
  exact ⟨ad, e, hb, hc k hk⟩
theorem Rd.keep (h : Rd w B A n c bs) (hk : ∀ p : Addr, p.block < B → w'.cell? p = w.cell? p) : Rd w' B A n c bs :=
  ⟨h.len, h.cap, h.no, fun hn => by
    obtain ⟨ad, e, hb, hc⟩ := h.cell hn
    exact ⟨ad, e, hb, fun j hj => (hk _ (by rw [add_block]; exact hb)).trans (hc j hj)⟩⟩
theorem Rd.more (h : Rd w B A n c bs) (hB : B ≤ B') : Rd w B' A n c bs :=
  ⟨h.len, h.cap, h.no, fun hn => by
    obtain ⟨ad, e, hb, hc⟩ := h.cell hn
    exact ⟨ad, e, by omega, hc⟩⟩
theorem Rd.below (h : Rd w B A n c bs) (hb : Below B w w') : Rd w' B A n c bs := h.keep fun _ hp => hb.cell hp
theorem Rd.grown (h : Rd w B A n c bs) {row : Option Nat} (hg : w.grownBy w' row) (hB : B ≤ w.heap.size) (hr : ∀ g, row = some g → B ≤ g) : Rd w' B A n c bs :=
  h.keep fun p hp => World.cell?_of_block (hg.block p.block (by omega) (fun e => by have := hr _ e.symm; omega))
theorem Rd.far (h : Rd w B A n c bs) {g : Nat} (hg : w.grownBy w' (some g)) (hB : B ≤ w.heap.size) (hne : ∀ ad, A = some ad → ad.block ≠ g) : Rd w' B A n c bs :=
  ⟨h.len, h.cap, h.no, fun hn => by
    obtain ⟨ad, e, hb, hc⟩ := h.cell hn
    refine ⟨ad, e, hb, fun j hj => (World.cell?_of_block (hg.block _ (by rw [add_block]; omega) (fun e2 => ?_))).trans (hc j hj)⟩
    rw [add_block] at e2
    injection e2 with e2
    exact hne ad e e2⟩
theorem Rd.drew (h : Rd w B A n c bs) : Rd w.drew B A n c bs := ⟨h.len, h.cap, h.no, h.cell⟩
theorem Rd.drewN (h : Rd w B A n c bs) (k : Nat) : Rd (w.drewN k) B A n c bs := ⟨h.len, h.cap, h.no, h.cell⟩
theorem Rd.cutTo {m a : Nat} (h : Rd w B A m c bs) (hk : a + n ≤ m) : Rd w B (A.map (fun x => x.add a)) n (c - a) ((bs.drop a).take n) := by
  have hc := h.cap
  refine ⟨by rw [List.length_take, List.length_drop, h.len]; omega, by omega, ?_, fun hn => ?_⟩
  · intro e
    cases A with
    | none => have := h.no rfl; omega
    | some ad => cases e
  · obtain ⟨ad, rfl, hb, hcell⟩ := h.cell (by omega)
    refine ⟨ad.add a, rfl, by rw [add_block]; exact hb, fun j hj => ?_⟩
    rw [add_add', hcell (a + j) (by omega), List.getD_eq_getElem?_getD, List.getD_eq_getElem?_getD, List.getElem?_take_of_lt hj, List.getElem?_drop]
theorem Rd.cutEnd {m a : Nat} (h : Rd w B A m a bs) (hk : a + n ≤ m) : Rd w B A n 0 ((bs.drop a).take n) := by
  have hc := h.cap
  have hn : n = 0 := by omega
  subst hn
  exact ⟨by simp, by omega, fun _ => rfl, fun h => absurd h (by omega)⟩
theorem Rd.cutHead {m : Nat} (h : Rd w B A m c bs) (hk : n ≤ m) : Rd w B A n c (bs.take n) := by
  have hc := h.cap
  refine ⟨by rw [List.length_take, h.len]; omega, by omega, h.no, fun hn => ?_⟩
  obtain ⟨ad, rfl, hb, hcell⟩ := h.cell (by omega)
  refine ⟨ad, rfl, hb, fun j hj => ?_⟩
  rw [hcell j (by omega), List.getD_eq_getElem?_getD, List.getD_eq_getElem?_getD, List.getElem?_take_of_lt hj]
theorem Rd.nil_ : Rd w B none 0 0 [] := ⟨rfl, Nat.le_refl _, fun _ => rfl, fun h => absurd h (by omega)⟩
theorem Rd.own {base : Nat} {t : TypeId} (h : w.ownsRow base t 1 (.slice A n c) n (bvals bs)) : Rd w w.heap.size A n c bs := by
  have hl : bs.length = n := by have := h.1; simpa [bvals] using this
  have hc : n ≤ c ∧ (A = none → c = 0) := by
    rcases h.2 with ⟨e, h0⟩ | ⟨g, cap, cur, e, _, _, hnc, _⟩
    · injection e with e1 e2 e3
      exact ⟨by omega, fun _ => e3⟩
    · injection e with e1 e2 e3
      exact ⟨by omega, fun hA => by rw [hA] at e1; cases e1⟩
  refine ⟨hl, hc.1, hc.2, fun hn => ?_⟩
  obtain ⟨g, cap, hv, _, hlt⟩ := h.form hn
  have hA : A = some ⟨g, 0, none⟩ := by injection hv
  subst hA
  refine ⟨_, rfl, hlt, fun j hj => ?_⟩
  have := h.cells (g := g) rfl j (bval (bs.getD j 0)) (by
    simp [bvals, List.getD_eq_getElem?_getD, (by omega : j < bs.length)])
  exact this
end

theorem Try.infoB : (Try.prog.info? 5).map (fun i => (i.zero, i.size, i.bytes)) = some (some (.int .u8 0), 1, 1) := by kernel_rfl

/-- v is a slice of bytes of the call's own (made behind the world w0), it holds bs; of what lay in w0 nothing has turned -/
structure Own (w0 w : World) (v : Value) (bs : List Nat) : Prop where
  row : w.ownsRow w0.heap.size 5 1 v bs.length (bvals bs)
  bel : Below w0.heap.size w0 w

theorem Own.nil_ (w0 w : World) (h : Below w0.heap.size w0 w) : Own w0 w (.slice none 0 0) [] := ⟨World.ownsRow_nil _ _ _ _, h⟩
theorem Own.alloc {w0 w : World} {v : Value} {bs : List Nat} (h : Own w0 w v bs) (o : Obj) : Own w0 (w.alloc o) v bs := ⟨h.row.alloc o, h.bel.alloc h.bel.size o⟩
theorem Own.drewN {w0 w : World} {v : Value} {bs : List Nat} (h : Own w0 w v bs) (n : Nat) : Own w0 (w.drewN n) v bs := ⟨h.row, ⟨h.bel.os, h.bel.tape, h.bel.output, h.bel.size, h.bel.block⟩⟩
theorem Own.drew {w0 w : World} {v : Value} {bs : List Nat} (h : Own w0 w v bs) : Own w0 w.drew v bs := ⟨h.row, h.bel.drew⟩
theorem Own.form {w0 w : World} {v : Value} {bs : List Nat} (h : Own w0 w v bs) : ∃ A c, v = .slice A bs.length c ∧ Rd w w.heap.size A bs.length c bs := by
  rcases h.row.2 with ⟨rfl, h0⟩ | ⟨g, cap, cur, rfl, _⟩
  · have : bs = [] := List.eq_nil_of_length_eq_zero h0
    subst this
    exact ⟨_, _, rfl, Rd.nil_⟩
  · exact ⟨_, _, rfl, Rd.own h.row⟩
theorem Own.lenform {w0 w : World} {v : Value} {bs : List Nat} (h : Own w0 w v bs) {m : Nat} (hl : bs.length = m + 1) : ∃ g c, v = .slice (some ⟨g, 0, none⟩) (m + 1) c := by
  rcases h.row.2 with ⟨rfl, h0⟩ | ⟨g, cap, cur, rfl, _⟩
  · omega
  · exact ⟨g, cap, by rw [hl]⟩
theorem Own.rd {w0 w : World} {A : Option Addr} {n c : Nat} {bs : List Nat} (h : Own w0 w (.slice A n c) bs) : Rd w w.heap.size A n c bs := by
  obtain ⟨A', c', e, hr⟩ := h.form
  injection e with e1 e2 e3
  subst e1 e2 e3
  exact hr
theorem Own.keep {w0 w w2 : World} {v : Value} {bs : List Nat} (h : Own w0 w v bs) (hb : Below w.heap.size w w2) : Own w0 w2 v bs := by
  refine ⟨⟨h.row.1, ?_⟩, h.bel.trans (hb.mono h.bel.size)⟩
  rcases h.row.2 with h1 | ⟨g, cap, cur, hv, hg, hh, r⟩
  · exact .inl h1
  · refine .inr ⟨g, cap, cur, hv, hg, ?_, r⟩
    rw [hb.block g (by
      rcases Nat.lt_or_ge g w.heap.size with hlt | hge
      · exact hlt
      · rw [Array.getElem?_eq_none hge] at hh; cases hh)]
    exact hh
theorem Own.weak {w0 w1 w : World} {v : Value} {bs : List Nat} (h : Own w1 w v bs) (hb : Below w0.heap.size w0 w1) : Own w0 w v bs := by
  refine ⟨⟨h.row.1, ?_⟩, hb.trans (h.bel.mono hb.size)⟩
  rcases h.row.2 with h1 | ⟨g, cap, cur, hv, hg, r⟩
  · exact .inl h1
  · exact .inr ⟨g, cap, cur, hv, Nat.le_trans hb.size hg, r⟩
theorem Rd.one (w : World) (x : Nat) : Rd (w.alloc (.cells #[.int .u8 (x : Int)] 5)) (w.heap.size + 1) (some ⟨w.heap.size, 0, none⟩) 1 1 [x] :=
  ⟨rfl, Nat.le_refl _, fun h => (by cases h), fun _ => ⟨_, rfl, by simp, fun j hj => by
    have : j = 0 := by omega
    subst this
    exact cell_one_new w (.int .u8 (x : Int)) _ 0 _ rfl⟩⟩

theorem two_new {w wr : World} {a b : Value} {t : TypeId} (h : Below (w.alloc (.cells #[a, b] t)).heap.size (w.alloc (.cells #[a, b] t)) wr) :
    wr.cell? ⟨w.heap.size, 0, none⟩ = some a ∧ wr.cell? ⟨w.heap.size, 1, none⟩ = some b ∧ wr.frozen? ⟨w.heap.size, 0, none⟩ = false ∧ wr.frozen? ⟨w.heap.size, 1, none⟩ = false := by
  have hb : w.heap.size < (w.alloc (.cells #[a, b] t)).heap.size := by simp
  refine ⟨?_, ?_, ?_, ?_⟩
  · rw [h.cell (p := ⟨w.heap.size, 0, none⟩) hb]; simp
  · rw [h.cell (p := ⟨w.heap.size, 1, none⟩) hb]; simp
  · rw [h.frozen (p := ⟨w.heap.size, 0, none⟩) hb]; simp
  · rw [h.frozen (p := ⟨w.heap.size, 1, none⟩) hb]; simp
/-- two stores into blocks ahead of the row -/
theorem Own.past2 {w0 w1 w : World} {v : Value} {bs : List Nat} (h : Own w1 w v bs) (hb : Below w0.heap.size w0 w1) {p q : Addr} (h0 : w0.heap.size ≤ p.block) (h1 : p.block < w1.heap.size) (k0 : w0.heap.size ≤ q.block) (k1 : q.block < w1.heap.size) (u u' : Value) :
    Own w0 ((w.setCell p u).setCell q u') v bs := by
  refine ⟨?_, ((hb.trans (h.bel.mono hb.size)).setCell h0 u).setCell k0 u'⟩
  have := ownsRow_setCell_below (ownsRow_setCell_below h.row h1 u) k1 u'
  refine ⟨this.1, ?_⟩
  rcases this.2 with h2 | ⟨g, cap, cur, hv, hg, r⟩
  · exact .inl h2
  · exact .inr ⟨g, cap, cur, hv, Nat.le_trans hb.size hg, r⟩

theorem Own.lit0 {w0 w : World} (h : Below w0.heap.size w0 w) : Own w0 (w.alloc (.cells #[] 5)) (.slice (some ⟨w.heap.size, 0, none⟩) 0 0) [] :=
  ⟨World.ownsRow_lit w #[] 0 h.size (by unfold maxLen; omega) rfl, h.alloc h.size _⟩
set_option maxRecDepth 20000 in
/-- append onto a slice of bytes of the call's own: the run -/
theorem run_app (ty : TypeId) {w0 w : World} {B : Nat} {v : Value} {bs cs : List Nat} {A : Option Addr} {m c : Nat} (hown : Own w0 w v bs) (hr : Rd w B A m c cs) (hm : bs.length + m ≤ 1073741824) :
    ∃ v' w', (Builtin.append_ #[26, 26] ty #[v, .slice A m c]).run Try.prog w = .ok v' w' ∧ Own w0 w' v' (bs ++ cs) ∧ w.grownBy w' v.ownBlock := by
  obtain ⟨i0, hi, hz0, hz1, hz2⟩ := info_parts Try.infoB
  have hg : ∀ k, v.ownBlock = some k → w0.heap.size ≤ k := fun k hk => (hown.row.lt k hk).1
  cases A with
  | none =>
    have hm0 : m = 0 := by
      rcases Nat.eq_zero_or_pos m with h0 | h0
      · exact h0
      · obtain ⟨ad, e, _⟩ := hr.cell h0
        cases e
    subst hm0
    have hcs : cs = [] := List.eq_nil_of_length_eq_zero hr.len
    subst hcs
    have hc0 : c = 0 := hr.no rfl
    subst hc0
    exact ⟨v, w, run_append_owned_none w w0.heap.size _ ty 5 i0 1 Try.underlying26 hi v bs.length (bvals bs) hown.row, by simpa using hown, World.grownBy.refl w _⟩
  | some ad =>
    obtain ⟨v', w', hrun, hown', hgrow, _⟩ := run_append_own (P := Try.prog) w w0.heap.size 26 ty 5 i0 (.int .u8 0) 1 1 Try.underlying26 hi hz0 hz1 hz2 rfl (by decide) v bs.length (bvals bs) hown.row ad m c (bvals cs)
      (by rw [bvals_length, hr.len]; omega) (by
        intro j u hu
        have hj : j < m := by
          have := List.getElem?_eq_some_iff.1 hu
          obtain ⟨h1, _⟩ := this
          rw [bvals_length, hr.len] at h1
          exact h1
        obtain ⟨ad', e, _, hc⟩ := hr.cell (by omega)
        injection e with e
        subst e
        rw [hc j hj, ← hu]
        have : j < cs.length := by rw [hr.len]; exact hj
        simp [bvals, bval, List.getD_eq_getElem?_getD, this]) (bvals_one cs) (by unfold maxLen; omega) (by omega) hown.bel.size
    refine ⟨v', w', hrun, ⟨?_, hown.bel.grown hgrow hown.bel.size hg⟩, hgrow⟩
    rw [bvals_app, List.length_append, hr.len]
    exact hown'
theorem wp_app {o : Oper} {a : Act} {K : Act → World → Prop} {Q : Exit → Act → World → Prop} (s x : Operand)
    (ho : o.op = .call { callee := .builtin .append, args := #[s, x], argTypes := #[26, 26] })
    {w0 w : World} {B : Nat} {v : Value} {bs cs : List Nat} {A : Option Addr} {m c : Nat} (hs : a.eval s = v) (hx : a.eval x = .slice A m c) (hown : Own w0 w v bs) (hr : Rd w B A m c cs)
    (hm : bs.length + m ≤ 1073741824) (h : ∀ v' w', Own w0 w' v' (bs ++ cs) → w.grownBy w' v.ownBlock → K (a.put o.dst v') w') : o.wp Try.prog a w K Q := by
  obtain ⟨v', w', hrun, h1, h2⟩ := run_app o.type hown hr hm
  unfold Oper.wp execOp
  simp only [ho, resolve, invoke, builtin, Sem.run_bind, Sem.run_pure, Result.andThen_ok, List.map_toArray, List.map_cons, List.map_nil, hs, hx, hrun]
  exact h v' w' h1 h2
/-- at a step of a region that draws its order -/
theorem step_app {ops : Array Oper} {o : Oper} {a : Act} {K : Act → World → Prop} {Q : Exit → Act → World → Prop} {E : Prop} (hgd : o.guard = none) (s x : Operand)
    (ho : o.op = .call { callee := .builtin .append, args := #[s, x], argTypes := #[26, 26] })
    {w0 w : World} {B : Nat} {v : Value} {bs cs : List Nat} {A : Option Addr} {m c : Nat} (hs : a.eval s = v) (hx : a.eval x = .slice A m c) (hown : Own w0 w v bs) (hr : Rd w B A m c cs)
    (hm : bs.length + m ≤ 1073741824) (h : ∀ v' w', Own w0 w' v' (bs ++ cs) → w.grownBy w' v.ownBlock → K (a.put o.dst v') w') :
    if Region.wanted o (yielded ops a.tmps) = true then Oper.wp Try.prog o a w K Q else E := by
  have hw : Region.wanted o (yielded ops a.tmps) = true := by simp [Region.wanted, hgd]
  rw [if_pos hw]
  exact wp_app s x ho hs hx hown hr hm h
/-- in a plain region -/
theorem wpList_app {ops : Array Oper} {rest : List Oper} {o : Oper} {a : Act} {Q : Exit → Act → World → Prop} (hgd : o.guard = none) (s x : Operand)
    (ho : o.op = .call { callee := .builtin .append, args := #[s, x], argTypes := #[26, 26] })
    {w0 w : World} {B : Nat} {v : Value} {bs cs : List Nat} {A : Option Addr} {m c : Nat} (hs : a.eval s = v) (hx : a.eval x = .slice A m c) (hown : Own w0 w v bs) (hr : Rd w B A m c cs)
    (hm : bs.length + m ≤ 1073741824)
    (h : ∀ v' w', Own w0 w' v' (bs ++ cs) → wpList Try.prog ops Q rest (a.put o.dst v') w') : wpList Try.prog ops Q (o :: rest) a w :=
  wpList_plain hgd fun _ hK => wp_app s x ho hs hx hown hr hm fun v' w' h2 _ => hK _ _ (h v' w' h2)

section
variable {w0 w : World} {g n c : Nat} {bs : List Nat}
theorem Own.len (h : Own w0 w (.slice (some ⟨g, 0, none⟩) n c) bs) : bs.length = n := h.rd.len
theorem Own.cell (h : Own w0 w (.slice (some ⟨g, 0, none⟩) n c) bs) (j : Nat) (hj : j < n) : w.cell? ⟨g, j, none⟩ = some (.int .u8 ((bs.getD j 0 : Nat) : Int)) := by
  have hl := h.len
  subst hl
  rw [h.row.cellAt j (by omega)]
  simp [bvals, bval, List.getD_eq_getElem?_getD, hj]
theorem Own.free (h : Own w0 w (.slice (some ⟨g, 0, none⟩) n c) bs) (j : Nat) : w.frozen? ⟨g, j, none⟩ = false := by
  have hl := h.len
  subst hl
  exact h.row.frozenAt j
theorem Own.at_ (h : Own w0 w (.slice (some ⟨g, 0, none⟩) n c) bs) : 0 < n → w0.heap.size ≤ g := fun hn => by
  have hl := h.len
  subst hl
  exact (h.row.lt g rfl).1
theorem Own.from_ (h : Own w0 w (.slice (some ⟨g, 0, none⟩) n c) bs) : w0.heap.size ≤ g := by
  have hl := h.len
  subst hl
  exact (h.row.lt g rfl).1
theorem Own.set (h : Own w0 w (.slice (some ⟨g, 0, none⟩) n c) bs) (j x : Nat) : Own w0 (w.setCell ⟨g, j, none⟩ (.int .u8 (x : Int))) (.slice (some ⟨g, 0, none⟩) n c) (bs.set j x) := by
  have hl := h.len
  subst hl
  have h1 := h.row.stored j (.int .u8 (x : Int))
  refine ⟨?_, h.bel.grown h1.2 h.bel.size (fun k hk => by injection hk with hk; subst hk; exact h.from_)⟩
  have e : bvals (bs.set j x) = (bvals bs).set j (.int .u8 (x : Int)) := by simp [bvals, bval, List.map_set]
  rw [e, List.length_set]
  exact h1.1
end

/-- make of a slice of bytes -/
theorem wpList_mk {ops : Array Oper} {rest : List Oper} {o : Oper} {a : Act} {Q : Exit → Act → World → Prop} (hgd : o.guard = none) (l r : Operand)
    (ho : o.op = Op.makeSlice 26 l r) {w0 w : World} (hb : Below w0.heap.size w0 w) {L C : Int} (n : Nat) (hl : a.eval l = .int .i64 L) (hr : a.eval r = .int .i64 C) (hL : L = (n : Int)) (hC : C = (n : Int)) (hn : n ≤ 1073741824)
    (h : ∀ w', Own w0 w' (.slice (some ⟨w.heap.size, 0, none⟩) n n) (List.replicate n 0) → Below w.heap.size w w' → wpList Try.prog ops Q rest (a.put o.dst (.slice (some ⟨w.heap.size, 0, none⟩) n n)) w') :
    wpList Try.prog ops Q (o :: rest) a w := by
  obtain ⟨i0, hi, hz0, hz1, hz2⟩ := info_parts Try.infoB
  refine wpList_make_full w hgd l r _ ho w0.heap.size 5 i0 (.int .u8 0) 1 Try.underlying26 hi hz0 hz1 .i64 .i64 L C n hl hr hL hC (by rw [hz2]; omega) (by unfold maxLen; omega) hb.size ?_
  intro w' hown hgrow
  have e : (madeCells (Value.int .u8 0).cells (n * 1)).toList = bvals (List.replicate n 0) := by
    have := toList_madeCells_one (.int .u8 0) (n * 1)
    rw [Nat.mul_one] at this ⊢
    simpa [bvals, bval, Value.cells] using this
  rw [e] at hown
  refine h w' ⟨by rw [List.length_replicate]; exact hown, hb.grown hgrow hb.size (fun k hk => by cases hk)⟩ ?_
  exact (Below.refl _ _).grown hgrow (Nat.le_refl _) (fun k hk => by cases hk)

theorem Own.whole {w0 w : World} {g n : Nat} {bs : List Nat} (h : Own w0 w (.slice (some ⟨g, 0, none⟩) n n) bs) : w.heap[g]? = some (.cells (bvals bs).toArray 5 (0, 0)) := by
  have hl := h.len
  rcases h.row.2 with ⟨e, _⟩ | ⟨g', cap, cur, e, _, hh, _, _, hs, ht⟩
  · cases e
  · injection e with e1 e2 e3
    injection e1 with e1
    injection e1 with e1
    subst e1
    have : cur.toList = bvals bs := by rw [← ht, List.take_of_length_le (by rw [Array.length_toList]; omega)]
    rw [hh, ← this]
theorem Own.ofWhole {w0 w : World} {g n : Nat} {bs : List Nat} (hw : w.heap[g]? = some (.cells (bvals bs).toArray 5 (0, 0))) (hb : Below w0.heap.size w0 w) (hg : w0.heap.size ≤ g) (hl : bs.length = n) (hn : n ≤ maxLen) : Own w0 w (.slice (some ⟨g, 0, none⟩) n n) bs := by
  subst hl
  exact ⟨⟨by simp [bvals], .inr ⟨g, bs.length, _, rfl, hg, hw, Nat.le_refl _, hn, by simp [bvals], by simp [bvals, List.take_of_length_le]⟩⟩, hb⟩
/-- copy onto the head of a slice of bytes that was just made -/
theorem wpList_cp {ops : Array Oper} {rest : List Oper} {o : Oper} {a : Act} {Q : Exit → Act → World → Prop} (hgd : o.guard = none) (d s : Operand)
    (ho : o.op = .call { callee := .builtin .copy, args := #[d, s], argTypes := #[26, 26] })
    {w0 w : World} {B g n m c : Nat} {A : Option Addr} {bs cs : List Nat} (hd : a.eval d = .slice (some ⟨g, 0, none⟩) n n) (hs : a.eval s = .slice A m c)
    (hown : Own w0 w (.slice (some ⟨g, 0, none⟩) n n) bs) (hr : Rd w B A m c cs) (hmn : m ≤ n) (hn : n ≤ 1073741824)
    (h : ∀ w', Own w0 w' (.slice (some ⟨g, 0, none⟩) n n) (cs ++ bs.drop m) → wpList Try.prog ops Q rest (a.put o.dst (goInt m)) w') : wpList Try.prog ops Q (o :: rest) a w := by
  have hl := hown.len
  have hlc : (bvals cs).length = m := by rw [bvals_length, hr.len]
  refine wpList_copy_splice hgd d s _ _ ho 5 Try.underlying26 (by
      obtain ⟨i0, hi, hz0, hz1, hz2⟩ := info_parts Try.infoB
      rw [hi]; simp [hz1]) (some ⟨g, 0, none⟩) A n n m c hd hs g 0 (bvals bs) 5 hown.whole (bvals cs) (by rw [hlc]; exact (Nat.min_eq_left hmn).symm) ?_ (by rw [hlc, bvals_length]; omega) (bvals_one cs) w0.heap.size w0 hown.bel hown.from_ ?_
  · intro hpos
    rw [hlc] at hpos
    obtain ⟨ad, e, _, hc⟩ := hr.cell hpos
    refine ⟨rfl, ad, e, fun j v hj => ?_⟩
    have hj' : j < cs.length := by
      have := (List.getElem?_eq_some_iff.1 hj).1
      rwa [bvals_length] at this
    rw [hc j (by rw [← hr.len]; exact hj'), ← hj]
    simp [bvals, bval, List.getD_eq_getElem?_getD, hj']
  · intro w' hw' hb'
    rw [hlc]
    refine h w' (Own.ofWhole ?_ hb' hown.from_ (by rw [List.length_append, List.length_drop, hr.len, hl]; omega) (by unfold maxLen; omega))
    have e : splice (bvals bs) 0 (bvals cs) = bvals (cs ++ bs.drop m) := by
      unfold splice
      rw [hlc]
      simp [bvals, List.map_drop]
    rw [← e]
    exact hw'.out

/-- what a function that makes bytes comes to -/
def RetB (w : World) (bs : List Nat) (e : Ending) (w' : World) : Prop := ∃ A c, e = .returned (.slice A bs.length c) ∧ Own w w' (.slice A bs.length c) bs
theorem RetB.mk {w w' : World} {v : Value} {bs : List Nat} (h : Own w w' v bs) : RetB w bs (.returned v) w' := by
  obtain ⟨A, c, rfl, _⟩ := h.form
  exact ⟨A, c, rfl, h⟩

/-- bytes as a string -/
def strB (bs : List Nat) : ByteArray := ⟨(bs.map UInt8.ofNat).toArray⟩
theorem run_str {w : World} {B n c : Nat} {A : Option Addr} {bs : List Nat} (h : Rd w B A n c bs) : (convert 26 9 (.slice A n c)).run Try.prog w = .ok (.string (strB bs)) w := by
  rw [run_convert_bytes_string w _ _ 5 _ n c Try.underlying26 Try.underlying5 Try.underlying9]
  cases A with
  | none =>
    have h0 := h.no rfl
    have h1 := h.cap
    have : bs = [] := List.eq_nil_of_length_eq_zero (by have := h.len; omega)
    subst this
    simp [Conv.bytesToString, strB]
    rfl
  | some ad =>
    have hl : (loadCells ad n).run Try.prog w = .ok ((bs.map fun x : Nat => (x : Int)).map (Value.int .u8)).toArray w := by
      have := run_loadCells_list (P := Try.prog) w ad ((bs.map fun x : Nat => (x : Int)).map (Value.int .u8)) (fun j v hj => by
        have hjl : j < bs.length := by
          have := (List.getElem?_eq_some_iff.1 hj).1
          simpa using this
        obtain ⟨ad', e, _, hc⟩ := h.cell (by have := h.len; omega)
        injection e with e
        subst e
        rw [hc j (by rw [← h.len]; exact hjl), ← hj]
        simp [List.getD_eq_getElem?_getD, hjl])
      simpa [h.len] using this
    rw [run_bytesToString w _ n c _ hl, foldl_push_bytes]
    simp [strB, ByteArray.empty, ByteArray.emptyWithCapacity]
    congr 3

theorem below_like {B : Nat} {a a' w : World} (h : Below B a w) (e1 : a.os = a'.os) (e2 : a.tape = a'.tape) (e3 : a.output = a'.output) (e4 : a.heap = a'.heap) : Below B a' w :=
  ⟨h.os.trans e1, h.tape.trans e2, h.output.trans e3, by rw [← e4]; exact h.size, fun k hk => by rw [← e4]; exact h.block k hk⟩

theorem undrew {B : Nat} {a w : World} (h : Below B a.drew w) : Below B a w := below_like h rfl rfl rfl rfl

theorem enc_length (p : List Bool) : (enc p).length = p.length := by simp [enc]
theorem enc_getD (p : List Bool) (i : Nat) : (enc p).getD i 0 = (p.getD i false).toNat := by
  simp only [enc, List.getD_eq_getElem?_getD, List.getElem?_map]
  cases p[i]? <;> rfl
theorem enc_cut (p : List Bool) (a n : Nat) : ((enc p).drop a).take n = enc (cut p a n) := by simp [enc, cut]
theorem enc_take (p : List Bool) (n : Nat) : (enc p).take n = enc (p.take n) := by simp [enc]
theorem enc_app (p q : List Bool) : enc (p ++ q) = enc p ++ enc q := by simp [enc]

end Go.Proofs.Ytgmnhfkmneohcaa
