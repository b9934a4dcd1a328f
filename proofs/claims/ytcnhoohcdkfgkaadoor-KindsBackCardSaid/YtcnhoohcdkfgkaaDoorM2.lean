/-
  Texts of this proof, one behind the other: Mem, Lowest, Join, Take, Bytes, LawBits, Low, Number, Make, Flat, Rest, RestFar.
-/
import Derived.Test.YtcnhoohcdkfgkaaDoorRows
import Derived.Test.YtcnhoohcdkfgkaaDoorM1
import Derived.WalkKit
import Derived.WalkSpells
import Derived.WalkLawsBesides
import Derived.Lib.Hide
import Derived.Deep.AppendLies
import Derived.Deep.Draws
import Derived.Laws.CopyOwn
import Derived.Laws.AppendOwnNone
import Derived.Deep.QuietTactic
import Derived.BigQuiet

/-
  Words for memory: a slice value that reads as bytes; a row of bytes of the call's own.
-/
namespace Go.Proofs.YtcnhoohcdkfgkaaDoor
open Go.RowKit

/-- a byte as a value -/
def bval (n : Nat) : Value := .int .u8 (n : Int)
/-- bytes as values -/
def bvals (bs : List Nat) : List Value := bs.map bval
/-- bits as bytes of 0 and 1 -/
def enc (p : List Bool) : List Nat := p.map Bool.toNat

theorem bvals_app (p q : List Nat) : bvals (p ++ q) = bvals p ++ bvals q := by simp [bvals]
theorem bvals_length (p : List Nat) : (bvals p).length = p.length := by simp [bvals]
theorem bvals_one (p : List Nat) : ∀ u ∈ bvals p, u.oneCell' = true := by
  intro u hu
  simp only [bvals, List.mem_map] at hu
  obtain ⟨x, _, rfl⟩ := hu
  rfl

/-- the slice value '.slice A n c' reads as the bytes bs, and lies below block B -/
structure Rd (w : World) (B : Nat) (A : Option Addr) (n c : Nat) (bs : List Nat) : Prop where
  len : bs.length = n
  cap : n ≤ c
  no : A = none → c = 0
  cell : 0 < n → ∃ ad, A = some ad ∧ ad.block < B ∧ ∀ j, j < n → w.cell? (ad.add j) = some (.int .u8 ((bs.getD j 0 : Nat) : Int))

theorem add_block (a : Addr) (n : Nat) : (a.add n).block = a.block := by unfold Addr.add; split <;> rfl
theorem add_add' (a : Addr) (i j : Nat) : (a.add i).add j = a.add (i + j) := by
  unfold Addr.add
  by_cases hi : i = 0 <;> by_cases hj : j = 0 <;> simp [hi, hj, Nat.add_assoc]

section
variable {w w' : World} {B B' n c : Nat} {A : Option Addr} {bs : List Nat}
theorem Rd.at_ {k : Nat} (h : Rd w B A n c bs) (hk : k < n) : ∃ ad, A = some ad ∧ ad.block < B ∧ w.cell? (ad.add k) = some (.int .u8 ((bs.getD k 0 : Nat) : Int)) := by
  obtain ⟨ad, e, hb, hc⟩ := h.cell (by omega)
  exact ⟨ad, e, hb, hc k hk⟩
theorem Rd.keep (h : Rd w B A n c bs) (hk : ∀ p : Addr, p.block < B → w'.cell? p = w.cell? p) : Rd w' B A n c bs :=
  ⟨h.len, h.cap, h.no, fun hn => by
    obtain ⟨ad, e, hb, hc⟩ := h.cell hn
    exact ⟨ad, e, hb, fun j hj => (hk _ (by rw [add_block]; exact hb)).trans (hc j hj)⟩⟩
theorem Rd.more (h : Rd w B A n c bs) (hB : B ≤ B') : Rd w B' A n c bs :=
  ⟨h.len, h.cap, h.no, fun hn => by
    obtain ⟨ad, e, hb, hc⟩ := h.cell hn
    exact ⟨ad, e, by omega, hc⟩⟩
theorem Rd.below (h : Rd w B A n c bs) (hb : Below B w w') : Rd w' B A n c bs := h.keep fun _ hp => hb.cell hp
theorem Rd.grown (h : Rd w B A n c bs) {row : Option Nat} (hg : w.grownBy w' row) (hB : B ≤ w.heap.size) (hr : ∀ g, row = some g → B ≤ g) : Rd w' B A n c bs :=
  h.keep fun p hp => World.cell?_of_block (hg.block p.block (by omega) (fun e => by have := hr _ e.symm; omega))
theorem Rd.far (h : Rd w B A n c bs) {g : Nat} (hg : w.grownBy w' (some g)) (hB : B ≤ w.heap.size) (hne : ∀ ad, A = some ad → ad.block ≠ g) : Rd w' B A n c bs :=
  ⟨h.len, h.cap, h.no, fun hn => by
    obtain ⟨ad, e, hb, hc⟩ := h.cell hn
    refine ⟨ad, e, hb, fun j hj => (World.cell?_of_block (hg.block _ (by rw [add_block]; omega) (fun e2 => ?_))).trans (hc j hj)⟩
    rw [add_block] at e2
    injection e2 with e2
    exact hne ad e e2⟩
theorem Rd.drew (h : Rd w B A n c bs) : Rd w.drew B A n c bs := ⟨h.len, h.cap, h.no, h.cell⟩
theorem Rd.drewN (h : Rd w B A n c bs) (k : Nat) : Rd (w.drewN k) B A n c bs := ⟨h.len, h.cap, h.no, h.cell⟩
theorem Rd.cutTo {m a : Nat} (h : Rd w B A m c bs) (hk : a + n ≤ m) : Rd w B (A.map (fun x => x.add a)) n (c - a) ((bs.drop a).take n) := by
  have hc := h.cap
  refine ⟨by rw [List.length_take, List.length_drop, h.len]; omega, by omega, ?_, fun hn => ?_⟩
  · intro e
    cases A with
    | none => have := h.no rfl; omega
    | some ad => cases e
  · obtain ⟨ad, rfl, hb, hcell⟩ := h.cell (by omega)
    refine ⟨ad.add a, rfl, by rw [add_block]; exact hb, fun j hj => ?_⟩
    rw [add_add', hcell (a + j) (by omega), List.getD_eq_getElem?_getD, List.getD_eq_getElem?_getD, List.getElem?_take_of_lt hj, List.getElem?_drop]
theorem Rd.cutEnd {m a : Nat} (h : Rd w B A m a bs) (hk : a + n ≤ m) : Rd w B A n 0 ((bs.drop a).take n) := by
  have hc := h.cap
  have hn : n = 0 := by omega
  subst hn
  exact ⟨by simp, by omega, fun _ => rfl, fun h => absurd h (by omega)⟩
theorem Rd.cutHead {m : Nat} (h : Rd w B A m c bs) (hk : n ≤ m) : Rd w B A n c (bs.take n) := by
  have hc := h.cap
  refine ⟨by rw [List.length_take, h.len]; omega, by omega, h.no, fun hn => ?_⟩
  obtain ⟨ad, rfl, hb, hcell⟩ := h.cell (by omega)
  refine ⟨ad, rfl, hb, fun j hj => ?_⟩
  rw [hcell j (by omega), List.getD_eq_getElem?_getD, List.getD_eq_getElem?_getD, List.getElem?_take_of_lt hj]
theorem Rd.nil_ : Rd w B none 0 0 [] := ⟨rfl, Nat.le_refl _, fun _ => rfl, fun h => absurd h (by omega)⟩
theorem Rd.own {base : Nat} {t : TypeId} (h : w.ownsRow base t 1 (.slice A n c) n (bvals bs)) : Rd w w.heap.size A n c bs := by
  have hl : bs.length = n := by have := h.1; simpa [bvals] using this
  have hc : n ≤ c ∧ (A = none → c = 0) := by
    rcases h.2 with ⟨e, h0⟩ | ⟨g, cap, cur, e, _, _, hnc, _⟩
    · injection e with e1 e2 e3
      exact ⟨by omega, fun _ => e3⟩
    · injection e with e1 e2 e3
      exact ⟨by omega, fun hA => by rw [hA] at e1; cases e1⟩
  refine ⟨hl, hc.1, hc.2, fun hn => ?_⟩
  obtain ⟨g, cap, hv, _, hlt⟩ := h.form hn
  have hA : A = some ⟨g, 0, none⟩ := by injection hv
  subst hA
  refine ⟨_, rfl, hlt, fun j hj => ?_⟩
  have := h.cells (g := g) rfl j (bval (bs.getD j 0)) (by
    simp [bvals, List.getD_eq_getElem?_getD, (by omega : j < bs.length)])
  exact this
end

theorem Tryd.infoB : (Tryd.prog.info? 5).map (fun i => (i.zero, i.size, i.bytes)) = some (some (.int .u8 0), 1, 1) := by kernel_rfl

/-- v is a slice of bytes of the call's own (made behind the world w0), it holds bs; of what lay in w0 nothing has turned -/
structure Own (w0 w : World) (v : Value) (bs : List Nat) : Prop where
  row : w.ownsRow w0.heap.size 5 1 v bs.length (bvals bs)
  bel : Below w0.heap.size w0 w

theorem Own.nil_ (w0 w : World) (h : Below w0.heap.size w0 w) : Own w0 w (.slice none 0 0) [] := ⟨World.ownsRow_nil _ _ _ _, h⟩
theorem Own.alloc {w0 w : World} {v : Value} {bs : List Nat} (h : Own w0 w v bs) (o : Obj) : Own w0 (w.alloc o) v bs := ⟨h.row.alloc o, h.bel.alloc h.bel.size o⟩
theorem Own.drewN {w0 w : World} {v : Value} {bs : List Nat} (h : Own w0 w v bs) (n : Nat) : Own w0 (w.drewN n) v bs := ⟨h.row, ⟨h.bel.os, h.bel.tape, h.bel.output, h.bel.size, h.bel.block⟩⟩
theorem Own.drew {w0 w : World} {v : Value} {bs : List Nat} (h : Own w0 w v bs) : Own w0 w.drew v bs := ⟨h.row, h.bel.drew⟩
theorem Own.form {w0 w : World} {v : Value} {bs : List Nat} (h : Own w0 w v bs) : ∃ A c, v = .slice A bs.length c ∧ Rd w w.heap.size A bs.length c bs := by
  rcases h.row.2 with ⟨rfl, h0⟩ | ⟨g, cap, cur, rfl, _⟩
  · have : bs = [] := List.eq_nil_of_length_eq_zero h0
    subst this
    exact ⟨_, _, rfl, Rd.nil_⟩
  · exact ⟨_, _, rfl, Rd.own h.row⟩
theorem Own.lenform {w0 w : World} {v : Value} {bs : List Nat} (h : Own w0 w v bs) {m : Nat} (hl : bs.length = m + 1) : ∃ g c, v = .slice (some ⟨g, 0, none⟩) (m + 1) c := by
  rcases h.row.2 with ⟨rfl, h0⟩ | ⟨g, cap, cur, rfl, _⟩
  · omega
  · exact ⟨g, cap, by rw [hl]⟩
theorem Own.rd {w0 w : World} {A : Option Addr} {n c : Nat} {bs : List Nat} (h : Own w0 w (.slice A n c) bs) : Rd w w.heap.size A n c bs := by
  obtain ⟨A', c', e, hr⟩ := h.form
  injection e with e1 e2 e3
  subst e1 e2 e3
  exact hr
theorem Own.keep {w0 w w2 : World} {v : Value} {bs : List Nat} (h : Own w0 w v bs) (hb : Below w.heap.size w w2) : Own w0 w2 v bs := by
  refine ⟨⟨h.row.1, ?_⟩, h.bel.trans (hb.mono h.bel.size)⟩
  rcases h.row.2 with h1 | ⟨g, cap, cur, hv, hg, hh, r⟩
  · exact .inl h1
  · refine .inr ⟨g, cap, cur, hv, hg, ?_, r⟩
    rw [hb.block g (by
      rcases Nat.lt_or_ge g w.heap.size with hlt | hge
      · exact hlt
      · rw [Array.getElem?_eq_none hge] at hh; cases hh)]
    exact hh
theorem Own.weak {w0 w1 w : World} {v : Value} {bs : List Nat} (h : Own w1 w v bs) (hb : Below w0.heap.size w0 w1) : Own w0 w v bs := by
  refine ⟨⟨h.row.1, ?_⟩, hb.trans (h.bel.mono hb.size)⟩
  rcases h.row.2 with h1 | ⟨g, cap, cur, hv, hg, r⟩
  · exact .inl h1
  · exact .inr ⟨g, cap, cur, hv, Nat.le_trans hb.size hg, r⟩
theorem Rd.one (w : World) (x : Nat) : Rd (w.alloc (.cells #[.int .u8 (x : Int)] 5)) (w.heap.size + 1) (some ⟨w.heap.size, 0, none⟩) 1 1 [x] :=
  ⟨rfl, Nat.le_refl _, fun h => (by cases h), fun _ => ⟨_, rfl, by simp, fun j hj => by
    have : j = 0 := by omega
    subst this
    exact cell_one_new w (.int .u8 (x : Int)) _ 0 _ rfl⟩⟩

theorem two_new {w wr : World} {a b : Value} {t : TypeId} (h : Below (w.alloc (.cells #[a, b] t)).heap.size (w.alloc (.cells #[a, b] t)) wr) :
    wr.cell? ⟨w.heap.size, 0, none⟩ = some a ∧ wr.cell? ⟨w.heap.size, 1, none⟩ = some b ∧ wr.frozen? ⟨w.heap.size, 0, none⟩ = false ∧ wr.frozen? ⟨w.heap.size, 1, none⟩ = false := by
  have hb : w.heap.size < (w.alloc (.cells #[a, b] t)).heap.size := by simp
  refine ⟨?_, ?_, ?_, ?_⟩
  · rw [h.cell (p := ⟨w.heap.size, 0, none⟩) hb]; simp
  · rw [h.cell (p := ⟨w.heap.size, 1, none⟩) hb]; simp
  · rw [h.frozen (p := ⟨w.heap.size, 0, none⟩) hb]; simp
  · rw [h.frozen (p := ⟨w.heap.size, 1, none⟩) hb]; simp
/-- two stores into blocks ahead of the row -/
theorem Own.past2 {w0 w1 w : World} {v : Value} {bs : List Nat} (h : Own w1 w v bs) (hb : Below w0.heap.size w0 w1) {p q : Addr} (h0 : w0.heap.size ≤ p.block) (h1 : p.block < w1.heap.size) (k0 : w0.heap.size ≤ q.block) (k1 : q.block < w1.heap.size) (u u' : Value) :
    Own w0 ((w.setCell p u).setCell q u') v bs := by
  refine ⟨?_, ((hb.trans (h.bel.mono hb.size)).setCell h0 u).setCell k0 u'⟩
  have := ownsRow_setCell_below (ownsRow_setCell_below h.row h1 u) k1 u'
  refine ⟨this.1, ?_⟩
  rcases this.2 with h2 | ⟨g, cap, cur, hv, hg, r⟩
  · exact .inl h2
  · exact .inr ⟨g, cap, cur, hv, Nat.le_trans hb.size hg, r⟩

theorem Own.lit0 {w0 w : World} (h : Below w0.heap.size w0 w) : Own w0 (w.alloc (.cells #[] 5)) (.slice (some ⟨w.heap.size, 0, none⟩) 0 0) [] :=
  ⟨World.ownsRow_lit w #[] 0 h.size (by unfold maxLen; omega) rfl, h.alloc h.size _⟩
set_option maxRecDepth 20000 in
/-- append onto a slice of bytes of the call's own: the run -/
theorem run_app (ty : TypeId) {w0 w : World} {B : Nat} {v : Value} {bs cs : List Nat} {A : Option Addr} {m c : Nat} (hown : Own w0 w v bs) (hr : Rd w B A m c cs) (hm : bs.length + m ≤ 1073741824) :
    ∃ v' w', (Builtin.append_ #[23, 23] ty #[v, .slice A m c]).run Tryd.prog w = .ok v' w' ∧ Own w0 w' v' (bs ++ cs) ∧ w.grownBy w' v.ownBlock := by
  obtain ⟨i0, hi, hz0, hz1, hz2⟩ := info_parts Tryd.infoB
  have hg : ∀ k, v.ownBlock = some k → w0.heap.size ≤ k := fun k hk => (hown.row.lt k hk).1
  cases A with
  | none =>
    have hm0 : m = 0 := by
      rcases Nat.eq_zero_or_pos m with h0 | h0
      · exact h0
      · obtain ⟨ad, e, _⟩ := hr.cell h0
        cases e
    subst hm0
    have hcs : cs = [] := List.eq_nil_of_length_eq_zero hr.len
    subst hcs
    have hc0 : c = 0 := hr.no rfl
    subst hc0
    exact ⟨v, w, run_append_owned_none w w0.heap.size _ ty 5 i0 1 Tryd.underlying23 hi v bs.length (bvals bs) hown.row, by simpa using hown, World.grownBy.refl w _⟩
  | some ad =>
    obtain ⟨v', w', hrun, hown', hgrow, _⟩ := run_append_own (P := Tryd.prog) w w0.heap.size 23 ty 5 i0 (.int .u8 0) 1 1 Tryd.underlying23 hi hz0 hz1 hz2 rfl (by decide) v bs.length (bvals bs) hown.row ad m c (bvals cs)
      (by rw [bvals_length, hr.len]; omega) (by
        intro j u hu
        have hj : j < m := by
          have := List.getElem?_eq_some_iff.1 hu
          obtain ⟨h1, _⟩ := this
          rw [bvals_length, hr.len] at h1
          exact h1
        obtain ⟨ad', e, _, hc⟩ := hr.cell (by omega)
        injection e with e
        subst e
        rw [hc j hj, ← hu]
        have : j < cs.length := by rw [hr.len]; exact hj
        simp [bvals, bval, List.getD_eq_getElem?_getD, this]) (bvals_one cs) (by unfold maxLen; omega) (by omega) hown.bel.size
    refine ⟨v', w', hrun, ⟨?_, hown.bel.grown hgrow hown.bel.size hg⟩, hgrow⟩
    rw [bvals_app, List.length_append, hr.len]
    exact hown'
theorem wp_app {o : Oper} {a : Act} {K : Act → World → Prop} {Q : Exit → Act → World → Prop} (s x : Operand)
    (ho : o.op = .call { callee := .builtin .append, args := #[s, x], argTypes := #[23, 23] })
    {w0 w : World} {B : Nat} {v : Value} {bs cs : List Nat} {A : Option Addr} {m c : Nat} (hs : a.eval s = v) (hx : a.eval x = .slice A m c) (hown : Own w0 w v bs) (hr : Rd w B A m c cs)
    (hm : bs.length + m ≤ 1073741824) (h : ∀ v' w', Own w0 w' v' (bs ++ cs) → w.grownBy w' v.ownBlock → K (a.put o.dst v') w') : o.wp Tryd.prog a w K Q := by
  obtain ⟨v', w', hrun, h1, h2⟩ := run_app o.type hown hr hm
  unfold Oper.wp execOp
  simp only [ho, resolve, invoke, builtin, Sem.run_bind, Sem.run_pure, Result.andThen_ok, List.map_toArray, List.map_cons, List.map_nil, hs, hx, hrun]
  exact h v' w' h1 h2
/-- at a step of a region that draws its order -/
theorem step_app {ops : Array Oper} {o : Oper} {a : Act} {K : Act → World → Prop} {Q : Exit → Act → World → Prop} {E : Prop} (hgd : o.guard = none) (s x : Operand)
    (ho : o.op = .call { callee := .builtin .append, args := #[s, x], argTypes := #[23, 23] })
    {w0 w : World} {B : Nat} {v : Value} {bs cs : List Nat} {A : Option Addr} {m c : Nat} (hs : a.eval s = v) (hx : a.eval x = .slice A m c) (hown : Own w0 w v bs) (hr : Rd w B A m c cs)
    (hm : bs.length + m ≤ 1073741824) (h : ∀ v' w', Own w0 w' v' (bs ++ cs) → w.grownBy w' v.ownBlock → K (a.put o.dst v') w') :
    if Region.wanted o (yielded ops a.tmps) = true then Oper.wp Tryd.prog o a w K Q else E := by
  have hw : Region.wanted o (yielded ops a.tmps) = true := by simp [Region.wanted, hgd]
  rw [if_pos hw]
  exact wp_app s x ho hs hx hown hr hm h
/-- in a plain region -/
theorem wpList_app {ops : Array Oper} {rest : List Oper} {o : Oper} {a : Act} {Q : Exit → Act → World → Prop} (hgd : o.guard = none) (s x : Operand)
    (ho : o.op = .call { callee := .builtin .append, args := #[s, x], argTypes := #[23, 23] })
    {w0 w : World} {B : Nat} {v : Value} {bs cs : List Nat} {A : Option Addr} {m c : Nat} (hs : a.eval s = v) (hx : a.eval x = .slice A m c) (hown : Own w0 w v bs) (hr : Rd w B A m c cs)
    (hm : bs.length + m ≤ 1073741824)
    (h : ∀ v' w', Own w0 w' v' (bs ++ cs) → wpList Tryd.prog ops Q rest (a.put o.dst v') w') : wpList Tryd.prog ops Q (o :: rest) a w :=
  wpList_plain hgd fun _ hK => wp_app s x ho hs hx hown hr hm fun v' w' h2 _ => hK _ _ (h v' w' h2)

section
variable {w0 w : World} {g n c : Nat} {bs : List Nat}
theorem Own.len (h : Own w0 w (.slice (some ⟨g, 0, none⟩) n c) bs) : bs.length = n := h.rd.len
theorem Own.cell (h : Own w0 w (.slice (some ⟨g, 0, none⟩) n c) bs) (j : Nat) (hj : j < n) : w.cell? ⟨g, j, none⟩ = some (.int .u8 ((bs.getD j 0 : Nat) : Int)) := by
  have hl := h.len
  subst hl
  rw [h.row.cellAt j (by omega)]
  simp [bvals, bval, List.getD_eq_getElem?_getD, hj]
theorem Own.free (h : Own w0 w (.slice (some ⟨g, 0, none⟩) n c) bs) (j : Nat) : w.frozen? ⟨g, j, none⟩ = false := by
  have hl := h.len
  subst hl
  exact h.row.frozenAt j
theorem Own.at_ (h : Own w0 w (.slice (some ⟨g, 0, none⟩) n c) bs) : 0 < n → w0.heap.size ≤ g := fun hn => by
  have hl := h.len
  subst hl
  exact (h.row.lt g rfl).1
theorem Own.from_ (h : Own w0 w (.slice (some ⟨g, 0, none⟩) n c) bs) : w0.heap.size ≤ g := by
  have hl := h.len
  subst hl
  exact (h.row.lt g rfl).1
theorem Own.set (h : Own w0 w (.slice (some ⟨g, 0, none⟩) n c) bs) (j x : Nat) : Own w0 (w.setCell ⟨g, j, none⟩ (.int .u8 (x : Int))) (.slice (some ⟨g, 0, none⟩) n c) (bs.set j x) := by
  have hl := h.len
  subst hl
  have h1 := h.row.stored j (.int .u8 (x : Int))
  refine ⟨?_, h.bel.grown h1.2 h.bel.size (fun k hk => by injection hk with hk; subst hk; exact h.from_)⟩
  have e : bvals (bs.set j x) = (bvals bs).set j (.int .u8 (x : Int)) := by simp [bvals, bval, List.map_set]
  rw [e, List.length_set]
  exact h1.1
end

/-- make of a slice of bytes -/
theorem wpList_mk {ops : Array Oper} {rest : List Oper} {o : Oper} {a : Act} {Q : Exit → Act → World → Prop} (hgd : o.guard = none) (l r : Operand)
    (ho : o.op = Op.makeSlice 23 l r) {w0 w : World} (hb : Below w0.heap.size w0 w) {L C : Int} (n : Nat) (hl : a.eval l = .int .i64 L) (hr : a.eval r = .int .i64 C) (hL : L = (n : Int)) (hC : C = (n : Int)) (hn : n ≤ 1073741824)
    (h : ∀ w', Own w0 w' (.slice (some ⟨w.heap.size, 0, none⟩) n n) (List.replicate n 0) → Below w.heap.size w w' → wpList Tryd.prog ops Q rest (a.put o.dst (.slice (some ⟨w.heap.size, 0, none⟩) n n)) w') :
    wpList Tryd.prog ops Q (o :: rest) a w := by
  obtain ⟨i0, hi, hz0, hz1, hz2⟩ := info_parts Tryd.infoB
  refine wpList_make_full w hgd l r _ ho w0.heap.size 5 i0 (.int .u8 0) 1 Tryd.underlying23 hi hz0 hz1 .i64 .i64 L C n hl hr hL hC (by rw [hz2]; omega) (by unfold maxLen; omega) hb.size ?_
  intro w' hown hgrow
  have e : (madeCells (Value.int .u8 0).cells (n * 1)).toList = bvals (List.replicate n 0) := by
    have := toList_madeCells_one (.int .u8 0) (n * 1)
    rw [Nat.mul_one] at this ⊢
    simpa [bvals, bval, Value.cells] using this
  rw [e] at hown
  refine h w' ⟨by rw [List.length_replicate]; exact hown, hb.grown hgrow hb.size (fun k hk => by cases hk)⟩ ?_
  exact (Below.refl _ _).grown hgrow (Nat.le_refl _) (fun k hk => by cases hk)

theorem Own.whole {w0 w : World} {g n : Nat} {bs : List Nat} (h : Own w0 w (.slice (some ⟨g, 0, none⟩) n n) bs) : w.heap[g]? = some (.cells (bvals bs).toArray 5 (0, 0)) := by
  have hl := h.len
  rcases h.row.2 with ⟨e, _⟩ | ⟨g', cap, cur, e, _, hh, _, _, hs, ht⟩
  · cases e
  · injection e with e1 e2 e3
    injection e1 with e1
    injection e1 with e1
    subst e1
    have : cur.toList = bvals bs := by rw [← ht, List.take_of_length_le (by rw [Array.length_toList]; omega)]
    rw [hh, ← this]
theorem Own.ofWhole {w0 w : World} {g n : Nat} {bs : List Nat} (hw : w.heap[g]? = some (.cells (bvals bs).toArray 5 (0, 0))) (hb : Below w0.heap.size w0 w) (hg : w0.heap.size ≤ g) (hl : bs.length = n) (hn : n ≤ maxLen) : Own w0 w (.slice (some ⟨g, 0, none⟩) n n) bs := by
  subst hl
  exact ⟨⟨by simp [bvals], .inr ⟨g, bs.length, _, rfl, hg, hw, Nat.le_refl _, hn, by simp [bvals], by simp [bvals, List.take_of_length_le]⟩⟩, hb⟩
/-- copy onto the head of a slice of bytes that was just made -/
theorem wpList_cp {ops : Array Oper} {rest : List Oper} {o : Oper} {a : Act} {Q : Exit → Act → World → Prop} (hgd : o.guard = none) (d s : Operand)
    (ho : o.op = .call { callee := .builtin .copy, args := #[d, s], argTypes := #[23, 23] })
    {w0 w : World} {B g n m c : Nat} {A : Option Addr} {bs cs : List Nat} (hd : a.eval d = .slice (some ⟨g, 0, none⟩) n n) (hs : a.eval s = .slice A m c)
    (hown : Own w0 w (.slice (some ⟨g, 0, none⟩) n n) bs) (hr : Rd w B A m c cs) (hmn : m ≤ n) (hn : n ≤ 1073741824)
    (h : ∀ w', Own w0 w' (.slice (some ⟨g, 0, none⟩) n n) (cs ++ bs.drop m) → wpList Tryd.prog ops Q rest (a.put o.dst (goInt m)) w') : wpList Tryd.prog ops Q (o :: rest) a w := by
  have hl := hown.len
  have hlc : (bvals cs).length = m := by rw [bvals_length, hr.len]
  refine wpList_copy_splice hgd d s _ _ ho 5 Tryd.underlying23 (by
      obtain ⟨i0, hi, hz0, hz1, hz2⟩ := info_parts Tryd.infoB
      rw [hi]; simp [hz1]) (some ⟨g, 0, none⟩) A n n m c hd hs g 0 (bvals bs) 5 hown.whole (bvals cs) (by rw [hlc]; exact (Nat.min_eq_left hmn).symm) ?_ (by rw [hlc, bvals_length]; omega) (bvals_one cs) w0.heap.size w0 hown.bel hown.from_ ?_
  · intro hpos
    rw [hlc] at hpos
    obtain ⟨ad, e, _, hc⟩ := hr.cell hpos
    refine ⟨rfl, ad, e, fun j v hj => ?_⟩
    have hj' : j < cs.length := by
      have := (List.getElem?_eq_some_iff.1 hj).1
      rwa [bvals_length] at this
    rw [hc j (by rw [← hr.len]; exact hj'), ← hj]
    simp [bvals, bval, List.getD_eq_getElem?_getD, hj']
  · intro w' hw' hb'
    rw [hlc]
    refine h w' (Own.ofWhole ?_ hb' hown.from_ (by rw [List.length_append, List.length_drop, hr.len, hl]; omega) (by unfold maxLen; omega))
    have e : splice (bvals bs) 0 (bvals cs) = bvals (cs ++ bs.drop m) := by
      unfold splice
      rw [hlc]
      simp [bvals, List.map_drop]
    rw [← e]
    exact hw'.out

/-- what a function that makes bytes comes to -/
def RetB (w : World) (bs : List Nat) (e : Ending) (w' : World) : Prop := ∃ A c, e = .returned (.slice A bs.length c) ∧ Own w w' (.slice A bs.length c) bs
theorem RetB.mk {w w' : World} {v : Value} {bs : List Nat} (h : Own w w' v bs) : RetB w bs (.returned v) w' := by
  obtain ⟨A, c, rfl, _⟩ := h.form
  exact ⟨A, c, rfl, h⟩

/-- bytes as a string -/
def strB (bs : List Nat) : ByteArray := ⟨(bs.map UInt8.ofNat).toArray⟩
theorem run_str {w : World} {B n c : Nat} {A : Option Addr} {bs : List Nat} (h : Rd w B A n c bs) : (convert 23 9 (.slice A n c)).run Tryd.prog w = .ok (.string (strB bs)) w := by
  rw [run_convert_bytes_string w _ _ 5 _ n c Tryd.underlying23 Tryd.underlying5 Tryd.underlying9]
  cases A with
  | none =>
    have h0 := h.no rfl
    have h1 := h.cap
    have : bs = [] := List.eq_nil_of_length_eq_zero (by have := h.len; omega)
    subst this
    simp [Conv.bytesToString, strB]
    rfl
  | some ad =>
    have hl : (loadCells ad n).run Tryd.prog w = .ok ((bs.map fun x : Nat => (x : Int)).map (Value.int .u8)).toArray w := by
      have := run_loadCells_list (P := Tryd.prog) w ad ((bs.map fun x : Nat => (x : Int)).map (Value.int .u8)) (fun j v hj => by
        have hjl : j < bs.length := by
          have := (List.getElem?_eq_some_iff.1 hj).1
          simpa using this
        obtain ⟨ad', e, _, hc⟩ := h.cell (by have := h.len; omega)
        injection e with e
        subst e
        rw [hc j (by rw [← h.len]; exact hjl), ← hj]
        simp [List.getD_eq_getElem?_getD, hjl])
      simpa [h.len] using this
    rw [run_bytesToString w _ n c _ hl, foldl_push_bytes]
    simp [strB, ByteArray.empty, ByteArray.emptyWithCapacity]
    congr 3

theorem below_like {B : Nat} {a a' w : World} (h : Below B a w) (e1 : a.os = a'.os) (e2 : a.tape = a'.tape) (e3 : a.output = a'.output) (e4 : a.heap = a'.heap) : Below B a' w :=
  ⟨h.os.trans e1, h.tape.trans e2, h.output.trans e3, by rw [← e4]; exact h.size, fun k hk => by rw [← e4]; exact h.block k hk⟩

theorem undrew {B : Nat} {a w : World} (h : Below B a.drew w) : Below B a w := below_like h rfl rfl rfl rfl

theorem enc_length (p : List Bool) : (enc p).length = p.length := by simp [enc]
theorem enc_getD (p : List Bool) (i : Nat) : (enc p).getD i 0 = (p.getD i false).toNat := by
  simp only [enc, List.getD_eq_getElem?_getD, List.getElem?_map]
  cases p[i]? <;> rfl
theorem enc_cut (p : List Bool) (a n : Nat) : ((enc p).drop a).take n = enc (cut p a n) := by simp [enc, cut]
theorem enc_take (p : List Bool) (n : Nat) : (enc p).take n = enc (p.take n) := by simp [enc]
theorem enc_app (p q : List Bool) : enc (p ++ q) = enc p ++ enc q := by simp [enc]

end Go.Proofs.YtcnhoohcdkfgkaaDoor

/-
  The contracts of the program's size and lowest: the bytes that bits need; the n lowest bits of a number as bits.
-/
namespace Go.Proofs.YtcnhoohcdkfgkaaDoor
open Go.RowKit

theorem size_any (n : Nat) (w : World) (hn : n ≤ 100000000) :
    Calls Tryd.prog 35 #[.int .i64 (n : Int)] w fun e w' => e = .returned (.int .i64 (((n + 7) / 8 : Nat) : Int)) ∧ w = w' := by
  go_enter Tryd.func35, Tryd.ntmps35
  go_wp2
  go_ret
  exact ⟨rfl, rfl⟩

/-- what a function that makes bits comes to -/
def RetBits (w : World) (p : List Bool) (e : Ending) (w' : World) : Prop :=
  ∃ A c, e = .returned (.agg #[.slice A (pack p).length c, .int .i64 ((p.length : Nat) : Int)]) ∧ Own w w' (.slice A (pack p).length c) (pack p)

theorem RetBits.mk {w w' : World} {A : Option Addr} {m n c : Nat} {p : List Bool} (h : Own w w' (.slice A m c) (pack p)) (hn : p.length = n) : RetBits w p (.returned (.agg #[.slice A m c, .int .i64 (n : Int)])) w' := by
  have hl := h.rd.len
  subst hl hn
  exact ⟨A, c, rfl, h⟩

/-- the i-th byte of a number of 64 bits -/
def byteOf64 (V i : Nat) : Nat := V / 2 ^ (56 - 8 * i) % 256
def bytesTo (V m k : Nat) : List Nat := (List.range m).map fun i => if i < k then byteOf64 V i else 0
theorem bytesTo_zero (V m : Nat) : List.replicate m 0 = bytesTo V m 0 := by
  apply getD_extN (by simp [bytesTo])
  intro i hi
  have hi' : i < m := by simpa using hi
  simp [bytesTo, List.getD_eq_getElem?_getD, hi']
theorem bytesTo_succ (V m k : Nat) : (bytesTo V m k).set k (byteOf64 V k) = bytesTo V m (k + 1) := by
  apply getD_extN (by simp [bytesTo])
  intro i hi
  have hi' : i < m := by simpa [bytesTo] using hi
  by_cases e : k = i
  · subst e
    simp [bytesTo, List.getD_eq_getElem?_getD, hi']
  · have e3 : (i < k + 1) ↔ (i < k) := by omega
    simp [bytesTo, List.getD_eq_getElem?_getD, hi', e, e3]
theorem bytesTo_all (v n : Nat) (hn : n ≤ 64) : bytesTo (v * 2 ^ (64 - n) % 2 ^ 64) ((n + 7) / 8) ((n + 7) / 8) = pack (low v n) := by
  apply eq_pack
  · intro x hx
    simp only [bytesTo, List.mem_map, List.mem_range] at hx
    obtain ⟨i, hi, rfl⟩ := hx
    rw [if_pos hi]
    unfold byteOf64
    omega
  · simp [bytesTo, low_length]
  · intro i hi
    simp only [bytesTo, List.length_map, List.length_range] at hi
    have h8 : i / 8 < (n + 7) / 8 := by omega
    have e : (bytesTo (v * 2 ^ (64 - n) % 2 ^ 64) ((n + 7) / 8) ((n + 7) / 8)).getD (i / 8) 0 = byteOf64 (v * 2 ^ (64 - n) % 2 ^ 64) (i / 8) := by
      simp [bytesTo, List.getD_eq_getElem?_getD, h8]
    unfold bit
    rw [e]
    unfold byteOf64
    rw [show (256 : Nat) = 2 ^ 8 from rfl, Nat.testBit_mod_two_pow, Nat.testBit_div_two_pow, Nat.testBit_mod_two_pow, Nat.mul_comm v, Nat.testBit_two_pow_mul]
    have h7 : 7 - i % 8 < 8 := by omega
    have h64 : 7 - i % 8 + (56 - 8 * (i / 8)) < 64 := by omega
    by_cases h : i < n
    · rw [low_getD _ _ _ h]
      have h1 : 64 - n ≤ 7 - i % 8 + (56 - 8 * (i / 8)) := by omega
      have h2 : 7 - i % 8 + (56 - 8 * (i / 8)) - (64 - n) = n - 1 - i := by omega
      simp [h7, h64, h1, h2]
    · have h1 : ¬ 64 - n ≤ 7 - i % 8 + (56 - 8 * (i / 8)) := by omega
      rw [List.getD_eq_getElem?_getD, List.getElem?_eq_none (by rw [low_length]; omega)]
      simp [h1]
theorem shl_wrap (v s : Nat) : IntKind.u64.wrap ((v : Int) * 2 ^ s) = ((v * 2 ^ s % 2 ^ 64 : Nat) : Int) := by
  have e : ∀ x : Int, IntKind.u64.wrap x = x % 18446744073709551616 := by intro x; simp [IntKind.wrap, IntKind.bits, IntKind.signed]
  rw [e]
  simp

set_option maxRecDepth 20000 in
set_option maxHeartbeats 400000 in
theorem lowest_any (v n : Nat) (w : World) (hn : n ≤ 64) :
    Calls Tryd.prog 57 #[.int .u64 (v : Int), .int .i64 (n : Int)] w (RetBits w (low v n)) := by
  go_enter Tryd.func57, Tryd.ntmps57
  go_wp2_with (first
    | (go_at_call 35; refine (size_any _ _ (by omega)).mono ?_; rintro e w1 ⟨rfl, rfl⟩)
    | (at_make; (refine wpList_mk rfl (.tmp 12) (.tmp 12) rfl (Below.refl _ _) ((n + 7) / 8) rfl rfl rfl rfl (by omega) ?_; intro w1 hown hb1)))
  rw [shl_wrap]
  have hV : v * 2 ^ (64 - n) % 2 ^ 64 ≤ 18446744073709551615 := by omega
  have HA := Lib.hid (bytesTo_all v n hn)
  generalize v * 2 ^ (64 - n) % 2 ^ 64 = V at *
  rw [bytesTo_zero V] at hown
  have hown : Own (w.alloc (.cells #[.slice none 0 0, .int .i64 0] 34)) w1 (.slice (some ⟨w.heap.size + 1, 0, none⟩) ((n + 7) / 8) ((n + 7) / 8)) (bytesTo V ((n + 7) / 8) 0) := by simpa using hown
  go_loopw [16] (fun i wr => ∃ k : Nat, k ≤ (n + 7) / 8 ∧ i = .int .i64 k ∧ Own (w.alloc (.cells #[.slice none 0 0, .int .i64 0] 34)) wr (.slice (some ⟨w.heap.size + 1, 0, none⟩) ((n + 7) / 8) ((n + 7) / 8)) (bytesTo V ((n + 7) / 8) k)) (fun i _ => (n + 7) / 8 - (intOf i).toNat)
  case atStart => exact ⟨0, by omega, rfl, hown⟩
  case round =>
    clear hown
    obtain ⟨k, hk, rfl, hown⟩ := hrel
    by_cases hlt : k < (n + 7) / 8
    · have hc := hown.cell k hlt
      have hf := hown.free k
      have H1 := Lib.hid (bytesTo_succ V ((n + 7) / 8) k)
      generalize (bytesTo V ((n + 7) / 8) k).getD k 0 = y at *
      go_wp2
      go_roundw
      case rel =>
        have h3 := hown.set k (byteOf64 V k)
        rw [H1.out] at h3
        refine ⟨k + 1, by omega, by go_num, ?_⟩
        exact h3
      case measure => simp [intOf]; omega
    · obtain ⟨c0, c1, f0, f1⟩ := two_new hown.bel
      go_wp2
      have e : k = (n + 7) / 8 := by omega
      subst e
      rw [HA.out] at hown
      exact bodyPost_ret (v := .agg #[.slice (some ⟨w.heap.size + 1, 0, none⟩) ((n + 7) / 8) ((n + 7) / 8), .int .i64 (n : Int)]) (by simp [results, Tryd.results57, go_sem, c0, c1]) rfl
        (RetBits.mk (hown.past2 ((Below.refl _ _).alloc (Nat.le_refl _) _) (Nat.le_refl _) (by simp) (Nat.le_refl _) (by simp) _ _) (low_length v n))

end Go.Proofs.YtcnhoohcdkfgkaaDoor

/-
  The contract of the program's Join: bits, and others behind them, in new memory.
-/
namespace Go.Proofs.YtcnhoohcdkfgkaaDoor
open Go.RowKit

/-- m bytes of bits -/
def padTo (m : Nat) (r : List Bool) : List Nat := (List.range m).map fun t => byteAt r (8 * t)
theorem padTo_length (m : Nat) (r : List Bool) : (padTo m r).length = m := by simp [padTo]
theorem padTo_lt (m : Nat) (r : List Bool) : ∀ x ∈ padTo m r, x < 256 := by
  intro x hx
  simp only [padTo, List.mem_map] at hx
  obtain ⟨k, _, rfl⟩ := hx
  exact byteAt_lt _ _
theorem padTo_getD (m : Nat) (r : List Bool) (t : Nat) (h : t < m) : (padTo m r).getD t 0 = byteAt r (8 * t) := by simp [padTo, List.getD_eq_getElem?_getD, h]
theorem padTo_bit (m : Nat) (r : List Bool) (i : Nat) (h : i < 8 * m) : bit (padTo m r) i = r.getD i false := by
  unfold bit
  rw [padTo_getD _ _ _ (by omega), byteAt_testBit _ _ _ (by omega)]
  congr 1
  omega
theorem padTo_all (p q : List Bool) : padTo ((p.length + q.length + 7) / 8) (p ++ (flat (pack q)).take (8 * ((q.length + 7) / 8))) = pack (p ++ q) := by
  apply eq_pack (padTo_lt _ _)
  · rw [padTo_length, List.length_append]
  · intro i hi
    rw [padTo_length] at hi
    rw [padTo_bit _ _ _ hi, List.take_of_length_le (by rw [flat_length, pack_length]; omega), List.getD_eq_getElem?_getD, List.getD_eq_getElem?_getD]
    by_cases h : i < p.length
    · rw [List.getElem?_append_left h, List.getElem?_append_left h]
    · rw [List.getElem?_append_right (by omega), List.getElem?_append_right (by omega), ← List.getD_eq_getElem?_getD, flat_getD, bit_pack, List.getD_eq_getElem?_getD]
theorem padTo_start (p : List Bool) (m : Nat) (h : (p.length + 7) / 8 ≤ m) : pack p ++ List.replicate (m - (p.length + 7) / 8) 0 = padTo m p := by
  apply bytes_ext
  · intro x hx
    rcases List.mem_append.1 hx with h | h
    · exact pack_lt p x h
    · have := List.eq_of_mem_replicate h; omega
  · exact padTo_lt _ _
  · rw [List.length_append, pack_length, List.length_replicate, padTo_length]; omega
  · intro i hi
    rw [List.length_append, pack_length, List.length_replicate] at hi
    rw [padTo_bit _ _ _ (by omega), ← bit_pack]
    unfold bit
    congr 1
    rw [List.getD_eq_getElem?_getD, List.getD_eq_getElem?_getD]
    by_cases h2 : i / 8 < (pack p).length
    · rw [List.getElem?_append_left h2]
    · rw [List.getElem?_append_right (by omega), List.getElem?_eq_none (by omega : (pack p).length ≤ i / 8)]
      simp only [List.getElem?_replicate]
      split <;> rfl
theorem set_getD (l : List Nat) (k m x : Nat) (hm : m < l.length) : (l.set k x).getD m 0 = if k = m then x else l.getD m 0 := by
  rw [List.getD_eq_getElem?_getD, List.getElem?_set, List.getD_eq_getElem?_getD]
  split
  · subst k; simp [hm]
  · rfl
theorem getD_app (p r : List Bool) (i : Nat) : (p ++ r).getD i false = if i < p.length then p.getD i false else r.getD (i - p.length) false := by
  rw [List.getD_eq_getElem?_getD]
  split
  · rw [List.getElem?_append_left (by assumption), List.getD_eq_getElem?_getD]
  · rw [List.getElem?_append_right (by omega), List.getD_eq_getElem?_getD]
theorem getD_take (r : List Bool) (n i : Nat) : (r.take n).getD i false = if i < n then r.getD i false else false := by
  rw [List.getD_eq_getElem?_getD]
  split
  · rw [List.getElem?_take_of_lt (by assumption), List.getD_eq_getElem?_getD]
  · rw [List.getElem?_eq_none (by rw [List.length_take]; omega)]; rfl
theorem testBit_big {y j : Nat} (hy : y < 256) (hj : 8 ≤ j) : y.testBit j = false := by
  apply Nat.testBit_lt_two_pow
  have := Nat.pow_le_pow_right (n := 2) (by omega) hj
  omega
/-- one round -/
def joinRound (m a s k y : Nat) (l : List Nat) : List Nat :=
  let l1 := l.set (a + k) (l.getD (a + k) 0 ||| y / 2 ^ s)
  if a + k + 1 < m then l1.set (a + k + 1) (y * 2 ^ (8 - s) % 256) else l1
theorem join_step (m : Nat) (p : List Bool) (ys : List Nat) (hy : ∀ x ∈ ys, x < 256) (k : Nat) (hm : p.length / 8 + k < m) :
    joinRound m (p.length / 8) (p.length % 8) k (ys.getD k 0) (padTo m (p ++ (flat ys).take (8 * k))) = padTo m (p ++ (flat ys).take (8 * (k + 1))) := by
  have hlt := getD_lt hy k
  have hbit : ∀ r, r < 8 → bit ys (8 * k + r) = (ys.getD k 0).testBit (7 - r) := by
    intro r hr
    unfold bit
    have e1 : (8 * k + r) / 8 = k := by omega
    have e2 : (8 * k + r) % 8 = r := by omega
    rw [e1, e2]
  generalize hs : p.length % 8 = s at *
  generalize ha : p.length / 8 = a at *
  generalize ys.getD k 0 = y at *
  have hold : ∀ i, i < 8 * m → bit (padTo m (p ++ (flat ys).take (8 * k))) i = if i < 8 * (a + k) + s then (p ++ flat ys).getD i false else false := by
    intro i hi
    rw [padTo_bit _ _ _ hi, getD_app, getD_take, getD_app]
    split
    · rw [if_pos (by omega)]
    · split
      · rw [if_pos (by omega)]
      · rw [if_neg (by omega)]
  have hnew : ∀ i, i < 8 * m → bit (padTo m (p ++ (flat ys).take (8 * (k + 1)))) i = if i < 8 * (a + k + 1) + s then (p ++ flat ys).getD i false else false := by
    intro i hi
    rw [padTo_bit _ _ _ hi, getD_app, getD_take, getD_app]
    split
    · rw [if_pos (by omega)]
    · split
      · rw [if_pos (by omega)]
      · rw [if_neg (by omega)]
  have hmid : ∀ r, r < 8 → (p ++ flat ys).getD (8 * (a + k) + s + r) false = y.testBit (7 - r) := by
    intro r hr
    rw [getD_app, if_neg (by omega), flat_getD, ← hbit r hr]
    congr 1
    omega
  have hb0 := padTo_lt m (p ++ (flat ys).take (8 * k))
  have hl0 := padTo_length m (p ++ (flat ys).take (8 * k))
  generalize padTo m (p ++ (flat ys).take (8 * k)) = l at *
  have ho : l.getD (a + k) 0 ||| y / 2 ^ s < 256 := Nat.or_lt_two_pow (n := 8) (getD_lt hb0 _) (Nat.lt_of_le_of_lt (Nat.div_le_self _ _) hlt)
  unfold joinRound
  apply bytes_ext
  · intro x hx
    dsimp only at hx
    split at hx
    · rcases List.mem_or_eq_of_mem_set hx with h | h
      · rcases List.mem_or_eq_of_mem_set h with h | h
        · exact hb0 x h
        · omega
      · omega
    · rcases List.mem_or_eq_of_mem_set hx with h | h
      · exact hb0 x h
      · omega
  · exact padTo_lt _ _
  · dsimp only
    rw [padTo_length]
    split <;> simp [hl0]
  · intro i hi
    have hi : i < 8 * m := by
      dsimp only at hi
      split at hi <;> simpa [hl0] using hi
    rw [hnew i hi]
    have h1 : ∀ l' : List Nat, l' = l.set (a + k) (l.getD (a + k) 0 ||| y / 2 ^ s) → l'.getD (i / 8) 0 = if a + k = i / 8 then l.getD (a + k) 0 ||| y / 2 ^ s else l.getD (i / 8) 0 := by
      rintro l' rfl
      rw [set_getD _ _ _ _ (by omega)]
    have hob := hold i hi
    unfold bit at hob
    by_cases e1 : a + k = i / 8
    · -- the byte into which bits are put
      have e : (if a + k + 1 < m then (l.set (a + k) (l.getD (a + k) 0 ||| y / 2 ^ s)).set (a + k + 1) (y * 2 ^ (8 - s) % 256) else l.set (a + k) (l.getD (a + k) 0 ||| y / 2 ^ s)).getD (i / 8) 0 = l.getD (a + k) 0 ||| y / 2 ^ s := by
        split
        · rw [set_getD _ _ _ _ (by rw [List.length_set]; omega), if_neg (by omega), h1 _ rfl, if_pos e1]
        · rw [h1 _ rfl, if_pos e1]
      have hob' : (l.getD (a + k) 0).testBit (7 - i % 8) = if i < 8 * (a + k) + s then (p ++ flat ys).getD i false else false := by
        rw [← e1] at hob
        exact hob
      unfold bit
      rw [e, Nat.testBit_or, hob', Nat.testBit_div_two_pow]
      by_cases h2 : i < 8 * (a + k) + s
      · rw [if_pos h2, if_pos (by omega), testBit_big hlt (by omega)]
        simp
      · rw [if_neg h2, if_pos (by omega)]
        have := hmid (i - (8 * (a + k) + s)) (by omega)
        rw [show 8 * (a + k) + s + (i - (8 * (a + k) + s)) = i from by omega] at this
        rw [this, Bool.false_or]
        congr 1
        omega
    · by_cases e2 : a + k + 1 = i / 8
      · have e : (if a + k + 1 < m then (l.set (a + k) (l.getD (a + k) 0 ||| y / 2 ^ s)).set (a + k + 1) (y * 2 ^ (8 - s) % 256) else l.set (a + k) (l.getD (a + k) 0 ||| y / 2 ^ s)).getD (i / 8) 0 = y * 2 ^ (8 - s) % 256 := by
          rw [if_pos (by omega), set_getD _ _ _ _ (by rw [List.length_set]; omega), if_pos e2]
        unfold bit
        rw [e, show (256 : Nat) = 2 ^ 8 from rfl, Nat.testBit_mod_two_pow, Nat.mul_comm y, Nat.testBit_two_pow_mul]
        by_cases h2 : i < 8 * (a + k + 1) + s
        · rw [if_pos h2]
          have := hmid (i - (8 * (a + k) + s)) (by omega)
          rw [show 8 * (a + k) + s + (i - (8 * (a + k) + s)) = i from by omega] at this
          rw [this]
          have h3 : 7 - i % 8 < 8 := by omega
          have h4 : 8 - s ≤ 7 - i % 8 := by omega
          have h5 : 7 - i % 8 - (8 - s) = 7 - (i - (8 * (a + k) + s)) := by omega
          simp [h3, h4, h5]
        · rw [if_neg h2]
          have h4 : ¬ 8 - s ≤ 7 - i % 8 := by omega
          simp [h4]
      · have e : (if a + k + 1 < m then (l.set (a + k) (l.getD (a + k) 0 ||| y / 2 ^ s)).set (a + k + 1) (y * 2 ^ (8 - s) % 256) else l.set (a + k) (l.getD (a + k) 0 ||| y / 2 ^ s)).getD (i / 8) 0 = l.getD (i / 8) 0 := by
          split
          · rw [set_getD _ _ _ _ (by rw [List.length_set]; omega), if_neg e2, h1 _ rfl, if_neg e1]
          · rw [h1 _ rfl, if_neg e1]
        unfold bit
        rw [e, hob]
        by_cases h2 : i < 8 * (a + k) + s
        · rw [if_pos h2, if_pos (by omega)]
        · rw [if_neg h2, if_neg (by omega)]

theorem joinRound_big {m a s k y : Nat} {l : List Nat} (h : a + k + 1 < m) : joinRound m a s k y l = (l.set (a + k) (l.getD (a + k) 0 ||| y / 2 ^ s)).set (a + k + 1) (y * 2 ^ (8 - s) % 256) := by
  unfold joinRound
  exact if_pos h
theorem joinRound_end {m a s k y : Nat} {l : List Nat} (h : ¬ a + k + 1 < m) : joinRound m a s k y l = l.set (a + k) (l.getD (a + k) 0 ||| y / 2 ^ s) := by
  unfold joinRound
  exact if_neg h
theorem or8 (o y s : Nat) (ho : o < 256) (hy : y < 256) : bits .or .u8 (o : Int) ((y : Int) / 2 ^ s) = ((o ||| y / 2 ^ s : Nat) : Int) := by
  have e1 : ((y : Int) / 2 ^ s) = ((y / 2 ^ s : Nat) : Int) := by simp
  rw [e1, u8_or_nat _ _ ho (Nat.lt_of_le_of_lt (Nat.div_le_self _ _) hy)]

/-- the world behind two boxes and the result's place -/
def boxed (w : World) (a b c d : Value) : World := ((w.alloc (.cells #[a, b] 34)).alloc (.cells #[c, d] 34)).alloc (.cells #[.slice none 0 0, .int .i64 0] 34)
theorem boxed_size (w : World) (a b c d : Value) : (boxed w a b c d).heap.size = w.heap.size + 3 := by simp [boxed]
theorem boxed_below (w : World) (a b c d : Value) : Below w.heap.size w (boxed w a b c d) :=
  (((Below.refl _ _).alloc (Nat.le_refl _) _).alloc (by simp) _).alloc (by simp; omega) _
theorem boxed_heap (w : World) (a b c d : Value) : (boxed w a b c d).heap[w.heap.size]? = some (.cells #[a, b] 34 (0, 0)) ∧ (boxed w a b c d).heap[w.heap.size + 1]? = some (.cells #[c, d] 34 (0, 0)) ∧
    (boxed w a b c d).heap[w.heap.size + 2]? = some (.cells #[.slice none 0 0, .int .i64 0] 34 (0, 0)) := by
  unfold boxed
  refine ⟨?_, ?_, ?_⟩
  · rw [Below.heap_alloc _ _ _ (by simp; omega), Below.heap_alloc _ _ _ (by simp)]
    exact heap_alloc_new w _
  · rw [Below.heap_alloc _ _ _ (by simp)]
    have := heap_alloc_new (w.alloc (.cells #[a, b] 34)) (.cells #[c, d] 34)
    simpa using this
  · have := heap_alloc_new ((w.alloc (.cells #[a, b] 34)).alloc (.cells #[c, d] 34)) (.cells #[.slice none 0 0, .int .i64 0] 34)
    simpa using this
theorem boxed_cells {w wx : World} {a b c d : Value} (h : Below (boxed w a b c d).heap.size (boxed w a b c d) wx) :
    (wx.cell? ⟨w.heap.size, 0, none⟩ = some a ∧ wx.cell? ⟨w.heap.size, 1, none⟩ = some b) ∧ (wx.cell? ⟨w.heap.size + 1, 0, none⟩ = some c ∧ wx.cell? ⟨w.heap.size + 1, 1, none⟩ = some d) ∧
    (wx.cell? ⟨w.heap.size + 2, 0, none⟩ = some (.slice none 0 0) ∧ wx.cell? ⟨w.heap.size + 2, 1, none⟩ = some (.int .i64 0)) ∧ wx.frozen? ⟨w.heap.size + 2, 0, none⟩ = false ∧ wx.frozen? ⟨w.heap.size + 2, 1, none⟩ = false := by
  have hs := boxed_size w a b c d
  obtain ⟨e0, e1, e2⟩ := boxed_heap w a b c d
  rw [← h.block _ (by rw [hs]; omega)] at e0 e1 e2
  refine ⟨⟨cell_of_row _ _ _ _ _ _ e0, cell_of_row _ _ _ _ _ _ e0⟩, ⟨cell_of_row _ _ _ _ _ _ e1, cell_of_row _ _ _ _ _ _ e1⟩, ⟨cell_of_row _ _ _ _ _ _ e2, cell_of_row _ _ _ _ _ _ e2⟩, frozen_of_row _ _ _ _ _ e2, frozen_of_row _ _ _ _ _ e2⟩

set_option maxRecDepth 20000 in
set_option maxHeartbeats 400000 in
theorem join_any (A1 A2 : Option Addr) (m1 c1 m2 c2 : Nat) (p q : List Bool) (w : World) (h1 : Rd w w.heap.size A1 m1 c1 (pack p)) (h2 : Rd w w.heap.size A2 m2 c2 (pack q)) (hn1 : p.length ≤ 10000000) (hn2 : q.length ≤ 10000000) :
    Calls Tryd.prog 17 #[.agg #[.slice A1 m1 c1, .int .i64 ((p.length : Nat) : Int)], .agg #[.slice A2 m2 c2, .int .i64 ((q.length : Nat) : Int)]] w (RetBits w (p ++ q)) := by
  have hm1 := h1.len
  have hm2 := h2.len
  rw [pack_length] at hm1 hm2
  have HALL := Lib.hid (padTo_all p q)
  have HST := Lib.hid (padTo_start p)
  have HM1 := Lib.hid hm1
  have HM2 := Lib.hid hm2
  clear hm1 hm2
  generalize hn1' : p.length = n1 at *
  generalize hn2' : q.length = n2 at *
  have HN1 := Lib.hid hn1'
  have HN2 := Lib.hid hn2'
  clear hn1' hn2'
  go_enter Tryd.func17, Tryd.ntmps17
  go_wp2_with (first
    | (go_at_call 35; refine (size_any (n1 + n2) _ (by omega)).mono ?_; rintro e w1 ⟨rfl, rfl⟩)
    | (at_make; (refine wpList_mk rfl (.tmp 17) (.tmp 17) rfl (Below.refl _ (boxed w _ _ _ _)) ((n1 + n2 + 7) / 8) rfl rfl rfl rfl (by omega) ?_; intro w1 hown0 _; have hown : Own (boxed w (.slice A1 m1 c1) (.int .i64 (n1 : Int)) (.slice A2 m2 c2) (.int .i64 (n2 : Int))) w1 (.slice (some ⟨w.heap.size + 3, 0, none⟩) ((n1 + n2 + 7) / 8) ((n1 + n2 + 7) / 8)) (List.replicate ((n1 + n2 + 7) / 8) 0) := by simpa using hown0); clear hown0; obtain ⟨⟨cx0, cx1⟩, ⟨cy0, cy1⟩, ⟨cr0, cr1⟩, fr0, fr1⟩ := boxed_cells hown.bel)
    | ((with_reducible show wpList _ _ _ _ _ _); refine wpList_cp (o := ⟨some 22, _, _, _, _, _⟩) rfl (.tmp 19) (.tmp 21) rfl rfl rfl hown (h1.below ((boxed_below w _ _ _ _).trans (hown.bel.mono (by rw [boxed_size]; omega)))) (by rw [← HM1.out]; omega) (by omega) ?_; intro w2 hown2; clear cx0 cx1 cy0 cy1 cr0 cr1 fr0 fr1; obtain ⟨⟨cx0, cx1⟩, ⟨cy0, cy1⟩, ⟨cr0, cr1⟩, fr0, fr1⟩ := boxed_cells hown2.bel))
  clear hown
  go_quiet (fail)
  go_wp2
  have hown : Own (boxed w (.slice A1 m1 c1) (.int .i64 (n1 : Int)) (.slice A2 m2 c2) (.int .i64 (n2 : Int))) w2 (.slice (some ⟨w.heap.size + 1 + 1 + 1, 0, none⟩) ((n1 + n2 + 7) / 8) ((n1 + n2 + 7) / 8)) (padTo ((n1 + n2 + 7) / 8) (p ++ (flat (pack q)).take (8 * 0))) := by
    have e := HST.out ((n1 + n2 + 7) / 8) (by omega)
    have e2 := HM1.out
    have e3 : pack p ++ List.drop m1 (List.replicate ((n1 + n2 + 7) / 8) 0) = padTo ((n1 + n2 + 7) / 8) p := by rw [List.drop_replicate, ← e2, e]
    rw [e3] at hown2
    simpa using hown2
  clear hown2 cx0 cx1 cy0 cy1 cr0 cr1 fr0 fr1
  have hown := hown.drewN nq
  have e7 : IntKind.i64.wrap ((n1 : Int) / 8) = ((n1 / 8 : Nat) : Int) := by rw [IntWalk.i64_in _ (by omega)]; simp
  have e8 : (n1 : Int).tmod 8 = ((n1 % 8 : Nat) : Int) := by rw [Int.tmod_eq_emod_of_nonneg (by omega)]; simp
  rw [e7, e8]
  clear e7 e8
  go_loopw [32] (fun i wr => ∃ k : Nat, k ≤ m2 ∧ i = .int .i64 k ∧ Own (boxed w (.slice A1 m1 c1) (.int .i64 (n1 : Int)) (.slice A2 m2 c2) (.int .i64 (n2 : Int))) wr (.slice (some ⟨w.heap.size + 1 + 1 + 1, 0, none⟩) ((n1 + n2 + 7) / 8) ((n1 + n2 + 7) / 8)) (padTo ((n1 + n2 + 7) / 8) (p ++ (flat (pack q)).take (8 * k)))) (fun i _ => m2 - (intOf i).toNat)
  case atStart => exact ⟨0, by omega, rfl, hown⟩
  case round =>
    clear hown
    obtain ⟨k, hk, rfl, hown⟩ := hrel
    by_cases hlt : k < m2
    · have hmm : n1 / 8 + k < (n1 + n2 + 7) / 8 := by have := HM2.out; omega
      have hbw := (boxed_below w (.slice A1 m1 c1) (.int .i64 (n1 : Int)) (.slice A2 m2 c2) (.int .i64 (n2 : Int))).trans (hown.bel.mono (by rw [boxed_size]; omega))
      obtain ⟨ad, rfl, hbl, hc⟩ := (h2.below hbw).at_ hlt
      have hy := getD_lt (pack_lt q) k
      have H3 := Lib.hid (join_step ((n1 + n2 + 7) / 8) p (pack q) (pack_lt q) k (by rw [HN1.out]; exact hmm))
      rw [HN1.out] at H3
      generalize (pack q).getD k 0 = y at *
      have ho := getD_lt (padTo_lt ((n1 + n2 + 7) / 8) (p ++ (flat (pack q)).take (8 * k))) (n1 / 8 + k)
      have hco := hown.cell (n1 / 8 + k) hmm
      have hfo := hown.free (n1 / 8 + k)
      clear hbw
      have H4 := Lib.hid (fun (h : n1 / 8 + k + 1 < (n1 + n2 + 7) / 8) => (joinRound_big h).symm.trans H3.out)
      have H5 := Lib.hid (fun (h : ¬ n1 / 8 + k + 1 < (n1 + n2 + 7) / 8) => (joinRound_end h).symm.trans H3.out)
      clear H3
      generalize (padTo ((n1 + n2 + 7) / 8) (p ++ (flat (pack q)).take (8 * k))).getD (n1 / 8 + k) 0 = o at *
      have H6 := Lib.hid (or8 o y (n1 % 8) ho hy)
      by_cases hl2 : n1 / 8 + k + 1 < (n1 + n2 + 7) / 8
      · have hc2 := hown.cell (n1 / 8 + k + 1) hl2
        have hf2 := hown.free (n1 / 8 + k + 1)
        go_wp2
        go_region
        go_wp2
        go_roundw
        case rel =>
          refine ⟨k + 1, by omega, by go_num, ?_⟩
          have h3 := ((hown.set (n1 / 8 + k) (o ||| y / 2 ^ (n1 % 8))).set (n1 / 8 + k + 1) (y * 2 ^ (8 - n1 % 8) % 256)).drew
          rw [H4.out hl2] at h3
          rw [H6.out]
          simpa using h3
        case measure => simp [intOf]; omega
      · go_wp2
        go_region
        go_wp2
        go_roundw
        case rel =>
          refine ⟨k + 1, by omega, by go_num, ?_⟩
          have h3 := (hown.set (n1 / 8 + k) (o ||| y / 2 ^ (n1 % 8))).drew
          rw [H5.out hl2] at h3
          rw [H6.out]
          exact h3
        case measure => simp [intOf]; omega
    · obtain ⟨_, _, ⟨cr0, cr1⟩, fr0, fr1⟩ := boxed_cells hown.bel
      have e : k = (n2 + 7) / 8 := by have := HM2.out; omega
      subst e
      rw [HALL.out] at hown
      go_wp2
      exact bodyPost_ret (v := .agg #[.slice (some ⟨w.heap.size + 1 + 1 + 1, 0, none⟩) ((n1 + n2 + 7) / 8) ((n1 + n2 + 7) / 8), .int .i64 ((n1 + n2 : Nat) : Int)]) (by simp [results, Tryd.results17, go_sem, cr0, cr1]) rfl
        (RetBits.mk (hown.past2 (boxed_below w _ _ _ _) (by simp; omega) (by rw [boxed_size]; simp) (by simp; omega) (by rw [boxed_size]; simp) _ _) (by rw [List.length_append, HN1.out, HN2.out]))

end Go.Proofs.YtcnhoohcdkfgkaaDoor

/-
  The contract of the program's own Take: the number of n bits from the a-th on, if they are there.
-/
namespace Go.Proofs.YtcnhoohcdkfgkaaDoor
open Go.RowKit

/-- what the program's Take comes to -/
def RetS (w : World) (bs : List Nat) (a n : Int) (e : Ending) (w' : World) : Prop :=
  e = .returned (.tuple #[.int .u64 ((takeN bs a n : Nat) : Int), .bool (takeB bs a n)]) ∧ w = w'

theorem wrap_u64 (n : Nat) (h : n ≤ 18446744073709551615) : IntKind.u64.wrap (n : Int) = n := by
  have e : IntKind.u64.wrap (n : Int) = (n : Int) % 18446744073709551616 := by simp [IntKind.wrap, IntKind.bits, IntKind.signed]
  rw [e]
  omega
theorem or_step (y x s : Nat) (hy : y ≤ 9223372036854775807) (hx : x < 256) :
    bits .or .u64 ((y : Int) * 2) (IntKind.u64.wrap (bits .and .u8 ((x : Int) / 2 ^ s) 1)) = ((2 * y + (x.testBit s).toNat : Nat) : Int) := by
  have e1 : ((x : Int) / 2 ^ s) = ((x / 2 ^ s : Nat) : Int) := by simp
  have e2 : (y : Int) * 2 = ((y * 2 : Nat) : Int) := by simp
  have h1 : x / 2 ^ s < 256 := Nat.lt_of_le_of_lt (Nat.div_le_self _ _) hx
  rw [e1, e2, show (1 : Int) = ((1 : Nat) : Int) from rfl, u8_and_nat _ _ h1 (by omega), nat_mask1, wrap_u64 _ (by omega), u64_or_nat _ _ (by omega) (by omega), nat_join 1 _ _ (by omega) (by omega), Nat.toNat_testBit, Nat.mul_comm]
theorem take_step (bs : List Nat) (a k : Nat) (h : a + k < 8 * bs.length) : num (cut (flat bs) a (k + 1)) = 2 * num (cut (flat bs) a k) + ((bs.getD ((a + k) / 8) 0).testBit (7 - (a + k) % 8)).toNat := by
  rw [cut_succ _ _ _ (by rw [flat_length]; exact h), num_snoc, flat_getD]
  rfl

set_option maxRecDepth 20000 in
set_option maxHeartbeats 400000 in
theorem take_no (A : Option Addr) (m c : Nat) (bs : List Nat) (a n : Int) (w : World) (hl : bs.length = m) (hm : m ≤ 100000000)
    (ha : -9223372036854775808 ≤ a ∧ a ≤ 9223372036854775807) (hn : -9223372036854775808 ≤ n ∧ n ≤ 9223372036854775807) (hno : n < 0 ∨ (0 ≤ n ∧ 64 < n) ∨ (0 ≤ n ∧ n ≤ 64 ∧ a < 0) ∨ (0 ≤ n ∧ n ≤ 64 ∧ 0 ≤ a ∧ 8 * (m : Int) - n < a)) :
    Calls Tryd.prog 53 #[.slice A m c, .int .i64 a, .int .i64 n] w (RetS w bs a n) := by
  have HT := Lib.hid (takeB_no (bs := bs) (a := a) (n := n) (by omega))
  clear hl
  rcases hno with h1 | h1 | h1 | h1
  all_goals
    go_enter Tryd.func53, Tryd.ntmps53
    go_wp2
    go_ret2
    unfold RetS
    rw [HT.out.1, HT.out.2]
    exact ⟨rfl, rfl⟩

set_option maxRecDepth 20000 in
set_option maxHeartbeats 400000 in
theorem take_yes (A : Option Addr) (m c B : Nat) (bs : List Nat) (a n : Nat) (w : World) (h : Rd w B A m c bs) (hb : ∀ x ∈ bs, x < 256) (hm : m ≤ 100000000)
    (hn : n ≤ 64) (han : a + n ≤ 8 * m) :
    Calls Tryd.prog 53 #[.slice A m c, .int .i64 a, .int .i64 n] w (RetS w bs a n) := by
  have HT := Lib.hid (takeB_yes (bs := bs) (a := a) (n := n) hn (by have := h.len; omega))
  have HB := Lib.hid hb
  clear hb
  have HL := Lib.hid h.len
  go_enter Tryd.func53, Tryd.ntmps53
  go_wp2
  go_loop [8, 9] (fun v i => ∃ k : Nat, k ≤ n ∧ i = .int .i64 ((a : Int) + k) ∧ v = .int .u64 ((num (cut (flat bs) a k) : Nat) : Int)) (fun _ i => ((a : Int) + n - intOf i).toNat)
  case atStart => exact ⟨0, Nat.zero_le _, by go_num, by rw [cut_zero]; rfl⟩
  case round =>
    obtain ⟨k, hk, rfl, rfl⟩ := hrel
    by_cases hlt : k < n
    · obtain ⟨ad, rfl, hbl, hc⟩ := h.at_ (k := (a + k) / 8) (by omega)
      have hx := getD_lt HB.out ((a + k) / 8)
      have H3 := Lib.hid (take_step bs a k (by rw [HL.out]; omega))
      generalize bs.getD ((a + k) / 8) 0 = x at *
      have hy : num (cut (flat bs) a k) ≤ 9223372036854775807 := by
        have h1 := num_lt (cut (flat bs) a k)
        rw [cut_length _ _ _ (by rw [flat_length, HL.out]; omega)] at h1
        have h2 : 2 ^ k ≤ 2 ^ 63 := Nat.pow_le_pow_right (by omega) (by omega)
        omega
      generalize num (cut (flat bs) a k) = y at *
      go_wp2
      go_round
      case rel =>
        exact ⟨k + 1, by omega, by go_num, by rw [H3.out, or_step _ _ _ hy hx]⟩
      case measure => simp [intOf]; omega
    · have e : k = n := by omega
      subst e
      go_wp2
      go_ret2
      unfold RetS
      rw [HT.out.1, HT.out.2]
      exact ⟨rfl, rfl⟩

theorem take_all (A : Option Addr) (m c B : Nat) (bs : List Nat) (a n : Int) (w : World) (h : Rd w B A m c bs) (hb : ∀ x ∈ bs, x < 256) (hm : m ≤ 100000)
    (ha : -9223372036854775808 ≤ a ∧ a ≤ 9223372036854775807) (hn : -9223372036854775808 ≤ n ∧ n ≤ 9223372036854775807) :
    Calls Tryd.prog 53 #[.slice A m c, .int .i64 a, .int .i64 n] w (RetS w bs a n) := by
  by_cases hy : 0 ≤ n ∧ n ≤ 64 ∧ 0 ≤ a ∧ a ≤ 8 * (m : Int) - n
  · obtain ⟨n', rfl⟩ := Int.eq_ofNat_of_zero_le hy.1
    obtain ⟨a', rfl⟩ := Int.eq_ofNat_of_zero_le hy.2.2.1
    exact take_yes A m c B bs a' n' w h hb (by omega) (by omega) (by omega)
  · exact take_no A m c bs a n w h.len (by omega) ha hn (by omega)

end Go.Proofs.YtcnhoohcdkfgkaaDoor

/-
  The contract of the reference's Bytes: of bits (bytes of 0 and 1) it returns the bytes that they make up, in new memory.
-/
namespace Go.Proofs.YtcnhoohcdkfgkaaDoor
open Go.RowKit

/-- the bytes of bits, with a byte of 0 behind them if the last one is full -/
def grow (q : List Bool) : List Nat := pack q ++ (if q.length % 8 = 0 then [0] else [])
theorem grow_length (q : List Bool) : (grow q).length = q.length / 8 + 1 := by
  unfold grow
  rw [List.length_append, pack_length]
  split <;> simp <;> omega
theorem grow_lt (q : List Bool) : ∀ x ∈ grow q, x < 256 := by
  intro x hx
  unfold grow at hx
  rcases List.mem_append.1 hx with h | h
  · exact pack_lt q x h
  · split at h
    · simp at h; omega
    · simp at h
theorem grow_bit (q : List Bool) (i : Nat) : bit (grow q) i = q.getD i false := by
  rw [← bit_pack]
  unfold bit grow
  congr 1
  rw [List.getD_eq_getElem?_getD, List.getD_eq_getElem?_getD]
  by_cases h : i / 8 < (pack q).length
  · rw [List.getElem?_append_left h]
  · rw [List.getElem?_append_right (by omega), List.getElem?_eq_none (by omega : (pack q).length ≤ i / 8)]
    split
    · cases i / 8 - (pack q).length with
      | zero => rfl
      | succ m => rfl
    · rfl
theorem grow_false (q : List Bool) : grow q = pack (q ++ [false]) := by
  apply eq_pack (grow_lt q)
  · rw [grow_length, List.length_append, List.length_singleton]; omega
  · intro i _
    rw [grow_bit]
    rw [List.getD_eq_getElem?_getD, List.getD_eq_getElem?_getD]
    by_cases h : i < q.length
    · rw [List.getElem?_append_left h]
    · rw [List.getElem?_append_right (by omega), List.getElem?_eq_none (by omega : q.length ≤ i)]
      cases i - q.length <;> rfl
theorem last_bits (q : List Bool) (j : Nat) (hj : j < 8) : ((grow q).getD (q.length / 8) 0).testBit j = q.getD (8 * (q.length / 8) + (7 - j)) false := by
  have := grow_bit q (8 * (q.length / 8) + (7 - j))
  unfold bit at this
  have e1 : (8 * (q.length / 8) + (7 - j)) / 8 = q.length / 8 := by omega
  have e2 : 7 - (8 * (q.length / 8) + (7 - j)) % 8 = j := by omega
  rwa [e1, e2] at this
theorem last_add (q : List Bool) : (grow q).getD (q.length / 8) 0 + 2 ^ (7 - q.length % 8) = (grow q).getD (q.length / 8) 0 ||| 2 ^ (7 - q.length % 8) := by
  have hx := getD_lt (grow_lt q) (q.length / 8)
  have hb := last_bits q
  generalize (grow q).getD (q.length / 8) 0 = x at *
  have hm : x % 2 ^ (7 - q.length % 8 + 1) = 0 := by
    apply Nat.eq_of_testBit_eq
    intro j
    rw [Nat.testBit_mod_two_pow, Nat.zero_testBit]
    by_cases hj : j < 7 - q.length % 8 + 1
    · rw [hb j (by omega), List.getD_eq_getElem?_getD, List.getElem?_eq_none (by omega)]
      simp
    · simp [hj]
  have e : x = 2 ^ (7 - q.length % 8 + 1) * (x / 2 ^ (7 - q.length % 8 + 1)) := by
    have := Nat.div_add_mod x (2 ^ (7 - q.length % 8 + 1))
    omega
  rw [e]
  exact Nat.two_pow_add_eq_or_of_lt (Nat.pow_lt_pow_right (by omega) (by omega)) _
theorem last_le (q : List Bool) : (grow q).getD (q.length / 8) 0 + 2 ^ (7 - q.length % 8) ≤ 255 := by
  have h1 : (grow q).getD (q.length / 8) 0 < 2 ^ 8 := getD_lt (grow_lt q) (q.length / 8)
  have h2 : 2 ^ (7 - q.length % 8) < 2 ^ 8 := Nat.pow_lt_pow_right (by omega) (by omega)
  have := Nat.or_lt_two_pow h1 h2
  rw [last_add]
  omega
theorem grow_true (q : List Bool) : (grow q).set (q.length / 8) ((grow q).getD (q.length / 8) 0 + 2 ^ (7 - q.length % 8)) = pack (q ++ [true]) := by
  apply eq_pack
  · intro x hx
    rcases List.mem_or_eq_of_mem_set hx with h | h
    · exact grow_lt q x h
    · have := last_le q; omega
  · rw [List.length_set, grow_length, List.length_append, List.length_singleton]; omega
  · intro i hi
    rw [List.length_set, grow_length] at hi
    unfold bit
    have hd : ∀ (l : List Nat) (k m x : Nat), m < l.length → (l.set k x).getD m 0 = if k = m then x else l.getD m 0 := by
      intro l k m x hm
      rw [List.getD_eq_getElem?_getD, List.getElem?_set, List.getD_eq_getElem?_getD]
      split
      · subst k; simp [hm]
      · rfl
    rw [hd _ _ _ _ (by rw [grow_length]; omega), last_add]
    split
    · rename_i e
      rw [Nat.testBit_or, Nat.testBit_two_pow, last_bits _ _ (by omega)]
      have e3 : 8 * (q.length / 8) + (7 - (7 - i % 8)) = i := by omega
      rw [e3, List.getD_eq_getElem?_getD, List.getD_eq_getElem?_getD]
      by_cases h : i < q.length
      · rw [List.getElem?_append_left h]
        have : ¬ (7 - q.length % 8 = 7 - i % 8) := by omega
        simp [this]
      · rw [List.getElem?_append_right (by omega), List.getElem?_eq_none (by omega : q.length ≤ i)]
        by_cases h2 : i = q.length
        · subst h2; simp
        · have : ¬ (7 - q.length % 8 = 7 - i % 8) := by omega
          obtain ⟨m, hm⟩ : ∃ m, i - q.length = m + 1 := ⟨i - q.length - 1, by omega⟩
          rw [hm]
          simp [this]
    · rename_i e
      have := grow_bit q i
      unfold bit at this
      rw [this, List.getD_eq_getElem?_getD, List.getD_eq_getElem?_getD]
      rw [List.getElem?_append_left (by omega)]

theorem take_snoc (p : List Bool) (i : Nat) (h : i < p.length) : p.take (i + 1) = p.take i ++ [p.getD i false] := by
  rw [List.take_succ_eq_append_getElem h]
  simp [List.getD_eq_getElem?_getD, h]
theorem pow_half (k : Nat) (h : k < 7) : 2 ^ (7 - k) / 2 = 2 ^ (7 - (k + 1)) := by
  have : 7 - k = 7 - (k + 1) + 1 := by omega
  rw [this, Nat.pow_succ]
  omega
theorem pow_le (k : Nat) : 2 ^ (7 - k) ≤ 128 := by
  have := Nat.pow_le_pow_right (n := 2) (by omega) (by omega : 7 - k ≤ 7)
  simpa using this

set_option maxRecDepth 20000 in
set_option maxHeartbeats 1000000 in
theorem bytes_any (A : Option Addr) (n c : Nat) (p : List Bool) (w : World) (h : Rd w w.heap.size A n c (enc p)) (hn : n ≤ 1000000) :
    Calls Tryd.prog 26 #[.slice A n c] w (RetB w (pack p)) := by
  have HL : Hid (p.length = n) := Lib.hid (by have := h.len; rwa [enc_length] at this)
  go_enter Tryd.func26, Tryd.ntmps26
  go_wp2
  go_loopw [3, 4] (fun v i wr => ∃ k : Nat, k ≤ n ∧ i = .int .i64 k ∧ Own w wr v (pack (p.take k))) (fun _ i _ => n - (intOf i).toNat)
  case atStart => exact ⟨0, Nat.zero_le _, rfl, by simpa [pack] using Own.nil_ w w (Below.refl _ _)⟩
  case round =>
    obtain ⟨i, hi, rfl, hown⟩ := hrel
    by_cases hlt : i < n
    · obtain ⟨ad, rfl, hbl, hcw⟩ := h.at_ hlt
      have H0 := Lib.hid (take_snoc p i (by have := HL.out; omega))
      have HQ : Hid ((p.take i).length = i) := Lib.hid (by rw [List.length_take]; have := HL.out; omega)
      generalize p.take i = q at *
      rw [enc_getD] at hcw
      have HC : ∀ wx, Below w.heap.size w wx → wx.cell? (ad.add i) = some (.int .u8 (((p.getD i false).toNat : Nat) : Int)) := fun wx hx => (hx.cell (by rw [add_block]; exact hbl)).trans hcw
      clear hcw
      have hgl : (grow q).length = i / 8 + 1 := by rw [grow_length, HQ.out]
      have hpow := pow_le (i % 8)
      have hlast := last_le q
      have hgt := grow_true q
      rw [HQ.out] at hlast hgt
      by_cases h8 : i % 8 = 0
      · have HG : Hid (pack q ++ [0] = grow q) := Lib.hid (by unfold grow; rw [HQ.out, if_pos h8])
        have h8' : i % 8 < 1 := by omega
        have HP : Hid ((pack q).length = i / 8) := Lib.hid (by rw [pack_length, HQ.out]; omega)
        clear h8
        have HGL := Lib.hid hgl
        have HGT := Lib.hid hgt
        have HC2 := Lib.hid HC
        clear hgl hgt HC
        cases hb : p.getD i false
        · rw [hb] at HC2 H0
          clear hb
          have H9 := Lib.hid (grow_false q)
          go_wp2_with (at_builtin; (refine wpList_app rfl (.tmp 16) (.tmp 17) rfl rfl rfl (hown.alloc _) (Rd.one _ 0) (by rw [HP.out]; omega) ?_; intro v' w' hown3; rw [HG.out] at hown3; have hc3 : w'.cell? (ad.add i) = some (.int .u8 0) := HC2.out w' hown3.bel))
          go_roundw
          case rel => exact ⟨i + 1, by omega, by go_num, by rw [H0.out, ← H9.out]; exact hown3⟩
          case measure => simp [intOf]; omega
        · rw [hb] at HC2 H0
          clear hb
          go_wp2_with (at_builtin; (refine wpList_app rfl (.tmp 16) (.tmp 17) rfl rfl rfl (hown.alloc _) (Rd.one _ 0) (by rw [HP.out]; omega) ?_; intro v' w' hown3; rw [HG.out] at hown3; have hc3 : w'.cell? (ad.add i) = some (.int .u8 1) := HC2.out w' hown3.bel; obtain ⟨g, cc, rfl⟩ := hown3.lenform HGL.out))
          go_loop [5, 6] (fun b j => ∃ k : Nat, k ≤ i % 8 ∧ j = .int .i64 k ∧ b = .int .u8 ((2 ^ (7 - k) : Nat) : Int)) (fun _ j => i % 8 - (intOf j).toNat)
          case atStart => exact ⟨0, by omega, rfl, rfl⟩
          case round =>
            obtain ⟨k, hk, rfl, rfl⟩ := hrel
            by_cases hkl : k < i % 8
            · exact absurd hkl (by omega)
            · have e : k = i % 8 := by omega
              have hc4 := hown3.cell (i / 8) (by omega)
              have hf4 := hown3.free (i / 8)
              subst e
              have hown4 := hown3.set (i / 8) ((grow q).getD (i / 8) 0 + 2 ^ (7 - i % 8))
              rw [HGT.out] at hown4
              have H4 := Lib.hid hown4
              clear hown4
              generalize 2 ^ (7 - i % 8) = y at *
              generalize (grow q).getD (i / 8) 0 = z at *
              go_wp2
              go_roundw
              case rel => exact ⟨i + 1, by omega, by go_num, by rw [H0.out]; exact H4.out⟩
              case measure => simp [intOf]; omega
      · have HG : Hid (pack q = grow q) := Lib.hid (by unfold grow; rw [HQ.out, if_neg h8, List.append_nil])
        have h8' : 1 ≤ i % 8 := by omega
        clear h8
        have hc3 := HC wr hown.bel
        rw [HG.out] at hown
        obtain ⟨g, cc, rfl⟩ := hown.lenform hgl
        have HGT := Lib.hid hgt
        clear hgl hgt HC
        have hown3 := hown
        clear hown
        cases hb : p.getD i false
        · rw [hb] at hc3 H0
          clear hb
          replace hc3 : wr.cell? (ad.add i) = some (.int .u8 0) := hc3
          have H9 := Lib.hid (grow_false q)
          go_wp2
          go_roundw
          case rel => exact ⟨i + 1, by omega, by go_num, by rw [H0.out, ← H9.out]; exact hown3⟩
          case measure => simp [intOf]; omega
        · rw [hb] at hc3 H0
          clear hb
          replace hc3 : wr.cell? (ad.add i) = some (.int .u8 1) := hc3
          go_wp2
          go_loop [5, 6] (fun b j => ∃ k : Nat, k ≤ i % 8 ∧ j = .int .i64 k ∧ b = .int .u8 ((2 ^ (7 - k) : Nat) : Int)) (fun _ j => i % 8 - (intOf j).toNat)
          case atStart => exact ⟨0, by omega, rfl, rfl⟩
          case round =>
            obtain ⟨k, hk, rfl, rfl⟩ := hrel
            by_cases hkl : k < i % 8
            · have H5 := Lib.hid (pow_half k (by omega))
              have h6 := pow_le k
              generalize 2 ^ (7 - k) = y at *
              go_wp2
              go_round
              case rel => exact ⟨k + 1, by omega, by go_num, by rw [← H5.out]; go_num⟩
              case measure => simp [intOf]; omega
            · have e : k = i % 8 := by omega
              have hc4 := hown3.cell (i / 8) (by omega)
              have hf4 := hown3.free (i / 8)
              subst e
              have hown4 := hown3.set (i / 8) ((grow q).getD (i / 8) 0 + 2 ^ (7 - i % 8))
              rw [HGT.out] at hown4
              have H4 := Lib.hid hown4
              clear hown4
              generalize 2 ^ (7 - i % 8) = y at *
              generalize (grow q).getD (i / 8) 0 = z at *
              go_wp2
              go_roundw
              case rel => exact ⟨i + 1, by omega, by go_num, by rw [H0.out]; exact H4.out⟩
              case measure => simp [intOf]; omega
    · go_wp2
      go_ret
      have e : p.take i = p := List.take_of_length_le (by have := HL.out; omega)
      rw [e] at hown
      exact RetB.mk hown

end Go.Proofs.YtcnhoohcdkfgkaaDoor

/-
  The contract of the laws' own Bits: of any bytes, bits that are their lowest ones.
-/
namespace Go.Proofs.YtcnhoohcdkfgkaaDoor
open Go.RowKit

/-- the lowest bits of numbers -/
def odd (l : List Nat) : List Bool := l.map fun x => x % 2 == 1
theorem odd_length (l : List Nat) : (odd l).length = l.length := by simp [odd]
theorem odd_step (l : List Nat) (k : Nat) (h : k < l.length) : enc ((odd l).take k) ++ [l.getD k 0 % 2] = enc ((odd l).take (k + 1)) := by
  rw [List.take_succ_eq_append_getElem (by rw [odd_length]; exact h), enc_app]
  congr 1
  have h2 : l.getD k 0 = l[k] := by simp [List.getD_eq_getElem?_getD, h]
  rw [h2]
  simp only [odd, List.getElem_map, enc, List.map_cons, List.map_nil]
  have : l[k] % 2 = 0 ∨ l[k] % 2 = 1 := by omega
  rcases this with e | e <;> simp [e]

set_option maxRecDepth 20000 in
set_option maxHeartbeats 400000 in
theorem lawbits_any (A : Option Addr) (n c : Nat) (l : List Nat) (w : World) (h : Rd w w.heap.size A n c l) (hb : ∀ x ∈ l, x < 256) (hn : n ≤ 1000000) :
    Calls Tryd.prog 16 #[.slice A n c] w (RetBits w (odd l)) := by
  have HL := Lib.hid h.len
  have HB := Lib.hid hb
  clear hb
  go_enter Tryd.func16, Tryd.ntmps16
  go_wp2
  have hbw : Below w.heap.size w (w.alloc (.cells #[.slice none 0 0, .int .i64 0] 34)) := (Below.refl _ _).alloc (Nat.le_refl _) _
  go_loopw [3, 4] (fun v i wr => ∃ k : Nat, k ≤ n ∧ i = .int .i64 k ∧ Own (w.alloc (.cells #[.slice none 0 0, .int .i64 0] 34)) wr v (enc ((odd l).take k))) (fun _ i _ => n - (intOf i).toNat)
  case atStart => exact ⟨0, Nat.zero_le _, rfl, Own.nil_ _ _ (Below.refl _ _)⟩
  case round =>
    obtain ⟨k, hk, rfl, hown⟩ := hrel
    have hwr := hbw.trans (hown.bel.mono hbw.size)
    by_cases hlt : k < n
    · obtain ⟨ad, rfl, hbl, hc⟩ := (h.below hwr).at_ hlt
      have h2 := getD_lt HB.out k
      have H3 := Lib.hid (odd_step l k (by have := HL.out; omega))
      have H4 : Hid ((enc ((odd l).take k)).length = k) := Lib.hid (by rw [enc_length, List.length_take, odd_length]; have := HL.out; omega)
      generalize l.getD k 0 = x at *
      go_wp2_with (at_builtin; (refine wpList_app rfl (.tmp 11) (.tmp 17) rfl rfl rfl (hown.alloc _) (Rd.one _ (x % 2)) (by rw [H4.out]; omega) ?_; intro v' w' hown3))
      go_roundw
      case rel => exact ⟨k + 1, by omega, by go_num, by rw [← H3.out]; exact hown3⟩
      case measure => simp [intOf]; omega
    · have e : (odd l).take k = odd l := List.take_of_length_le (by rw [odd_length]; have := HL.out; omega)
      rw [e] at hown
      obtain ⟨A1, c1, rfl, hr1⟩ := hown.form
      have H5 : Hid ((enc (odd l)).length = n) := Lib.hid (by rw [enc_length, odd_length, HL.out])
      rw [H5.out] at hr1 ⊢
      go_wp2_with (go_at_call 26; refine (bytes_any _ _ _ _ _ hr1 hn).mono ?_; rintro e w1 ⟨A2, c2, rfl, hown2⟩; have hb2 := hown.bel.trans (hown2.bel.mono hown.bel.size); obtain ⟨c0, c1', f0, f1⟩ := two_new hb2)
      refine bodyPost_ret (v := .agg #[.slice A2 (pack (odd l)).length c2, .int .i64 (n : Int)]) ?_ rfl ?_
      · simp [results, Tryd.results16, go_sem, c0, c1']
      · have hsz : w.heap.size < wr.heap.size := by have := hown.bel.size; simp at this; omega
        exact RetBits.mk (hown2.past2 hwr (Nat.le_refl _) hsz (Nat.le_refl _) hsz _ _) (by rw [odd_length, HL.out])

end Go.Proofs.YtcnhoohcdkfgkaaDoor

/-
  The contract of the reference's Low: the n lowest bits of a number, in new memory.
-/
namespace Go.Proofs.YtcnhoohcdkfgkaaDoor
open Go.RowKit

def lowTo (v n k : Nat) : List Nat := (List.range n).map fun i => if i < n - k then 0 else (v.testBit (n - 1 - i)).toNat
theorem lowTo_length (v n k : Nat) : (lowTo v n k).length = n := by simp [lowTo]
theorem lowTo_zero (v n : Nat) : List.replicate n 0 = lowTo v n 0 := by
  apply getD_extN (by simp [lowTo])
  intro i hi
  have hi' : i < n := by simpa using hi
  simp [lowTo, List.getD_eq_getElem?_getD, hi']
theorem lowTo_all (v n : Nat) : lowTo v n n = enc (low v n) := by
  apply getD_extN (by simp [lowTo, enc, low])
  intro i hi
  have hi' : i < n := by simpa [lowTo] using hi
  simp [lowTo, enc, low, List.getD_eq_getElem?_getD, hi']
theorem lowTo_succ (v n k : Nat) (hk : k < n) : (lowTo v n k).set (n - 1 - k) (v / 2 ^ k % 2) = lowTo v n (k + 1) := by
  apply getD_extN (by simp [lowTo])
  intro i hi
  have hi' : i < n := by simpa [lowTo] using hi
  by_cases e : n - 1 - k = i
  · subst e
    have e2 : n - 1 - (n - 1 - k) = k := by omega
    have e3 : ¬ n - 1 - k < n - (k + 1) := by omega
    simp [lowTo, List.getD_eq_getElem?_getD, hi', e2, e3, Nat.toNat_testBit]
  · have e3 : (i < n - (k + 1)) ↔ (i < n - k) := by omega
    simp [lowTo, List.getD_eq_getElem?_getD, hi', e, e3]
theorem half (v k : Nat) : v / 2 ^ k / 2 = v / 2 ^ (k + 1) := by rw [Nat.pow_succ, Nat.div_div_eq_div_mul]

set_option maxRecDepth 20000 in
set_option maxHeartbeats 400000 in
theorem low_any (v n : Nat) (w : World) (hv : v ≤ 18446744073709551615) (hn : n ≤ 64) :
    Calls Tryd.prog 22 #[.int .u64 (v : Int), .int .i64 (n : Int)] w (RetB w (enc (low v n))) := by
  go_enter Tryd.func22, Tryd.ntmps22
  go_wp2_with (at_make; (refine wpList_mk rfl (.tmp 7) (.tmp 7) rfl (Below.refl w.heap.size w) n rfl rfl rfl rfl (by omega) ?_; intro w1 hown hb1))
  rw [lowTo_zero v n] at hown
  go_loopw [0, 6] (fun x i wr => ∃ k : Nat, k ≤ n ∧ i = .int .i64 ((n : Int) - 1 - k) ∧ x = .int .u64 ((v / 2 ^ k : Nat) : Int) ∧ Own w wr (.slice (some ⟨w.heap.size, 0, none⟩) n n) (lowTo v n k)) (fun _ i _ => (intOf i + 1).toNat)
  case atStart => exact ⟨0, by omega, by go_num, by simp, hown⟩
  case round =>
    clear hown
    obtain ⟨k, hk, rfl, rfl, hown⟩ := hrel
    by_cases hlt : k < n
    · have hx : v / 2 ^ k ≤ 18446744073709551615 := Nat.le_trans (Nat.div_le_self _ _) hv
      have hc := hown.cell (n - 1 - k) (by omega)
      have hf := hown.free (n - 1 - k)
      have H1 := Lib.hid (lowTo_succ v n k hlt)
      have H2 := Lib.hid (half v k)
      generalize v / 2 ^ k = x at *
      generalize (lowTo v n k).getD (n - 1 - k) 0 = y at *
      go_wp2
      go_roundw
      case rel =>
        have h3 := hown.set (n - 1 - k) (x % 2)
        rw [H1.out] at h3
        refine ⟨k + 1, by omega, by go_num, ?_, ?_⟩
        · rw [← H2.out]; go_num
        · exact h3
      case measure => simp [intOf]; omega
    · go_wp2
      go_ret
      have e : k = n := by omega
      subst e
      rw [lowTo_all] at hown
      exact RetB.mk hown

end Go.Proofs.YtcnhoohcdkfgkaaDoor

/-
  The contract of the reference's Number: of up to 64 bits it returns their number, and changes nothing.
-/
namespace Go.Proofs.YtcnhoohcdkfgkaaDoor
open Go.RowKit

theorem num_take_succ (p : List Bool) (k : Nat) (h : k < p.length) : num (p.take (k + 1)) = 2 * num (p.take k) + ((enc p).getD k 0) := by
  rw [List.take_succ_eq_append_getElem h, num_snoc, enc_getD]
  simp [List.getD_eq_getElem?_getD, h]
theorem enc_le (p : List Bool) (i : Nat) : (enc p).getD i 0 ≤ 1 := by
  rw [enc_getD]; cases p.getD i false <;> simp
theorem num_take_le (p : List Bool) (k : Nat) (h : k < 64) : num (p.take k) ≤ 9223372036854775807 := by
  have h1 := num_lt (p.take k)
  have h2 : 2 ^ (p.take k).length ≤ 2 ^ 63 := Nat.pow_le_pow_right (by omega) (by rw [List.length_take]; omega)
  omega

set_option maxRecDepth 20000 in
set_option maxHeartbeats 400000 in
theorem number_any (A : Option Addr) (n c B : Nat) (p : List Bool) (w : World) (h : Rd w B A n c (enc p)) (hn : n ≤ 64) :
    Calls Tryd.prog 32 #[.slice A n c] w fun e w' => e = .returned (.int .u64 ((num p : Nat) : Int)) ∧ w = w' := by
  have hl : p.length = n := by have := h.len; rwa [enc_length] at this
  have HL := Lib.hid hl
  clear hl
  go_enter Tryd.func32, Tryd.ntmps32
  go_wp2
  go_loop [3, 4] (fun v i => ∃ k : Nat, k ≤ n ∧ i = .int .i64 k ∧ v = .int .u64 ((num (p.take k) : Nat) : Int)) (fun _ i => n - (intOf i).toNat)
  case atStart => exact ⟨0, Nat.zero_le _, rfl, rfl⟩
  case round =>
    obtain ⟨k, hk, rfl, rfl⟩ := hrel
    by_cases hlt : k < n
    · obtain ⟨ad, rfl, hb, hc⟩ := h.at_ hlt
      have h1 := num_take_le p k (by omega)
      have h2 := enc_le p k
      have H3 := Lib.hid (num_take_succ p k (by have := HL.out; omega))
      generalize (enc p).getD k 0 = x at *
      generalize num (p.take k) = y at *
      go_wp2
      go_round
      case rel => exact ⟨k + 1, by omega, by go_num, by rw [H3.out]; go_num⟩
      case measure => simp [intOf]; omega
    · go_wp2
      go_ret
      have e : p.take k = p := List.take_of_length_le (by have := HL.out; omega)
      rw [e]
      exact ⟨rfl, rfl⟩

end Go.Proofs.YtcnhoohcdkfgkaaDoor

/-
  The run of make of a slice of bytes; slices of bytes that are written out.
-/
namespace Go.Proofs.YtcnhoohcdkfgkaaDoor
open Go.RowKit

/-- make of a slice of bytes: the run, for a region that draws its order (laid ahead of it, at the world that is drawn) -/
theorem run_mk {w0 w : World} (hb : Below w0.heap.size w0 w) (n : Nat) (hn : n ≤ 1073741824) :
    ∃ w', (Instr.makeSlice 23 (.int .i64 (n : Int)) (.int .i64 (n : Int))).run Tryd.prog w = .ok (.slice (some ⟨w.heap.size, 0, none⟩) n n) w' ∧ Own w0 w' (.slice (some ⟨w.heap.size, 0, none⟩) n n) (List.replicate n 0) ∧ Below w.heap.size w w' := by
  obtain ⟨i0, hi, hz0, hz1, hz2⟩ := info_parts Tryd.infoB
  obtain ⟨w', hrun, hown, hgrow⟩ := run_make_full (P := Tryd.prog) w w0.heap.size 23 5 i0 (.int .u8 0) 1 Tryd.underlying23 hi hz0 hz1 .i64 .i64 n (by rw [hz2]; omega) (by unfold maxLen; omega) hb.size
  have e : (madeCells (Value.int .u8 0).cells (n * 1)).toList = bvals (List.replicate n 0) := by
    have := toList_madeCells_one (.int .u8 0) (n * 1)
    rw [Nat.mul_one] at this ⊢
    simpa [bvals, bval, Value.cells] using this
  rw [e] at hown
  exact ⟨w', hrun, ⟨by rw [List.length_replicate]; exact hown, hb.grown hgrow hb.size (fun k hk => by cases hk)⟩, (Below.refl _ _).grown hgrow (Nat.le_refl _) (fun k hk => by cases hk)⟩

/-- two bytes that are written out -/
theorem Own.litTwo {w0 w : World} (h : Below w0.heap.size w0 w) (x y : Nat) : Own w0 (w.alloc (.cells #[.int .u8 (x : Int), .int .u8 (y : Int)] 5)) (.slice (some ⟨w.heap.size, 0, none⟩) 2 2) [x, y] :=
  ⟨World.ownsRow_lit w #[.int .u8 (x : Int), .int .u8 (y : Int)] 2 h.size (by unfold maxLen; omega) rfl, h.alloc h.size _⟩
theorem Own.litOne {w0 w : World} (h : Below w0.heap.size w0 w) (x : Nat) : Own w0 (w.alloc (.cells #[.int .u8 (x : Int)] 5)) (.slice (some ⟨w.heap.size, 0, none⟩) 1 1) [x] :=
  ⟨World.ownsRow_lit w #[.int .u8 (x : Int)] 1 h.size (by unfold maxLen; omega) rfl, h.alloc h.size _⟩

end Go.Proofs.YtcnhoohcdkfgkaaDoor

/-
  The contract of the reference's Flat: of any bytes it returns all their bits, in new memory.
-/
namespace Go.Proofs.YtcnhoohcdkfgkaaDoor
open Go.RowKit

def sh (b j : Nat) : Nat := b * 2 ^ j % 256
theorem sh_lt (b j : Nat) : sh b j ≤ 255 := by unfold sh; omega
theorem sh_zero (b : Nat) (h : b < 256) : sh b 0 = b := by unfold sh; omega
theorem sh_succ (b j : Nat) : sh b j * 2 % 256 = sh b (j + 1) := by
  unfold sh
  rw [Nat.pow_succ, ← Nat.mul_assoc, Nat.mod_mul_mod]
theorem sh_top (b j : Nat) (h : b < 256) (hj : j < 8) : sh b j / 128 = (b.testBit (7 - j)).toNat := by
  unfold sh
  rw [Nat.toNat_testBit]
  rcases (by omega : j = 0 ∨ j = 1 ∨ j = 2 ∨ j = 3 ∨ j = 4 ∨ j = 5 ∨ j = 6 ∨ j = 7) with rfl | rfl | rfl | rfl | rfl | rfl | rfl | rfl <;> simp <;> omega
theorem flat_step (bs : List Nat) (hb : ∀ x ∈ bs, x < 256) (k j : Nat) (hk : k < bs.length) (hj : j < 8) :
    enc ((flat bs).take (8 * k + j)) ++ [sh (bs.getD k 0) j / 128] = enc ((flat bs).take (8 * k + (j + 1))) := by
  have h1 : 8 * k + j < (flat bs).length := by rw [flat_length]; omega
  have e1 : 8 * k + (j + 1) = 8 * k + j + 1 := by omega
  rw [e1, List.take_succ_eq_append_getElem h1, enc_app, sh_top _ _ (getD_lt hb k) hj]
  have e2 : (flat bs)[8 * k + j] = bit bs (8 * k + j) := by
    rw [← flat_getD]
    simp [List.getD_eq_getElem?_getD, h1]
  rw [e2]
  unfold bit
  have e3 : (8 * k + j) / 8 = k := by omega
  have e4 : 7 - (8 * k + j) % 8 = 7 - j := by omega
  rw [e3, e4]
  rfl
theorem flat_len (bs : List Nat) (m : Nat) (h : m ≤ 8 * bs.length) : (enc ((flat bs).take m)).length = m := by
  rw [enc_length, List.length_take, flat_length]; omega

set_option maxRecDepth 20000 in
set_option maxHeartbeats 400000 in
theorem flat_any (A : Option Addr) (n c : Nat) (bs : List Nat) (w : World) (h : Rd w w.heap.size A n c bs) (hb : ∀ x ∈ bs, x < 256) (hn : n ≤ 100000) :
    Calls Tryd.prog 29 #[.slice A n c] w (RetB w (enc (flat bs))) := by
  have HL := Lib.hid h.len
  have HB := Lib.hid hb
  clear hb
  go_enter Tryd.func29, Tryd.ntmps29
  go_wp2
  go_loopw [3, 4] (fun v i wr => ∃ k : Nat, k ≤ n ∧ i = .int .i64 k ∧ Own w wr v (enc ((flat bs).take (8 * k)))) (fun _ i _ => n - (intOf i).toNat)
  case atStart => exact ⟨0, Nat.zero_le _, rfl, Own.nil_ _ _ (Below.refl _ _)⟩
  case round =>
    obtain ⟨k, hk, rfl, hown⟩ := hrel
    by_cases hlt : k < n
    · obtain ⟨ad, rfl, hbl, hc⟩ := (h.below hown.bel).at_ hlt
      have h2 := getD_lt HB.out k
      have H3 := Lib.hid (fun j hj => flat_step bs HB.out k j (by have := HL.out; omega) hj)
      have H5 := Lib.hid (fun j (hj : j ≤ 8) => flat_len bs (8 * k + j) (by have := HL.out; omega))
      generalize bs.getD k 0 = x at *
      go_wp2
      go_loopw [3, 5, 6] (fun v cc jj wr => ∃ j : Nat, j ≤ 8 ∧ jj = .int .i64 j ∧ cc = .int .u8 ((sh x j : Nat) : Int) ∧ Own w wr v (enc ((flat bs).take (8 * k + j)))) (fun _ _ jj _ => 8 - (intOf jj).toNat)
      case atStart => exact ⟨0, by omega, rfl, by rw [sh_zero _ h2], hown⟩
      case round =>
        obtain ⟨j, hj, rfl, rfl, hown2⟩ := hrel
        have h6 := sh_lt x j
        by_cases hjlt : j < 8
        · have H4 := Lib.hid (H3.out j hjlt)
          have H6 := Lib.hid (H5.out j hj)
          have H7 := Lib.hid (sh_succ x j)
          go_wp2_with (at_builtin; (refine wpList_app rfl (.tmp 21) (.tmp 24) rfl rfl rfl (hown2.alloc _) (Rd.one _ _) (by rw [H6.out]; omega) ?_; intro v' w' hown3))
          go_roundw
          case rel =>
            refine ⟨j + 1, by omega, by go_num, ?_, ?_⟩
            · rw [← H7.out]; go_num
            · rw [← H4.out]; exact hown3
          case measure => simp [intOf]; omega
        · have e8 : 8 * k + j = 8 * (k + 1) := by omega
          rw [e8] at hown2
          go_wp2
          go_roundw
          case rel => exact ⟨k + 1, by omega, by go_num, hown2⟩
          case measure => simp [intOf]; omega
    · go_wp2
      go_ret
      have e : (flat bs).take (8 * k) = flat bs := List.take_of_length_le (by rw [flat_length]; have := HL.out; omega)
      rw [e] at hown
      exact RetB.mk hown

end Go.Proofs.YtcnhoohcdkfgkaaDoor

/-
  The contract of the laws' own Rest: all bits of bytes from a place on; none, if there is no such place.
-/
namespace Go.Proofs.YtcnhoohcdkfgkaaDoor
open Go.RowKit

theorem Rd.tail {w : World} {B m c a : Nat} {A : Option Addr} {bs : List Nat} (h : Rd w B A m c bs) (hk : a ≤ m) : Rd w B (A.map (fun x => x.add a)) (m - a) (c - a) (bs.drop a) := by
  have := h.cutTo (a := a) (n := m - a) (by omega)
  rwa [List.take_of_length_le (by rw [List.length_drop, h.len]; omega)] at this
theorem Rd.tailEnd {w : World} {B m a : Nat} {A : Option Addr} {bs : List Nat} (h : Rd w B A m a bs) (hk : a ≤ m) : Rd w B A (m - a) 0 (bs.drop a) := by
  have := h.cutEnd (n := m - a) (by omega)
  rwa [List.take_of_length_le (by rw [List.length_drop, h.len]; omega)] at this
theorem enc_drop (p : List Bool) (a : Nat) : (enc p).drop a = enc (p.drop a) := by simp [enc]

/-- a slice of bits -/
def RetP (w : World) (p : List Bool) (e : Ending) (w' : World) : Prop := ∃ A n c, e = .returned (.slice A n c) ∧ Rd w' w'.heap.size A n c (enc p) ∧ Below w.heap.size w w'

set_option maxRecDepth 20000 in
set_option maxHeartbeats 400000 in
theorem rest_any (A : Option Addr) (m c : Nat) (bs : List Nat) (a : Int) (w : World) (h : Rd w w.heap.size A m c bs) (hb : ∀ x ∈ bs, x < 256) (hm : m ≤ 1000) (ha : -9223372036854775808 ≤ a ∧ a ≤ 9223372036854775807) :
    Calls Tryd.prog 12 #[.slice A m c, .int .i64 a] w (RetP w (restL bs a)) := by
  have hl := h.len
  obtain ⟨r, HR⟩ : ∃ r, Hid (enc (flat bs) = r) := ⟨_, Lib.hid rfl⟩
  have HRL : Hid (r.length = 8 * m) := Lib.hid (by rw [← HR.out, enc_length, flat_length, hl])
  by_cases hy : 0 ≤ a ∧ a ≤ 8 * (m : Int)
  · obtain ⟨a', rfl⟩ := Int.eq_ofNat_of_zero_le hy.1
    have hax : a' ≤ 8 * m := by omega
    have HP : Hid (r.drop a' = enc (restL bs (a' : Int))) := Lib.hid (by rw [restL_yes (by omega), ← enc_drop, HR.out])
    generalize restL bs (a' : Int) = p at *
    clear hy hl
    go_enter Tryd.func12, Tryd.ntmps12
    go_wp2_with fail
    refine (flat_any _ _ _ bs _ h hb (by omega)).mono ?_
    rw [HR.out]
    rintro e w1 ⟨A1, c1, rfl, hown⟩
    have hr := hown.rd
    have hc := hr.cap
    have hb1 := hown.bel
    rw [HRL.out] at hr hc ⊢
    generalize 8 * m = n at *
    go_wp2
    · have he : c1 = a' := by assumption
      subst he
      go_ret
      have h5 := hr.tailEnd hax
      rw [HP.out] at h5
      exact ⟨_, _, _, rfl, h5, hb1⟩
    · go_ret
      have h5 := hr.tail hax
      rw [HP.out] at h5
      exact ⟨_, _, _, rfl, h5, hb1⟩
  · rw [restL_no (by omega)]
    have hno : a < 0 ∨ (0 ≤ a ∧ 8 * (m : Int) < a) := by omega
    clear hy hl
    rcases hno with h1 | h1
    all_goals
      go_enter Tryd.func12, Tryd.ntmps12
      go_wp2_with fail
      refine (flat_any _ _ _ bs _ h hb (by omega)).mono ?_
      rw [HR.out]
      rintro e w1 ⟨A1, c1, rfl, hown⟩
      rw [HRL.out]
      go_wp2
      go_ret
      exact ⟨_, _, _, rfl, Rd.nil_, hown.bel⟩

end Go.Proofs.YtcnhoohcdkfgkaaDoor

/-
  The contract of the laws' own Rest once more, with where the bits lie: behind all that was there.
-/
namespace Go.Proofs.YtcnhoohcdkfgkaaDoor
open Go.RowKit

theorem Own.far {w0 w : World} {A : Option Addr} {n c : Nat} {bs : List Nat} (h : Own w0 w (.slice A n c) bs) : ∀ ad, A = some ad → w0.heap.size ≤ ad.block := by
  intro ad ha
  subst ha
  rcases h.row.2 with ⟨e, _⟩ | ⟨g, cap, cur, e, hg, _⟩
  · cases e
  · injection e with e1 e2 e3
    injection e1 with e1
    subst e1
    exact hg
theorem far_add {B k : Nat} {A : Option Addr} (h : ∀ ad, A = some ad → B ≤ ad.block) : ∀ ad, A.map (fun x => x.add k) = some ad → B ≤ ad.block := by
  intro ad ha
  cases A with
  | none => cases ha
  | some x =>
    injection ha with ha
    subst ha
    rw [add_block]
    exact h x rfl
theorem Rd.keepAt {w w' : World} {B n c : Nat} {A : Option Addr} {bs : List Nat} (h : Rd w B A n c bs) (hk : ∀ ad, A = some ad → ∀ p : Addr, p.block = ad.block → w'.cell? p = w.cell? p) : Rd w' B A n c bs :=
  ⟨h.len, h.cap, h.no, fun hn => by
    obtain ⟨ad, e, hb, hc⟩ := h.cell hn
    exact ⟨ad, e, hb, fun j hj => (hk ad e _ (add_block _ _)).trans (hc j hj)⟩⟩
theorem Rd.setFar {w : World} {B n c g : Nat} {A : Option Addr} {bs : List Nat} (h : Rd w B A n c bs) (hf : ∀ ad, A = some ad → g < ad.block) (k : Nat) (u : Value) : Rd (w.setCell ⟨g, k, none⟩ u) B A n c bs :=
  h.keepAt fun ad e p hp => World.cell?_setCell_other w ⟨g, k, none⟩ p u (fun e2 => by have := hf ad e; rw [← e2] at hp; simp only at hp; omega)
theorem Rd.setFar8 {w : World} {B n c g : Nat} {A : Option Addr} {bs : List Nat} (h : Rd w B A n c bs) (hf : ∀ ad, A = some ad → g < ad.block) (u0 u1 u2 u3 u4 u5 u6 u7 : Value) : Rd (((((((((w.setCell ⟨g, 0, none⟩ (u0)).setCell ⟨g, 1, none⟩ (u1)).setCell ⟨g, 2, none⟩ (u2)).setCell ⟨g, 3, none⟩ (u3)).setCell ⟨g, 4, none⟩ (u4)).setCell ⟨g, 5, none⟩ (u5)).setCell ⟨g, 6, none⟩ (u6)).setCell ⟨g, 7, none⟩ (u7))) B A n c bs :=
  (((((((h.setFar hf 0 u0).setFar hf 1 u1).setFar hf 2 u2).setFar hf 3 u3).setFar hf 4 u4).setFar hf 5 u5).setFar hf 6 u6).setFar hf 7 u7

/-- a slice of bits, new -/
def RetPF (w : World) (p : List Bool) (e : Ending) (w' : World) : Prop := ∃ A n c, e = .returned (.slice A n c) ∧ Rd w' w'.heap.size A n c (enc p) ∧ Below w.heap.size w w' ∧ ∀ ad, A = some ad → w.heap.size ≤ ad.block

set_option maxRecDepth 20000 in
set_option maxHeartbeats 400000 in
theorem rest_far (A : Option Addr) (m c : Nat) (bs : List Nat) (a : Int) (w : World) (h : Rd w w.heap.size A m c bs) (hb : ∀ x ∈ bs, x < 256) (hm : m ≤ 1000) (ha : -9223372036854775808 ≤ a ∧ a ≤ 9223372036854775807) :
    Calls Tryd.prog 12 #[.slice A m c, .int .i64 a] w (RetPF w (restL bs a)) := by
  have hl := h.len
  obtain ⟨r, HR⟩ : ∃ r, Hid (enc (flat bs) = r) := ⟨_, Lib.hid rfl⟩
  have HRL : Hid (r.length = 8 * m) := Lib.hid (by rw [← HR.out, enc_length, flat_length, hl])
  by_cases hy : 0 ≤ a ∧ a ≤ 8 * (m : Int)
  · obtain ⟨a', rfl⟩ := Int.eq_ofNat_of_zero_le hy.1
    have hax : a' ≤ 8 * m := by omega
    have HP : Hid (r.drop a' = enc (restL bs (a' : Int))) := Lib.hid (by rw [restL_yes (by omega), ← enc_drop, HR.out])
    generalize restL bs (a' : Int) = p at *
    clear hy hl
    go_enter Tryd.func12, Tryd.ntmps12
    go_wp2_with fail
    refine (flat_any _ _ _ bs _ h hb (by omega)).mono ?_
    rw [HR.out]
    rintro e w1 ⟨A1, c1, rfl, hown⟩
    have hr := hown.rd
    have hc := hr.cap
    have hb1 := hown.bel
    have hfar := hown.far
    rw [HRL.out] at hr hc ⊢
    generalize 8 * m = n at *
    go_wp2
    · have he : c1 = a' := by assumption
      subst he
      go_ret
      have h5 := hr.tailEnd hax
      rw [HP.out] at h5
      exact ⟨_, _, _, rfl, h5, hb1, hfar⟩
    · go_ret
      have h5 := hr.tail hax
      rw [HP.out] at h5
      exact ⟨_, _, _, rfl, h5, hb1, far_add hfar⟩
  · rw [restL_no (by omega)]
    have hno : a < 0 ∨ (0 ≤ a ∧ 8 * (m : Int) < a) := by omega
    clear hy hl
    rcases hno with h1 | h1
    all_goals
      go_enter Tryd.func12, Tryd.ntmps12
      go_wp2_with fail
      refine (flat_any _ _ _ bs _ h hb (by omega)).mono ?_
      rw [HR.out]
      rintro e w1 ⟨A1, c1, rfl, hown⟩
      rw [HRL.out]
      go_wp2
      go_ret
      exact ⟨_, _, _, rfl, Rd.nil_, hown.bel, fun _ h => by cases h⟩

end Go.Proofs.YtcnhoohcdkfgkaaDoor
