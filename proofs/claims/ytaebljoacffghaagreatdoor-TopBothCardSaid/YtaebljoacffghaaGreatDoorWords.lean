/-
  Texts of this proof, one behind the other: Mem0, Mem, Law0, Law, Box, Box3, BoxL0, BoxL, MidApp, Solve, SQ, Tail, Samples, OwnQ, AllQ, Str, Make, Zeros, LaidAny, Code, XorEq, MidQ.
-/
import Derived.Test.YtaebljoacffghaaGreatDoorRows
import Derived.Test.YtaebljoacffghaaGreatDoorPlain
import Derived.WalkKit
import Derived.WalkSpells
import Derived.WalkLawsBesides
import Derived.Lib.Hide
import Derived.Deep.AppendLies
import Derived.Deep.Draws
import Derived.Deep.QuietTactic
import Derived.BigQuiet
import Derived.Laws.CopyOwn
import Derived.Laws.AppendOwnNone
import Derived.ProofKit
import Derived.OpenShut
import Derived.Deep.SlicePairs
import Derived.Lib.AppendZerosOnto
import Derived.Lib.LaidTab
import Derived.LaidMore
import Derived.Stop.Joined
import Derived.Lib.IfaceEq
import Derived.Laws.StructEq

/-
  Words for memory that every text wants: places in a row.
-/
namespace Go.Proofs.YtaebljoacffghaaGreatDoor
open Go.RowKit

theorem add_block (a : Addr) (n : Nat) : (a.add n).block = a.block := by unfold Addr.add; split <;> rfl
theorem add_add' (a : Addr) (i j : Nat) : (a.add i).add j = a.add (i + j) := by
  unfold Addr.add
  by_cases hi : i = 0 <;> by_cases hj : j = 0 <;> simp [hi, hj, Nat.add_assoc]
theorem below_like {B : Nat} {a a' w : World} (h : Below B a w) (e1 : a.os = a'.os) (e2 : a.tape = a'.tape) (e3 : a.output = a'.output) (e4 : a.heap = a'.heap) : Below B a' w :=
  ⟨h.os.trans e1, h.tape.trans e2, h.output.trans e3, by rw [← e4]; exact h.size, fun k hk => by rw [← e4]; exact h.block k hk⟩

theorem undrew {B : Nat} {a w : World} (h : Below B a.drew w) : Below B a w := below_like h rfl rfl rfl rfl

theorem below_drewN {B : Nat} {a w : World} (h : Below B a w) (n : Nat) : Below B a (w.drewN n) := ⟨h.os, h.tape, h.output, h.size, h.block⟩

end Go.Proofs.YtaebljoacffghaaGreatDoor

/-
  Words for memory: a slice value that reads as bytes; a row of bytes of the call's own.
-/
namespace Go.Proofs.YtaebljoacffghaaGreatDoor
open Go.RowKit

/-- a byte as a value -/
def bval (n : Nat) : Value := .int .u8 (n : Int)
/-- bytes as values -/
def bvals (bs : List Nat) : List Value := bs.map bval
/-- bits as bytes of 0 and 1 -/
def enc (p : List Bool) : List Nat := p.map Bool.toNat

theorem bvals_app (p q : List Nat) : bvals (p ++ q) = bvals p ++ bvals q := by simp [bvals]
theorem bvals_length (p : List Nat) : (bvals p).length = p.length := by simp [bvals]
theorem bvals_one (p : List Nat) : ∀ u ∈ bvals p, u.oneCell' = true := by
  intro u hu
  simp only [bvals, List.mem_map] at hu
  obtain ⟨x, _, rfl⟩ := hu
  rfl

/-- the slice value '.slice A n c' reads as the bytes bs, and lies below block B -/
structure Rd (w : World) (B : Nat) (A : Option Addr) (n c : Nat) (bs : List Nat) : Prop where
  len : bs.length = n
  cap : n ≤ c
  no : A = none → c = 0
  cell : 0 < n → ∃ ad, A = some ad ∧ ad.block < B ∧ ∀ j, j < n → w.cell? (ad.add j) = some (.int .u8 ((bs.getD j 0 : Nat) : Int))

section
variable {w w' : World} {B B' n c : Nat} {A : Option Addr} {bs : List Nat}
theorem Rd.at_ {k : Nat} (h : Rd w B A n c bs) (hk : k < n) : ∃ ad, A = some ad ∧ ad.block < B ∧ w.cell? (ad.add k) = some (.int .u8 ((bs.getD k 0 : Nat) : Int)) := by
  obtain ⟨ad, e, hb, hc⟩ := h.cell (by omega)
  exact ⟨ad, e, hb, hc k hk⟩
theorem Rd.keep (h : Rd w B A n c bs) (hk : ∀ p : Addr, p.block < B → w'.cell? p = w.cell? p) : Rd w' B A n c bs :=
  ⟨h.len, h.cap, h.no, fun hn => by
    obtain ⟨ad, e, hb, hc⟩ := h.cell hn
    exact ⟨ad, e, hb, fun j hj => (hk _ (by rw [add_block]; exact hb)).trans (hc j hj)⟩⟩
theorem Rd.more (h : Rd w B A n c bs) (hB : B ≤ B') : Rd w B' A n c bs :=
  ⟨h.len, h.cap, h.no, fun hn => by
    obtain ⟨ad, e, hb, hc⟩ := h.cell hn
    exact ⟨ad, e, by omega, hc⟩⟩
theorem Rd.below (h : Rd w B A n c bs) (hb : Below B w w') : Rd w' B A n c bs := h.keep fun _ hp => hb.cell hp
theorem Rd.grown (h : Rd w B A n c bs) {row : Option Nat} (hg : w.grownBy w' row) (hB : B ≤ w.heap.size) (hr : ∀ g, row = some g → B ≤ g) : Rd w' B A n c bs :=
  h.keep fun p hp => World.cell?_of_block (hg.block p.block (by omega) (fun e => by have := hr _ e.symm; omega))
theorem Rd.far (h : Rd w B A n c bs) {g : Nat} (hg : w.grownBy w' (some g)) (hB : B ≤ w.heap.size) (hne : ∀ ad, A = some ad → ad.block ≠ g) : Rd w' B A n c bs :=
  ⟨h.len, h.cap, h.no, fun hn => by
    obtain ⟨ad, e, hb, hc⟩ := h.cell hn
    refine ⟨ad, e, hb, fun j hj => (World.cell?_of_block (hg.block _ (by rw [add_block]; omega) (fun e2 => ?_))).trans (hc j hj)⟩
    rw [add_block] at e2
    injection e2 with e2
    exact hne ad e e2⟩
theorem Rd.drew (h : Rd w B A n c bs) : Rd w.drew B A n c bs := ⟨h.len, h.cap, h.no, h.cell⟩
theorem Rd.drewN (h : Rd w B A n c bs) (k : Nat) : Rd (w.drewN k) B A n c bs := ⟨h.len, h.cap, h.no, h.cell⟩
theorem Rd.cutTo {m a : Nat} (h : Rd w B A m c bs) (hk : a + n ≤ m) : Rd w B (A.map (fun x => x.add a)) n (c - a) ((bs.drop a).take n) := by
  have hc := h.cap
  refine ⟨by rw [List.length_take, List.length_drop, h.len]; omega, by omega, ?_, fun hn => ?_⟩
  · intro e
    cases A with
    | none => have := h.no rfl; omega
    | some ad => cases e
  · obtain ⟨ad, rfl, hb, hcell⟩ := h.cell (by omega)
    refine ⟨ad.add a, rfl, by rw [add_block]; exact hb, fun j hj => ?_⟩
    rw [add_add', hcell (a + j) (by omega), List.getD_eq_getElem?_getD, List.getD_eq_getElem?_getD, List.getElem?_take_of_lt hj, List.getElem?_drop]
theorem Rd.cutEnd {m a : Nat} (h : Rd w B A m a bs) (hk : a + n ≤ m) : Rd w B A n 0 ((bs.drop a).take n) := by
  have hc := h.cap
  have hn : n = 0 := by omega
  subst hn
  exact ⟨by simp, by omega, fun _ => rfl, fun h => absurd h (by omega)⟩
theorem Rd.cutHead {m : Nat} (h : Rd w B A m c bs) (hk : n ≤ m) : Rd w B A n c (bs.take n) := by
  have hc := h.cap
  refine ⟨by rw [List.length_take, h.len]; omega, by omega, h.no, fun hn => ?_⟩
  obtain ⟨ad, rfl, hb, hcell⟩ := h.cell (by omega)
  refine ⟨ad, rfl, hb, fun j hj => ?_⟩
  rw [hcell j (by omega), List.getD_eq_getElem?_getD, List.getD_eq_getElem?_getD, List.getElem?_take_of_lt hj]
theorem Rd.nil_ : Rd w B none 0 0 [] := ⟨rfl, Nat.le_refl _, fun _ => rfl, fun h => absurd h (by omega)⟩
theorem Rd.own {base : Nat} {t : TypeId} (h : w.ownsRow base t 1 (.slice A n c) n (bvals bs)) : Rd w w.heap.size A n c bs := by
  have hl : bs.length = n := by have := h.1; simpa [bvals] using this
  have hc : n ≤ c ∧ (A = none → c = 0) := by
    rcases h.2 with ⟨e, h0⟩ | ⟨g, cap, cur, e, _, _, hnc, _⟩
    · injection e with e1 e2 e3
      exact ⟨by omega, fun _ => e3⟩
    · injection e with e1 e2 e3
      exact ⟨by omega, fun hA => by rw [hA] at e1; cases e1⟩
  refine ⟨hl, hc.1, hc.2, fun hn => ?_⟩
  obtain ⟨g, cap, hv, _, hlt⟩ := h.form hn
  have hA : A = some ⟨g, 0, none⟩ := by injection hv
  subst hA
  refine ⟨_, rfl, hlt, fun j hj => ?_⟩
  have := h.cells (g := g) rfl j (bval (bs.getD j 0)) (by
    simp [bvals, List.getD_eq_getElem?_getD, (by omega : j < bs.length)])
  exact this
end

theorem Tryz.infoB : (Tryz.prog.info? 5).map (fun i => (i.zero, i.size, i.bytes)) = some (some (.int .u8 0), 1, 1) := by kernel_rfl

/-- v is a slice of bytes of the call's own (made behind the world w0), it holds bs; of what lay in w0 nothing has turned -/
structure Own (w0 w : World) (v : Value) (bs : List Nat) : Prop where
  row : w.ownsRow w0.heap.size 5 1 v bs.length (bvals bs)
  bel : Below w0.heap.size w0 w

theorem Own.nil_ (w0 w : World) (h : Below w0.heap.size w0 w) : Own w0 w (.slice none 0 0) [] := ⟨World.ownsRow_nil _ _ _ _, h⟩
theorem Own.alloc {w0 w : World} {v : Value} {bs : List Nat} (h : Own w0 w v bs) (o : Obj) : Own w0 (w.alloc o) v bs := ⟨h.row.alloc o, h.bel.alloc h.bel.size o⟩
theorem Own.drewN {w0 w : World} {v : Value} {bs : List Nat} (h : Own w0 w v bs) (n : Nat) : Own w0 (w.drewN n) v bs := ⟨h.row, ⟨h.bel.os, h.bel.tape, h.bel.output, h.bel.size, h.bel.block⟩⟩
theorem Own.drew {w0 w : World} {v : Value} {bs : List Nat} (h : Own w0 w v bs) : Own w0 w.drew v bs := ⟨h.row, h.bel.drew⟩
theorem Own.form {w0 w : World} {v : Value} {bs : List Nat} (h : Own w0 w v bs) : ∃ A c, v = .slice A bs.length c ∧ Rd w w.heap.size A bs.length c bs := by
  rcases h.row.2 with ⟨rfl, h0⟩ | ⟨g, cap, cur, rfl, _⟩
  · have : bs = [] := List.eq_nil_of_length_eq_zero h0
    subst this
    exact ⟨_, _, rfl, Rd.nil_⟩
  · exact ⟨_, _, rfl, Rd.own h.row⟩
theorem Own.lenform {w0 w : World} {v : Value} {bs : List Nat} (h : Own w0 w v bs) {m : Nat} (hl : bs.length = m + 1) : ∃ g c, v = .slice (some ⟨g, 0, none⟩) (m + 1) c := by
  rcases h.row.2 with ⟨rfl, h0⟩ | ⟨g, cap, cur, rfl, _⟩
  · omega
  · exact ⟨g, cap, by rw [hl]⟩
theorem Own.rd {w0 w : World} {A : Option Addr} {n c : Nat} {bs : List Nat} (h : Own w0 w (.slice A n c) bs) : Rd w w.heap.size A n c bs := by
  obtain ⟨A', c', e, hr⟩ := h.form
  injection e with e1 e2 e3
  subst e1 e2 e3
  exact hr
theorem Own.keep {w0 w w2 : World} {v : Value} {bs : List Nat} (h : Own w0 w v bs) (hb : Below w.heap.size w w2) : Own w0 w2 v bs := by
  refine ⟨⟨h.row.1, ?_⟩, h.bel.trans (hb.mono h.bel.size)⟩
  rcases h.row.2 with h1 | ⟨g, cap, cur, hv, hg, hh, r⟩
  · exact .inl h1
  · refine .inr ⟨g, cap, cur, hv, hg, ?_, r⟩
    rw [hb.block g (by
      rcases Nat.lt_or_ge g w.heap.size with hlt | hge
      · exact hlt
      · rw [Array.getElem?_eq_none hge] at hh; cases hh)]
    exact hh
theorem Own.weak {w0 w1 w : World} {v : Value} {bs : List Nat} (h : Own w1 w v bs) (hb : Below w0.heap.size w0 w1) : Own w0 w v bs := by
  refine ⟨⟨h.row.1, ?_⟩, hb.trans (h.bel.mono hb.size)⟩
  rcases h.row.2 with h1 | ⟨g, cap, cur, hv, hg, r⟩
  · exact .inl h1
  · exact .inr ⟨g, cap, cur, hv, Nat.le_trans hb.size hg, r⟩
theorem Rd.one (w : World) (x : Nat) : Rd (w.alloc (.cells #[.int .u8 (x : Int)] 5)) (w.heap.size + 1) (some ⟨w.heap.size, 0, none⟩) 1 1 [x] :=
  ⟨rfl, Nat.le_refl _, fun h => (by cases h), fun _ => ⟨_, rfl, by simp, fun j hj => by
    have : j = 0 := by omega
    subst this
    exact cell_one_new w (.int .u8 (x : Int)) _ 0 _ rfl⟩⟩

theorem two_new {w wr : World} {a b : Value} {t : TypeId} (h : Below (w.alloc (.cells #[a, b] t)).heap.size (w.alloc (.cells #[a, b] t)) wr) :
    wr.cell? ⟨w.heap.size, 0, none⟩ = some a ∧ wr.cell? ⟨w.heap.size, 1, none⟩ = some b ∧ wr.frozen? ⟨w.heap.size, 0, none⟩ = false ∧ wr.frozen? ⟨w.heap.size, 1, none⟩ = false := by
  have hb : w.heap.size < (w.alloc (.cells #[a, b] t)).heap.size := by simp
  refine ⟨?_, ?_, ?_, ?_⟩
  · rw [h.cell (p := ⟨w.heap.size, 0, none⟩) hb]; simp
  · rw [h.cell (p := ⟨w.heap.size, 1, none⟩) hb]; simp
  · rw [h.frozen (p := ⟨w.heap.size, 0, none⟩) hb]; simp
  · rw [h.frozen (p := ⟨w.heap.size, 1, none⟩) hb]; simp
/-- two stores into blocks ahead of the row -/
theorem Own.past2 {w0 w1 w : World} {v : Value} {bs : List Nat} (h : Own w1 w v bs) (hb : Below w0.heap.size w0 w1) {p q : Addr} (h0 : w0.heap.size ≤ p.block) (h1 : p.block < w1.heap.size) (k0 : w0.heap.size ≤ q.block) (k1 : q.block < w1.heap.size) (u u' : Value) :
    Own w0 ((w.setCell p u).setCell q u') v bs := by
  refine ⟨?_, ((hb.trans (h.bel.mono hb.size)).setCell h0 u).setCell k0 u'⟩
  have := ownsRow_setCell_below (ownsRow_setCell_below h.row h1 u) k1 u'
  refine ⟨this.1, ?_⟩
  rcases this.2 with h2 | ⟨g, cap, cur, hv, hg, r⟩
  · exact .inl h2
  · exact .inr ⟨g, cap, cur, hv, Nat.le_trans hb.size hg, r⟩

theorem Own.lit0 {w0 w : World} (h : Below w0.heap.size w0 w) : Own w0 (w.alloc (.cells #[] 5)) (.slice (some ⟨w.heap.size, 0, none⟩) 0 0) [] :=
  ⟨World.ownsRow_lit w #[] 0 h.size (by unfold maxLen; omega) rfl, h.alloc h.size _⟩
set_option maxRecDepth 20000 in
/-- append onto a slice of bytes of the call's own: the run -/
theorem run_app (ty : TypeId) {w0 w : World} {B : Nat} {v : Value} {bs cs : List Nat} {A : Option Addr} {m c : Nat} (hown : Own w0 w v bs) (hr : Rd w B A m c cs) (hm : bs.length + m ≤ 1073741824) :
    ∃ v' w', (Builtin.append_ #[22, 22] ty #[v, .slice A m c]).run Tryz.prog w = .ok v' w' ∧ Own w0 w' v' (bs ++ cs) ∧ w.grownBy w' v.ownBlock := by
  obtain ⟨i0, hi, hz0, hz1, hz2⟩ := info_parts Tryz.infoB
  have hg : ∀ k, v.ownBlock = some k → w0.heap.size ≤ k := fun k hk => (hown.row.lt k hk).1
  cases A with
  | none =>
    have hm0 : m = 0 := by
      rcases Nat.eq_zero_or_pos m with h0 | h0
      · exact h0
      · obtain ⟨ad, e, _⟩ := hr.cell h0
        cases e
    subst hm0
    have hcs : cs = [] := List.eq_nil_of_length_eq_zero hr.len
    subst hcs
    have hc0 : c = 0 := hr.no rfl
    subst hc0
    exact ⟨v, w, run_append_owned_none w w0.heap.size _ ty 5 i0 1 Tryz.underlying22 hi v bs.length (bvals bs) hown.row, by simpa using hown, World.grownBy.refl w _⟩
  | some ad =>
    obtain ⟨v', w', hrun, hown', hgrow, _⟩ := run_append_own (P := Tryz.prog) w w0.heap.size 22 ty 5 i0 (.int .u8 0) 1 1 Tryz.underlying22 hi hz0 hz1 hz2 rfl (by decide) v bs.length (bvals bs) hown.row ad m c (bvals cs)
      (by rw [bvals_length, hr.len]; omega) (by
        intro j u hu
        have hj : j < m := by
          have := List.getElem?_eq_some_iff.1 hu
          obtain ⟨h1, _⟩ := this
          rw [bvals_length, hr.len] at h1
          exact h1
        obtain ⟨ad', e, _, hc⟩ := hr.cell (by omega)
        injection e with e
        subst e
        rw [hc j hj, ← hu]
        have : j < cs.length := by rw [hr.len]; exact hj
        simp [bvals, bval, List.getD_eq_getElem?_getD, this]) (bvals_one cs) (by unfold maxLen; omega) (by omega) hown.bel.size
    refine ⟨v', w', hrun, ⟨?_, hown.bel.grown hgrow hown.bel.size hg⟩, hgrow⟩
    rw [bvals_app, List.length_append, hr.len]
    exact hown'
theorem wp_app {o : Oper} {a : Act} {K : Act → World → Prop} {Q : Exit → Act → World → Prop} (s x : Operand)
    (ho : o.op = .call { callee := .builtin .append, args := #[s, x], argTypes := #[22, 22] })
    {w0 w : World} {B : Nat} {v : Value} {bs cs : List Nat} {A : Option Addr} {m c : Nat} (hs : a.eval s = v) (hx : a.eval x = .slice A m c) (hown : Own w0 w v bs) (hr : Rd w B A m c cs)
    (hm : bs.length + m ≤ 1073741824) (h : ∀ v' w', Own w0 w' v' (bs ++ cs) → w.grownBy w' v.ownBlock → K (a.put o.dst v') w') : o.wp Tryz.prog a w K Q := by
  obtain ⟨v', w', hrun, h1, h2⟩ := run_app o.type hown hr hm
  unfold Oper.wp execOp
  simp only [ho, resolve, invoke, builtin, Sem.run_bind, Sem.run_pure, Result.andThen_ok, List.map_toArray, List.map_cons, List.map_nil, hs, hx, hrun]
  exact h v' w' h1 h2
/-- at a step of a region that draws its order -/
theorem step_app {ops : Array Oper} {o : Oper} {a : Act} {K : Act → World → Prop} {Q : Exit → Act → World → Prop} {E : Prop} (hgd : o.guard = none) (s x : Operand)
    (ho : o.op = .call { callee := .builtin .append, args := #[s, x], argTypes := #[22, 22] })
    {w0 w : World} {B : Nat} {v : Value} {bs cs : List Nat} {A : Option Addr} {m c : Nat} (hs : a.eval s = v) (hx : a.eval x = .slice A m c) (hown : Own w0 w v bs) (hr : Rd w B A m c cs)
    (hm : bs.length + m ≤ 1073741824) (h : ∀ v' w', Own w0 w' v' (bs ++ cs) → w.grownBy w' v.ownBlock → K (a.put o.dst v') w') :
    if Region.wanted o (yielded ops a.tmps) = true then Oper.wp Tryz.prog o a w K Q else E := by
  have hw : Region.wanted o (yielded ops a.tmps) = true := by simp [Region.wanted, hgd]
  rw [if_pos hw]
  exact wp_app s x ho hs hx hown hr hm h
/-- in a plain region -/
theorem wpList_app {ops : Array Oper} {rest : List Oper} {o : Oper} {a : Act} {Q : Exit → Act → World → Prop} (hgd : o.guard = none) (s x : Operand)
    (ho : o.op = .call { callee := .builtin .append, args := #[s, x], argTypes := #[22, 22] })
    {w0 w : World} {B : Nat} {v : Value} {bs cs : List Nat} {A : Option Addr} {m c : Nat} (hs : a.eval s = v) (hx : a.eval x = .slice A m c) (hown : Own w0 w v bs) (hr : Rd w B A m c cs)
    (hm : bs.length + m ≤ 1073741824)
    (h : ∀ v' w', Own w0 w' v' (bs ++ cs) → wpList Tryz.prog ops Q rest (a.put o.dst v') w') : wpList Tryz.prog ops Q (o :: rest) a w :=
  wpList_plain hgd fun _ hK => wp_app s x ho hs hx hown hr hm fun v' w' h2 _ => hK _ _ (h v' w' h2)

section
variable {w0 w : World} {g n c : Nat} {bs : List Nat}
theorem Own.len (h : Own w0 w (.slice (some ⟨g, 0, none⟩) n c) bs) : bs.length = n := h.rd.len
theorem Own.cell (h : Own w0 w (.slice (some ⟨g, 0, none⟩) n c) bs) (j : Nat) (hj : j < n) : w.cell? ⟨g, j, none⟩ = some (.int .u8 ((bs.getD j 0 : Nat) : Int)) := by
  have hl := h.len
  subst hl
  rw [h.row.cellAt j (by omega)]
  simp [bvals, bval, List.getD_eq_getElem?_getD, hj]
theorem Own.free (h : Own w0 w (.slice (some ⟨g, 0, none⟩) n c) bs) (j : Nat) : w.frozen? ⟨g, j, none⟩ = false := by
  have hl := h.len
  subst hl
  exact h.row.frozenAt j
theorem Own.at_ (h : Own w0 w (.slice (some ⟨g, 0, none⟩) n c) bs) : 0 < n → w0.heap.size ≤ g := fun hn => by
  have hl := h.len
  subst hl
  exact (h.row.lt g rfl).1
theorem Own.from_ (h : Own w0 w (.slice (some ⟨g, 0, none⟩) n c) bs) : w0.heap.size ≤ g := by
  have hl := h.len
  subst hl
  exact (h.row.lt g rfl).1
theorem Own.set (h : Own w0 w (.slice (some ⟨g, 0, none⟩) n c) bs) (j x : Nat) : Own w0 (w.setCell ⟨g, j, none⟩ (.int .u8 (x : Int))) (.slice (some ⟨g, 0, none⟩) n c) (bs.set j x) := by
  have hl := h.len
  subst hl
  have h1 := h.row.stored j (.int .u8 (x : Int))
  refine ⟨?_, h.bel.grown h1.2 h.bel.size (fun k hk => by injection hk with hk; subst hk; exact h.from_)⟩
  have e : bvals (bs.set j x) = (bvals bs).set j (.int .u8 (x : Int)) := by simp [bvals, bval, List.map_set]
  rw [e, List.length_set]
  exact h1.1
end

/-- make of a slice of bytes -/
theorem wpList_mk {ops : Array Oper} {rest : List Oper} {o : Oper} {a : Act} {Q : Exit → Act → World → Prop} (hgd : o.guard = none) (l r : Operand)
    (ho : o.op = Op.makeSlice 22 l r) {w0 w : World} (hb : Below w0.heap.size w0 w) {L C : Int} (n : Nat) (hl : a.eval l = .int .i64 L) (hr : a.eval r = .int .i64 C) (hL : L = (n : Int)) (hC : C = (n : Int)) (hn : n ≤ 1073741824)
    (h : ∀ w', Own w0 w' (.slice (some ⟨w.heap.size, 0, none⟩) n n) (List.replicate n 0) → Below w.heap.size w w' → wpList Tryz.prog ops Q rest (a.put o.dst (.slice (some ⟨w.heap.size, 0, none⟩) n n)) w') :
    wpList Tryz.prog ops Q (o :: rest) a w := by
  obtain ⟨i0, hi, hz0, hz1, hz2⟩ := info_parts Tryz.infoB
  refine wpList_make_full w hgd l r _ ho w0.heap.size 5 i0 (.int .u8 0) 1 Tryz.underlying22 hi hz0 hz1 .i64 .i64 L C n hl hr hL hC (by rw [hz2]; omega) (by unfold maxLen; omega) hb.size ?_
  intro w' hown hgrow
  have e : (madeCells (Value.int .u8 0).cells (n * 1)).toList = bvals (List.replicate n 0) := by
    have := toList_madeCells_one (.int .u8 0) (n * 1)
    rw [Nat.mul_one] at this ⊢
    simpa [bvals, bval, Value.cells] using this
  rw [e] at hown
  refine h w' ⟨by rw [List.length_replicate]; exact hown, hb.grown hgrow hb.size (fun k hk => by cases hk)⟩ ?_
  exact (Below.refl _ _).grown hgrow (Nat.le_refl _) (fun k hk => by cases hk)

theorem Own.whole {w0 w : World} {g n : Nat} {bs : List Nat} (h : Own w0 w (.slice (some ⟨g, 0, none⟩) n n) bs) : w.heap[g]? = some (.cells (bvals bs).toArray 5 (0, 0)) := by
  have hl := h.len
  rcases h.row.2 with ⟨e, _⟩ | ⟨g', cap, cur, e, _, hh, _, _, hs, ht⟩
  · cases e
  · injection e with e1 e2 e3
    injection e1 with e1
    injection e1 with e1
    subst e1
    have : cur.toList = bvals bs := by rw [← ht, List.take_of_length_le (by rw [Array.length_toList]; omega)]
    rw [hh, ← this]
theorem Own.ofWhole {w0 w : World} {g n : Nat} {bs : List Nat} (hw : w.heap[g]? = some (.cells (bvals bs).toArray 5 (0, 0))) (hb : Below w0.heap.size w0 w) (hg : w0.heap.size ≤ g) (hl : bs.length = n) (hn : n ≤ maxLen) : Own w0 w (.slice (some ⟨g, 0, none⟩) n n) bs := by
  subst hl
  exact ⟨⟨by simp [bvals], .inr ⟨g, bs.length, _, rfl, hg, hw, Nat.le_refl _, hn, by simp [bvals], by simp [bvals, List.take_of_length_le]⟩⟩, hb⟩
/-- copy onto the head of a slice of bytes that was just made -/
theorem wpList_cp {ops : Array Oper} {rest : List Oper} {o : Oper} {a : Act} {Q : Exit → Act → World → Prop} (hgd : o.guard = none) (d s : Operand)
    (ho : o.op = .call { callee := .builtin .copy, args := #[d, s], argTypes := #[22, 22] })
    {w0 w : World} {B g n m c : Nat} {A : Option Addr} {bs cs : List Nat} (hd : a.eval d = .slice (some ⟨g, 0, none⟩) n n) (hs : a.eval s = .slice A m c)
    (hown : Own w0 w (.slice (some ⟨g, 0, none⟩) n n) bs) (hr : Rd w B A m c cs) (hmn : m ≤ n) (hn : n ≤ 1073741824)
    (h : ∀ w', Own w0 w' (.slice (some ⟨g, 0, none⟩) n n) (cs ++ bs.drop m) → wpList Tryz.prog ops Q rest (a.put o.dst (goInt m)) w') : wpList Tryz.prog ops Q (o :: rest) a w := by
  have hl := hown.len
  have hlc : (bvals cs).length = m := by rw [bvals_length, hr.len]
  refine wpList_copy_splice hgd d s _ _ ho 5 Tryz.underlying22 (by
      obtain ⟨i0, hi, hz0, hz1, hz2⟩ := info_parts Tryz.infoB
      rw [hi]; simp [hz1]) (some ⟨g, 0, none⟩) A n n m c hd hs g 0 (bvals bs) 5 hown.whole (bvals cs) (by rw [hlc]; exact (Nat.min_eq_left hmn).symm) ?_ (by rw [hlc, bvals_length]; omega) (bvals_one cs) w0.heap.size w0 hown.bel hown.from_ ?_
  · intro hpos
    rw [hlc] at hpos
    obtain ⟨ad, e, _, hc⟩ := hr.cell hpos
    refine ⟨rfl, ad, e, fun j v hj => ?_⟩
    have hj' : j < cs.length := by
      have := (List.getElem?_eq_some_iff.1 hj).1
      rwa [bvals_length] at this
    rw [hc j (by rw [← hr.len]; exact hj'), ← hj]
    simp [bvals, bval, List.getD_eq_getElem?_getD, hj']
  · intro w' hw' hb'
    rw [hlc]
    refine h w' (Own.ofWhole ?_ hb' hown.from_ (by rw [List.length_append, List.length_drop, hr.len, hl]; omega) (by unfold maxLen; omega))
    have e : splice (bvals bs) 0 (bvals cs) = bvals (cs ++ bs.drop m) := by
      unfold splice
      rw [hlc]
      simp [bvals, List.map_drop]
    rw [← e]
    exact hw'.out

/-- what a function that makes bytes comes to -/
def RetB (w : World) (bs : List Nat) (e : Ending) (w' : World) : Prop := ∃ A c, e = .returned (.slice A bs.length c) ∧ Own w w' (.slice A bs.length c) bs
theorem RetB.mk {w w' : World} {v : Value} {bs : List Nat} (h : Own w w' v bs) : RetB w bs (.returned v) w' := by
  obtain ⟨A, c, rfl, _⟩ := h.form
  exact ⟨A, c, rfl, h⟩

/-- bytes as a string -/
def strB (bs : List Nat) : ByteArray := ⟨(bs.map UInt8.ofNat).toArray⟩
theorem run_str {w : World} {B n c : Nat} {A : Option Addr} {bs : List Nat} (h : Rd w B A n c bs) : (convert 22 9 (.slice A n c)).run Tryz.prog w = .ok (.string (strB bs)) w := by
  rw [run_convert_bytes_string w _ _ 5 _ n c Tryz.underlying22 Tryz.underlying5 Tryz.underlying9]
  cases A with
  | none =>
    have h0 := h.no rfl
    have h1 := h.cap
    have : bs = [] := List.eq_nil_of_length_eq_zero (by have := h.len; omega)
    subst this
    simp [Conv.bytesToString, strB]
    rfl
  | some ad =>
    have hl : (loadCells ad n).run Tryz.prog w = .ok ((bs.map fun x : Nat => (x : Int)).map (Value.int .u8)).toArray w := by
      have := run_loadCells_list (P := Tryz.prog) w ad ((bs.map fun x : Nat => (x : Int)).map (Value.int .u8)) (fun j v hj => by
        have hjl : j < bs.length := by
          have := (List.getElem?_eq_some_iff.1 hj).1
          simpa using this
        obtain ⟨ad', e, _, hc⟩ := h.cell (by have := h.len; omega)
        injection e with e
        subst e
        rw [hc j (by rw [← h.len]; exact hjl), ← hj]
        simp [List.getD_eq_getElem?_getD, hjl])
      simpa [h.len] using this
    rw [run_bytesToString w _ n c _ hl, foldl_push_bytes]
    simp [strB, ByteArray.empty, ByteArray.emptyWithCapacity]
    congr 3

theorem enc_length (p : List Bool) : (enc p).length = p.length := by simp [enc]
theorem enc_getD (p : List Bool) (i : Nat) : (enc p).getD i 0 = (p.getD i false).toNat := by
  simp only [enc, List.getD_eq_getElem?_getD, List.getElem?_map]
  cases p[i]? <;> rfl
theorem enc_cut (p : List Bool) (a n : Nat) : ((enc p).drop a).take n = enc (cut p a n) := by simp [enc, cut]
theorem enc_take (p : List Bool) (n : Nat) : (enc p).take n = enc (p.take n) := by simp [enc]
theorem enc_app (p q : List Bool) : enc (p ++ q) = enc p ++ enc q := by simp [enc]

end Go.Proofs.YtaebljoacffghaaGreatDoor

/-
  From a walk to a law's row, for any parameters: a law that returns true and changes nothing that was there meets its row.
-/
namespace Go.Proofs.YtaebljoacffghaaGreatDoor
open Go.ChangeShapes Go.WideShapes Go.ChangeAt Go.RowKit

theorem Tryz.own : ownKnob Tryz.prog.godebug = none := by kernel_rfl
theorem Tryz.laidOut : laidOutB Tryz.prog = true := by kernel_rfl

/-- what a law comes to: true, and of what was there nothing has turned -/
def RetTrue (w : World) (e : Ending) (w' : World) : Prop := e = .returned (.bool true) ∧ Below w.heap.size w w'

section
variable {H : Type} {enc : TypeId × Value → H} {W W' : World}
theorem wf_u64 {n : Int} (h : (Lit.int .u64 n).wf = true) : ∃ k : Nat, n = (k : Int) ∧ k ≤ 18446744073709551615 := by
  simp [Lit.wf, IntKind.min, IntKind.max, IntKind.signed, IntKind.bits] at h
  exact ⟨n.toNat, by omega, by omega⟩
theorem wf_i64 {n : Int} (h : (Lit.int .i64 n).wf = true) : -9223372036854775808 ≤ n ∧ n ≤ 9223372036854775807 := by
  simp [Lit.wf, IntKind.min, IntKind.max, IntKind.signed, IntKind.bits] at h
  omega

/-- readings of arguments are carried over -/
theorem trodAll_below (hb : Below W.heap.size W W') : ∀ (ts : List TypeId) (vs : List Value) (ds : List (DataW H)) (ps : List MemPlace), (ts.all fun t => Tryz.prog.readableRec t && decide (t < Tryz.prog.types.size)) = true →
    DataW.TrodAll enc Tryz.prog W 0 (fun _ => true) true ts vs ds ps → (∀ x ∈ ps, x.block < W.heap.size) → DataW.TrodAll enc Tryz.prog W' 0 (fun b => decide (b < W.heap.size)) true ts vs ds ps := by
  intro ts
  induction ts with
  | nil =>
    intro vs ds ps _ h _
    obtain ⟨rfl, rfl, rfl⟩ := trodAll_nil h
    exact trodAll_mk0
  | cons t ts ih =>
    intro vs ds ps hok h hlt
    obtain ⟨v, vs', d, ds', p, q, rfl, rfl, rfl, h0, r⟩ := trodAll_cons h
    simp only [List.all_cons, Bool.and_eq_true, decide_eq_true_eq] at hok
    exact trodAll_cons_mk (Below.trod Tryz.laidOut hok.1.1 hok.1.2 h0 hb (fun x hx => hlt x (by simp [hx]))) (ih vs' ds' q (by simpa using hok.2) r (fun x hx => hlt x (by simp [hx])))

/-- a law's row is met -/
theorem law_post {f : Func} {s : ChangeSpec} {args : Array Value} {ds gs : List (DataW H)} {before : List MemPlace} (hvars : s.vars = []) (hres : f.resultTypes = #[4])
    (hfn : s.fn H (ds ++ []) = { results := [.lit (.bool true)], args := ds }) (hok : (f.params.toList.all fun t => Tryz.prog.readableRec t && decide (t < Tryz.prog.types.size)) = true)
    (hW : DataW.Whole enc Tryz.prog f.params.toList s.vars false W args.toList ds gs before) {e : Ending} (h : RetTrue W e W') :
    ∃ v, e = .returned v ∧ s.post enc Tryz.prog f false true false false W args v W' := by
  obtain ⟨rfl, hb⟩ := h
  have hW' := hW
  obtain ⟨p, q, hA, hV, rfl, _, _⟩ := hW
  rw [hvars] at hV
  obtain ⟨rfl, rfl⟩ := trodVars_none hV
  have hlt : ∀ x ∈ p, x.block < W.heap.size := fun x hx => hW'.lt x (by simpa using hx)
  refine ⟨_, rfl, ds, [], _, [], p, [], hW', ?_, ?_, ?_, hb.frame _, fun h => by cases h⟩
  · rw [hfn, hres]
    exact trodAll_mk1 (shut_bool Tryz.underlying4 _)
  · rw [hfn]
    exact trodAll_below hb _ _ _ _ hok hA hlt
  · rw [hvars, hfn]
    rfl
end

end Go.Proofs.YtaebljoacffghaaGreatDoor

/-
  An argument of a law opened as bytes.
-/
namespace Go.Proofs.YtaebljoacffghaaGreatDoor
open Go.ChangeShapes Go.WideShapes Go.ChangeAt Go.RowKit

theorem Tryz.cellsB : Tryz.prog.cellsOf 5 = 1 := by kernel_rfl

section
variable {H : Type} {enc : TypeId × Value → H} {W W' : World}
set_option maxRecDepth 20000 in
/-- an argument of type []byte -/
theorem open_bytes {base : Nat} {v : Value} {d : DataW H} {p : List MemPlace} (hv : Value.okWide Tryz.prog W .any base 22 v) (h : DataW.Trod enc Tryz.prog W 0 (fun _ => true) true 22 v d p) :
    ∃ A n c bs, v = .slice A n c ∧ Rd W W.heap.size A n c bs ∧ (∀ x ∈ bs, x < 256) ∧ n ≤ 9223372036854775807 := by
  obtain ⟨A, n, c, rfl⟩ := okWide_slice Tryz.underlying22 hv
  obtain ⟨fuel, hf⟩ := h
  rcases open_ints Tryz.underlying22 Tryz.underlying5 Tryz.cellsB hf with ⟨hcs, _⟩ | ⟨a, len, cap, zs, hcs, _, hl, hm, hz, _, hcell, hwz⟩
  · simp [Value.cells] at hcs
    obtain ⟨rfl, rfl, rfl⟩ := hcs
    exact ⟨none, 0, 0, [], rfl, Rd.nil_, by simp, by omega⟩
  · simp [Value.cells] at hcs
    obtain ⟨rfl, rfl, rfl⟩ := hcs
    simp only [if_true] at hz
    have hw : ∀ x ∈ zs, 0 ≤ x ∧ x < 256 := by
      intro x hx
      have := hwz x hx
      simp [Lit.wf, IntKind.min, IntKind.max, IntKind.signed, IntKind.bits] at this
      omega
    refine ⟨some a, n, c, (zs.take n).map Int.toNat, rfl, ⟨by simp; omega, hl, (fun h => by cases h), fun hn => ⟨a, rfl, ?_, fun j hj => ?_⟩⟩, ?_, by unfold maxLen at hm; omega⟩
    · have := World.block_lt_of_cell? W _ (hcell 0 (by omega))
      rwa [add_block] at this
    · rw [hcell j (by omega)]
      have hjz : j < zs.length := by omega
      have h2 := hw zs[j] (List.getElem_mem hjz)
      simp only [List.getD_eq_getElem?_getD, List.getElem?_map, List.getElem?_take_of_lt hj, List.getElem?_eq_getElem hjz, Option.map_some, Option.getD_some]
      rw [Int.toNat_of_nonneg h2.1]
    · intro x hx
      obtain ⟨y, hy, rfl⟩ := List.mem_map.1 hx
      have := hw y (List.mem_of_mem_take hy)
      omega
end

end Go.Proofs.YtaebljoacffghaaGreatDoor

/-
  A box of two cells in memory.
-/
namespace Go.Proofs.YtaebljoacffghaaGreatDoor
open Go.RowKit

/-- a box of two cells -/
structure BoxAt (w : World) (b : Nat) (s n : Value) : Prop where
  lt : b < w.heap.size
  c0 : w.cell? ⟨b, 0, none⟩ = some s
  c1 : w.cell? ⟨b, 1, none⟩ = some n
  f0 : w.frozen? ⟨b, 0, none⟩ = false
  f1 : w.frozen? ⟨b, 1, none⟩ = false
theorem BoxAt.new (w : World) (s n : Value) (t : TypeId) : BoxAt (w.alloc (.cells #[s, n] t)) w.heap.size s n := by
  obtain ⟨h0, h1, g0, g1⟩ := two_new (w := w) (a := s) (b := n) (t := t) (Below.refl _ _)
  exact ⟨by simp, h0, h1, g0, g1⟩
theorem BoxAt.below {w w' : World} {b : Nat} {s n : Value} (h : BoxAt w b s n) (hb : Below w.heap.size w w') : BoxAt w' b s n :=
  ⟨Nat.lt_of_lt_of_le h.lt hb.size, (hb.cell (p := ⟨b, 0, none⟩) h.lt).trans h.c0, (hb.cell (p := ⟨b, 1, none⟩) h.lt).trans h.c1, (hb.frozen (p := ⟨b, 0, none⟩) h.lt).trans h.f0, (hb.frozen (p := ⟨b, 1, none⟩) h.lt).trans h.f1⟩
theorem BoxAt.drew {w : World} {b : Nat} {s n : Value} (h : BoxAt w b s n) : BoxAt w.drew b s n := ⟨h.lt, h.c0, h.c1, h.f0, h.f1⟩
theorem BoxAt.set {w : World} {b : Nat} {s n : Value} (h : BoxAt w b s n) (s' n' : Value) : BoxAt ((w.setCell ⟨b, 0, none⟩ s').setCell ⟨b, 1, none⟩ n') b s' n' := by
  have c0 := h.c0
  have c1 := h.c1
  have f0 := h.f0
  have f1 := h.f1
  refine ⟨by simpa using h.lt, ?_, ?_, ?_, ?_⟩ <;> go_simp
theorem BoxAt.other {w : World} {b d : Nat} {s n : Value} (h : BoxAt w b s n) (hd : b ≠ d) (u u' : Value) : BoxAt ((w.setCell ⟨d, 0, none⟩ u).setCell ⟨d, 1, none⟩ u') b s n := by
  have c0 := h.c0
  have c1 := h.c1
  have f0 := h.f0
  have f1 := h.f1
  refine ⟨by simpa using h.lt, ?_, ?_, ?_, ?_⟩ <;> go_simp

theorem Rd.onA {w : World} {A : Option Addr} {n c : Nat} {bs : List Nat} (h : Rd w w.heap.size A n c bs) (o : Obj) : Rd (w.alloc o) (w.alloc o).heap.size A n c bs :=
  (h.below ((Below.refl _ _).alloc (Nat.le_refl _) o)).more (by simp)
theorem BoxAt.onA {w : World} {b : Nat} {s n : Value} (h : BoxAt w b s n) (o : Obj) : BoxAt (w.alloc o) b s n := h.below ((Below.refl _ _).alloc (Nat.le_refl _) o)
theorem BoxAt.then_ {w : World} {b : Nat} {s n : Value} (_ : BoxAt w b s n) (s' n' : Value) (t : TypeId) : BoxAt (w.alloc (.cells #[s', n'] t)) w.heap.size s' n' := BoxAt.new w s' n' t

end Go.Proofs.YtaebljoacffghaaGreatDoor

/-
  A box of three cells in memory.
-/
namespace Go.Proofs.YtaebljoacffghaaGreatDoor
open Go.RowKit


/-- a box of three cells -/
structure Box3 (w : World) (b : Nat) (s n t : Value) : Prop where
  lt : b < w.heap.size
  c0 : w.cell? ⟨b, 0, none⟩ = some s
  c1 : w.cell? ⟨b, 1, none⟩ = some n
  c2 : w.cell? ⟨b, 2, none⟩ = some t
  f0 : w.frozen? ⟨b, 0, none⟩ = false
  f1 : w.frozen? ⟨b, 1, none⟩ = false
  f2 : w.frozen? ⟨b, 2, none⟩ = false
theorem Box3.new (w : World) (s n t : Value) (ty : TypeId) : Box3 (w.alloc (.cells #[s, n, t] ty)) w.heap.size s n t := by
  refine ⟨by simp, ?_, ?_, ?_, ?_, ?_, ?_⟩ <;> go_simp
theorem Box3.below {w w' : World} {b : Nat} {s n t : Value} (h : Box3 w b s n t) (hb : Below w.heap.size w w') : Box3 w' b s n t :=
  ⟨Nat.lt_of_lt_of_le h.lt hb.size, (hb.cell (p := ⟨b, 0, none⟩) h.lt).trans h.c0, (hb.cell (p := ⟨b, 1, none⟩) h.lt).trans h.c1, (hb.cell (p := ⟨b, 2, none⟩) h.lt).trans h.c2,
    (hb.frozen (p := ⟨b, 0, none⟩) h.lt).trans h.f0, (hb.frozen (p := ⟨b, 1, none⟩) h.lt).trans h.f1, (hb.frozen (p := ⟨b, 2, none⟩) h.lt).trans h.f2⟩
theorem Box3.drew {w : World} {b : Nat} {s n t : Value} (h : Box3 w b s n t) : Box3 w.drew b s n t := ⟨h.lt, h.c0, h.c1, h.c2, h.f0, h.f1, h.f2⟩
theorem Box3.drewN {w : World} {b : Nat} {s n t : Value} (h : Box3 w b s n t) (k : Nat) : Box3 (w.drewN k) b s n t := ⟨h.lt, h.c0, h.c1, h.c2, h.f0, h.f1, h.f2⟩
theorem Box3.set {w : World} {b : Nat} {s n t : Value} (h : Box3 w b s n t) (s' n' t' : Value) : Box3 (((w.setCell ⟨b, 0, none⟩ s').setCell ⟨b, 1, none⟩ n').setCell ⟨b, 2, none⟩ t') b s' n' t' := by
  have c0 := h.c0
  have c1 := h.c1
  have c2 := h.c2
  have f0 := h.f0
  have f1 := h.f1
  have f2 := h.f2
  refine ⟨by simpa using h.lt, ?_, ?_, ?_, ?_, ?_, ?_⟩ <;> go_simp
theorem Box3.other {w : World} {b d : Nat} {s n t : Value} (h : Box3 w b s n t) (hd : b ≠ d) (k : Nat) (u : Value) : Box3 (w.setCell ⟨d, k, none⟩ u) b s n t := by
  have c0 := h.c0
  have c1 := h.c1
  have c2 := h.c2
  have f0 := h.f0
  have f1 := h.f1
  have f2 := h.f2
  refine ⟨by simpa using h.lt, ?_, ?_, ?_, ?_, ?_, ?_⟩ <;> go_simp
theorem Box3.onA {w : World} {b : Nat} {s n t : Value} (h : Box3 w b s n t) (o : Obj) : Box3 (w.alloc o) b s n t := h.below ((Below.refl _ _).alloc (Nat.le_refl _) o)

theorem BoxAt.oth {w : World} {b d : Nat} {s n : Value} (h : BoxAt w b s n) (hd : b ≠ d) (k : Nat) (u : Value) : BoxAt (w.setCell ⟨d, k, none⟩ u) b s n := by
  have c0 := h.c0
  have c1 := h.c1
  have f0 := h.f0
  have f1 := h.f1
  refine ⟨by simpa using h.lt, ?_, ?_, ?_, ?_⟩ <;> go_simp
/-- a box of two and one of three cells -/
structure Two23 (w : World) (b d : Nat) (s n x y z : Value) : Prop where
  e0 : w.cell? ⟨b, 0, none⟩ = some s
  e1 : w.cell? ⟨b, 1, none⟩ = some n
  g0 : w.cell? ⟨d, 0, none⟩ = some x
  g1 : w.cell? ⟨d, 1, none⟩ = some y
  g2 : w.cell? ⟨d, 2, none⟩ = some z
theorem Two23.of {w : World} {b d : Nat} {s n x y z : Value} (h : BoxAt w b s n) (h' : Box3 w d x y z) : Two23 w b d s n x y z := ⟨h.c0, h.c1, h'.c0, h'.c1, h'.c2⟩
/-- both written, the one of two ahead -/
theorem Two23.one {w : World} {b d : Nat} {s n x y z : Value} (h : BoxAt w b s n) (h' : Box3 w d x y z) (hd : b ≠ d) (s' n' x' y' z' : Value) :
    Two23 (((((w.setCell ⟨b, 0, none⟩ s').setCell ⟨b, 1, none⟩ n').setCell ⟨d, 0, none⟩ x').setCell ⟨d, 1, none⟩ y').setCell ⟨d, 2, none⟩ z') b d s' n' x' y' z' :=
  Two23.of ((((h.set s' n').oth hd 0 x').oth hd 1 y').oth hd 2 z') (((h'.other (Ne.symm hd) 0 s').other (Ne.symm hd) 1 n').set x' y' z')
/-- both written, the one of three ahead -/
theorem Two23.two {w : World} {b d : Nat} {s n x y z : Value} (h : BoxAt w b s n) (h' : Box3 w d x y z) (hd : b ≠ d) (s' n' x' y' z' : Value) :
    Two23 (((((w.setCell ⟨d, 0, none⟩ x').setCell ⟨d, 1, none⟩ y').setCell ⟨d, 2, none⟩ z').setCell ⟨b, 0, none⟩ s').setCell ⟨b, 1, none⟩ n') b d s' n' x' y' z' :=
  Two23.of ((((h.oth hd 0 x').oth hd 1 y').oth hd 2 z').set s' n') (((h'.set x' y' z').other (Ne.symm hd) 0 s').other (Ne.symm hd) 1 n')

/-- bytes of the call's own, made behind block B; of what lay in w0 nothing has turned -/
structure Mid (w0 : World) (B : Nat) (w : World) (v : Value) (bs : List Nat) : Prop where
  row : w.ownsRow B 5 1 v bs.length (bvals bs)
  bel : Below w0.heap.size w0 w
  le : w0.heap.size ≤ B
theorem Mid.of {w0 w1 w : World} {v : Value} {bs : List Nat} (h : Own w1 w v bs) (hb : Below w0.heap.size w0 w1) : Mid w0 w1.heap.size w v bs := ⟨h.row, hb.trans (h.bel.mono hb.size), hb.size⟩
theorem Mid.set {w0 w : World} {B : Nat} {v : Value} {bs : List Nat} (h : Mid w0 B w v bs) (p : Addr) (u : Value) (h0 : w0.heap.size ≤ p.block) (h1 : p.block < B) : Mid w0 B (w.setCell p u) v bs :=
  ⟨ownsRow_setCell_below h.row h1 u, h.bel.setCell h0 u, h.le⟩
theorem Mid.own {w0 w : World} {B : Nat} {v : Value} {bs : List Nat} (h : Mid w0 B w v bs) : Own w0 w v bs := by
  refine ⟨⟨h.row.1, ?_⟩, h.bel⟩
  rcases h.row.2 with h1 | ⟨g, cap, cur, hv, hg, r⟩
  · exact .inl h1
  · exact .inr ⟨g, cap, cur, hv, Nat.le_trans h.le hg, r⟩

end Go.Proofs.YtaebljoacffghaaGreatDoor

/-
  A box of any number of cells in memory, told by the list of what they hold: its words.
-/
namespace Go.Proofs.YtaebljoacffghaaGreatDoor
open Go.RowKit

/-- a box of cells in memory, none of them shut -/
structure BoxL (w : World) (g : Nat) (l : List Value) : Prop where
  lt : g < w.heap.size
  cell : ∀ i v, l[i]? = some v → w.cell? ⟨g, i, none⟩ = some v
  free : ∀ i v, l[i]? = some v → w.frozen? ⟨g, i, none⟩ = false

section
variable {w w' : World} {g : Nat} {l : List Value}
theorem BoxL.new (w : World) (l : List Value) (t : TypeId) : BoxL (w.alloc (.cells l.toArray t)) w.heap.size l :=
  ⟨by simp, fun i v h => by rw [World.cell?_alloc_at _ _ _ _ rfl]; simpa using h, fun i v h => World.frozen?_alloc_at _ _ _ _ rfl⟩
theorem BoxL.below (h : BoxL w g l) (hb : Below w.heap.size w w') : BoxL w' g l :=
  ⟨Nat.lt_of_lt_of_le h.lt hb.size, fun i v hi => (hb.cell (p := ⟨g, i, none⟩) h.lt).trans (h.cell i v hi), fun i v hi => (hb.frozen (p := ⟨g, i, none⟩) h.lt).trans (h.free i v hi)⟩
theorem BoxL.drew (h : BoxL w g l) : BoxL w.drew g l := ⟨h.lt, h.cell, h.free⟩
theorem BoxL.drewN (h : BoxL w g l) (k : Nat) : BoxL (w.drewN k) g l := ⟨h.lt, h.cell, h.free⟩
theorem BoxL.onA (h : BoxL w g l) (o : Obj) : BoxL (w.alloc o) g l := h.below ((Below.refl _ _).alloc (Nat.le_refl _) o)
theorem BoxL.oth (h : BoxL w g l) {d : Nat} (hd : g ≠ d) (k : Nat) (u : Value) : BoxL (w.setCell ⟨d, k, none⟩ u) g l :=
  ⟨by simpa using h.lt, fun i v hi => (World.cell?_setCell_other w ⟨d, k, none⟩ ⟨g, i, none⟩ u (fun e => hd (by injection e with e; exact e.symm))).trans (h.cell i v hi), fun i v hi => (World.frozen?_setCell ..).trans (h.free i v hi)⟩
theorem BoxL.put (h : BoxL w g l) (k : Nat) (u : Value) : BoxL (w.setCell ⟨g, k, none⟩ u) g (l.set k u) := by
  refine ⟨by simpa using h.lt, fun i v hi => ?_, fun i v hi => ?_⟩
  · rw [List.getElem?_set] at hi
    split at hi
    · rename_i e
      subst e
      split at hi
      · rename_i hk
        injection hi with hi
        subst hi
        exact World.cell?_setCell_same w ⟨g, k, none⟩ u (h.cell k l[k] (List.getElem?_eq_getElem hk))
      · cases hi
    · rename_i e
      exact (World.cell?_setCell_other w ⟨g, k, none⟩ ⟨g, i, none⟩ u (fun e' => e (by injection e'))).trans (h.cell i v hi)
  · rw [World.frozen?_setCell]
    rw [List.getElem?_set] at hi
    split at hi
    · rename_i e
      subst e
      split at hi
      · rename_i hk
        exact h.free k l[k] (List.getElem?_eq_getElem hk)
      · cases hi
    · exact h.free i v hi
theorem BoxL.grown (h : BoxL w g l) {row : Option Nat} (hg : w.grownBy w' row) (hne : row ≠ some g) : BoxL w' g l :=
  ⟨Nat.lt_of_lt_of_le h.lt hg.size, fun i v hi => (World.cell?_of_block (a := ⟨g, i, none⟩) (hg.block g h.lt (fun e => hne e.symm))).trans (h.cell i v hi),
    fun i v hi => (World.frozen?_of_block (a := ⟨g, i, none⟩) (hg.block g h.lt (fun e => hne e.symm))).trans (h.free i v hi)⟩
end

theorem below_set {B : Nat} {a w : World} (h : Below B a w) {d : Nat} (hd : B ≤ d) (k : Nat) (u : Value) : Below B a (w.setCell ⟨d, k, none⟩ u) := h.setCell (p := ⟨d, k, none⟩) hd u
theorem below_set2 {B : Nat} {a w : World} (h : Below B a w) {d : Nat} (hd : B ≤ d) (u0 u1 : Value) : Below B a ((w.setCell ⟨d, 0, none⟩ u0).setCell ⟨d, 1, none⟩ u1) := below_set (below_set h hd 0 u0) hd 1 u1

theorem BoxL.get2 {w : World} {g : Nat} {a b : Value} (h : BoxL w g [a, b]) : w.cell? ⟨g, 0, none⟩ = some a ∧ w.cell? ⟨g, 1, none⟩ = some b := ⟨h.cell 0 _ rfl, h.cell 1 _ rfl⟩
theorem BoxL.get3 {w : World} {g : Nat} {a b c : Value} (h : BoxL w g [a, b, c]) : w.cell? ⟨g, 0, none⟩ = some a ∧ w.cell? ⟨g, 1, none⟩ = some b ∧ w.cell? ⟨g, 2, none⟩ = some c := ⟨h.cell 0 _ rfl, h.cell 1 _ rfl, h.cell 2 _ rfl⟩
theorem BoxL.free2 {w : World} {g : Nat} {a b : Value} (h : BoxL w g [a, b]) : w.frozen? ⟨g, 0, none⟩ = false ∧ w.frozen? ⟨g, 1, none⟩ = false := ⟨h.free 0 _ rfl, h.free 1 _ rfl⟩
theorem BoxL.free3 {w : World} {g : Nat} {a b c : Value} (h : BoxL w g [a, b, c]) : w.frozen? ⟨g, 0, none⟩ = false ∧ w.frozen? ⟨g, 1, none⟩ = false ∧ w.frozen? ⟨g, 2, none⟩ = false := ⟨h.free 0 _ rfl, h.free 1 _ rfl, h.free 2 _ rfl⟩

end Go.Proofs.YtaebljoacffghaaGreatDoor

/-
  A box of any number of cells in memory, told by the list of what they hold.
-/
namespace Go.Proofs.YtaebljoacffghaaGreatDoor
open Go.RowKit

section
variable {w : World} {g : Nat}
theorem BoxL.two {a b : Value} (h : BoxL w g [a, b]) : BoxAt w g a b := ⟨h.lt, h.cell 0 _ rfl, h.cell 1 _ rfl, h.free 0 _ rfl, h.free 1 _ rfl⟩
theorem BoxAt.list {a b : Value} (h : BoxAt w g a b) : BoxL w g [a, b] :=
  ⟨h.lt, fun i v hi => by
    match i, hi with
    | 0, hi => injection hi with hi; subst hi; exact h.c0
    | 1, hi => injection hi with hi; subst hi; exact h.c1, fun i v hi => by
    match i, hi with
    | 0, hi => exact h.f0
    | 1, hi => exact h.f1⟩
theorem BoxL.three {a b c : Value} (h : BoxL w g [a, b, c]) : Box3 w g a b c := ⟨h.lt, h.cell 0 _ rfl, h.cell 1 _ rfl, h.cell 2 _ rfl, h.free 0 _ rfl, h.free 1 _ rfl, h.free 2 _ rfl⟩
/-- eight cells, and that none is shut -/
theorem BoxL.get8 {a0 a1 a2 a3 a4 a5 a6 a7 : Value} (h : BoxL w g [a0, a1, a2, a3, a4, a5, a6, a7]) :
    w.cell? ⟨g, 0, none⟩ = some a0 ∧ w.cell? ⟨g, 1, none⟩ = some a1 ∧ w.cell? ⟨g, 2, none⟩ = some a2 ∧ w.cell? ⟨g, 3, none⟩ = some a3 ∧ w.cell? ⟨g, 4, none⟩ = some a4 ∧ w.cell? ⟨g, 5, none⟩ = some a5 ∧ w.cell? ⟨g, 6, none⟩ = some a6 ∧ w.cell? ⟨g, 7, none⟩ = some a7 :=
  ⟨h.cell 0 _ rfl, h.cell 1 _ rfl, h.cell 2 _ rfl, h.cell 3 _ rfl, h.cell 4 _ rfl, h.cell 5 _ rfl, h.cell 6 _ rfl, h.cell 7 _ rfl⟩
theorem BoxL.free8 {a0 a1 a2 a3 a4 a5 a6 a7 : Value} (h : BoxL w g [a0, a1, a2, a3, a4, a5, a6, a7]) :
    w.frozen? ⟨g, 0, none⟩ = false ∧ w.frozen? ⟨g, 1, none⟩ = false ∧ w.frozen? ⟨g, 2, none⟩ = false ∧ w.frozen? ⟨g, 3, none⟩ = false ∧ w.frozen? ⟨g, 4, none⟩ = false ∧ w.frozen? ⟨g, 5, none⟩ = false ∧ w.frozen? ⟨g, 6, none⟩ = false ∧ w.frozen? ⟨g, 7, none⟩ = false :=
  ⟨h.free 0 _ rfl, h.free 1 _ rfl, h.free 2 _ rfl, h.free 3 _ rfl, h.free 4 _ rfl, h.free 5 _ rfl, h.free 6 _ rfl, h.free 7 _ rfl⟩
/-- all cells written, one behind the other -/
theorem BoxL.all2 {a0 a1 : Value} (h : BoxL w g [a0, a1]) (u0 u1 : Value) : BoxL ((w.setCell ⟨g, 0, none⟩ u0).setCell ⟨g, 1, none⟩ u1) g [u0, u1] := (h.put 0 u0).put 1 u1
theorem BoxL.all3 {a0 a1 a2 : Value} (h : BoxL w g [a0, a1, a2]) (u0 u1 u2 : Value) : BoxL (((w.setCell ⟨g, 0, none⟩ u0).setCell ⟨g, 1, none⟩ u1).setCell ⟨g, 2, none⟩ u2) g [u0, u1, u2] := ((h.put 0 u0).put 1 u1).put 2 u2
theorem BoxL.all8 {a0 a1 a2 a3 a4 a5 a6 a7 : Value} (h : BoxL w g [a0, a1, a2, a3, a4, a5, a6, a7]) (u0 u1 u2 u3 u4 u5 u6 u7 : Value) :
    BoxL ((((((((w.setCell ⟨g, 0, none⟩ u0).setCell ⟨g, 1, none⟩ u1).setCell ⟨g, 2, none⟩ u2).setCell ⟨g, 3, none⟩ u3).setCell ⟨g, 4, none⟩ u4).setCell ⟨g, 5, none⟩ u5).setCell ⟨g, 6, none⟩ u6).setCell ⟨g, 7, none⟩ u7) g [u0, u1, u2, u3, u4, u5, u6, u7] :=
  (((((((h.put 0 u0).put 1 u1).put 2 u2).put 3 u3).put 4 u4).put 5 u5).put 6 u6).put 7 u7
theorem BoxL.oth2 {l : List Value} (h : BoxL w g l) {d : Nat} (hd : g ≠ d) (u0 u1 : Value) : BoxL ((w.setCell ⟨d, 0, none⟩ u0).setCell ⟨d, 1, none⟩ u1) g l := (h.oth hd 0 u0).oth hd 1 u1
theorem BoxL.oth8 {l : List Value} (h : BoxL w g l) {d : Nat} (hd : g ≠ d) (u0 u1 u2 u3 u4 u5 u6 u7 : Value) :
    BoxL ((((((((w.setCell ⟨d, 0, none⟩ u0).setCell ⟨d, 1, none⟩ u1).setCell ⟨d, 2, none⟩ u2).setCell ⟨d, 3, none⟩ u3).setCell ⟨d, 4, none⟩ u4).setCell ⟨d, 5, none⟩ u5).setCell ⟨d, 6, none⟩ u6).setCell ⟨d, 7, none⟩ u7) g l :=
  (((((((h.oth hd 0 u0).oth hd 1 u1).oth hd 2 u2).oth hd 3 u3).oth hd 4 u4).oth hd 5 u5).oth hd 6 u6).oth hd 7 u7
end
theorem below_set8 {B : Nat} {a w : World} (h : Below B a w) {d : Nat} (hd : B ≤ d) (u0 u1 u2 u3 u4 u5 u6 u7 : Value) :
    Below B a ((((((((w.setCell ⟨d, 0, none⟩ u0).setCell ⟨d, 1, none⟩ u1).setCell ⟨d, 2, none⟩ u2).setCell ⟨d, 3, none⟩ u3).setCell ⟨d, 4, none⟩ u4).setCell ⟨d, 5, none⟩ u5).setCell ⟨d, 6, none⟩ u6).setCell ⟨d, 7, none⟩ u7) :=
  below_set (below_set (below_set (below_set (below_set (below_set (below_set (below_set h hd 0 u0) hd 1 u1) hd 2 u2) hd 3 u3) hd 4 u4) hd 5 u5) hd 6 u6) hd 7 u7

theorem BoxAt.get2 {w : World} {g : Nat} {a b : Value} (h : BoxAt w g a b) : w.cell? ⟨g, 0, none⟩ = some a ∧ w.cell? ⟨g, 1, none⟩ = some b := ⟨h.c0, h.c1⟩

theorem Mid.set2 {w0 w : World} {B : Nat} {v : Value} {bs : List Nat} (h : Mid w0 B w v bs) {g : Nat} (h0 : w0.heap.size ≤ g) (h1 : g < B) (u0 u1 : Value) : Mid w0 B ((w.setCell ⟨g, 0, none⟩ (u0)).setCell ⟨g, 1, none⟩ (u1)) v bs :=
  (h.set ⟨g, 0, none⟩ u0 h0 h1).set ⟨g, 1, none⟩ u1 h0 h1
theorem Mid.set8 {w0 w : World} {B : Nat} {v : Value} {bs : List Nat} (h : Mid w0 B w v bs) {g : Nat} (h0 : w0.heap.size ≤ g) (h1 : g < B) (u0 u1 u2 u3 u4 u5 u6 u7 : Value) : Mid w0 B ((((((((w.setCell ⟨g, 0, none⟩ (u0)).setCell ⟨g, 1, none⟩ (u1)).setCell ⟨g, 2, none⟩ (u2)).setCell ⟨g, 3, none⟩ (u3)).setCell ⟨g, 4, none⟩ (u4)).setCell ⟨g, 5, none⟩ (u5)).setCell ⟨g, 6, none⟩ (u6)).setCell ⟨g, 7, none⟩ (u7)) v bs :=
  (((((((h.set ⟨g, 0, none⟩ u0 h0 h1).set ⟨g, 1, none⟩ u1 h0 h1).set ⟨g, 2, none⟩ u2 h0 h1).set ⟨g, 3, none⟩ u3 h0 h1).set ⟨g, 4, none⟩ u4 h0 h1).set ⟨g, 5, none⟩ u5 h0 h1).set ⟨g, 6, none⟩ u6 h0 h1).set ⟨g, 7, none⟩ u7 h0 h1
theorem Mid.on {w0 w w2 : World} {B : Nat} {v : Value} {bs : List Nat} (h : Mid w0 B w v bs) (hb : Below w.heap.size w w2) : Mid w0 B w2 v bs := by
  refine ⟨⟨h.row.1, ?_⟩, h.bel.trans (hb.mono h.bel.size), h.le⟩
  rcases h.row.2 with h1 | ⟨g, cap, cur, hv, hg, hh, r⟩
  · exact .inl h1
  · refine .inr ⟨g, cap, cur, hv, hg, ?_, r⟩
    rw [hb.block g (by
      rcases Nat.lt_or_ge g w.heap.size with hlt | hge
      · exact hlt
      · rw [Array.getElem?_eq_none hge] at hh; cases hh)]
    exact hh

end Go.Proofs.YtaebljoacffghaaGreatDoor

/-
  append onto bytes of the call's own that lie behind block B, whatever was written ahead of B.
-/
namespace Go.Proofs.YtaebljoacffghaaGreatDoor
open Go.RowKit

theorem BoxL.belowB {w w' : World} {g B : Nat} {l : List Value} (h : BoxL w g l) (hb : Below B w w') (hg : g < B) : BoxL w' g l :=
  ⟨Nat.lt_of_lt_of_le h.lt hb.size, fun i v hi => (hb.cell (p := ⟨g, i, none⟩) hg).trans (h.cell i v hi), fun i v hi => (hb.frozen (p := ⟨g, i, none⟩) hg).trans (h.free i v hi)⟩
set_option maxRecDepth 20000 in
theorem run_appM (ty : TypeId) {w0 w : World} {B B2 : Nat} {v : Value} {bs cs : List Nat} {A : Option Addr} {m c : Nat} (hown : Mid w0 B w v bs) (hB : B ≤ w.heap.size) (hr : Rd w B2 A m c cs) (hm : bs.length + m ≤ 1073741824) :
    ∃ v' w', (Builtin.append_ #[22, 22] ty #[v, .slice A m c]).run Tryz.prog w = .ok v' w' ∧ Mid w0 B w' v' (bs ++ cs) ∧ Below B w w' ∧ w.grownBy w' v.ownBlock := by
  obtain ⟨i0, hi, hz0, hz1, hz2⟩ := info_parts Tryz.infoB
  have hg : ∀ k, v.ownBlock = some k → B ≤ k := fun k hk => (hown.row.lt k hk).1
  cases A with
  | none =>
    have hm0 : m = 0 := by
      rcases Nat.eq_zero_or_pos m with h0 | h0
      · exact h0
      · obtain ⟨ad, e, _⟩ := hr.cell h0
        cases e
    subst hm0
    have hcs : cs = [] := List.eq_nil_of_length_eq_zero hr.len
    subst hcs
    have hc0 : c = 0 := hr.no rfl
    subst hc0
    exact ⟨v, w, run_append_owned_none w B _ ty 5 i0 1 Tryz.underlying22 hi v bs.length (bvals bs) hown.row, by simpa using hown, Below.refl _ _, World.grownBy.refl w _⟩
  | some ad =>
    obtain ⟨v', w', hrun, hown', hgrow, _⟩ := run_append_own (P := Tryz.prog) w B 22 ty 5 i0 (.int .u8 0) 1 1 Tryz.underlying22 hi hz0 hz1 hz2 rfl (by decide) v bs.length (bvals bs) hown.row ad m c (bvals cs)
      (by rw [bvals_length, hr.len]; omega) (by
        intro j u hu
        have hj : j < m := by
          have := List.getElem?_eq_some_iff.1 hu
          obtain ⟨h1, _⟩ := this
          rw [bvals_length, hr.len] at h1
          exact h1
        obtain ⟨ad', e, _, hc⟩ := hr.cell (by omega)
        injection e with e
        subst e
        rw [hc j hj, ← hu]
        have : j < cs.length := by rw [hr.len]; exact hj
        simp [bvals, bval, List.getD_eq_getElem?_getD, this]) (bvals_one cs) (by unfold maxLen; omega) (by omega) hB
    have hbB : Below B w w' := (Below.refl B w).grown hgrow hB hg
    refine ⟨v', w', hrun, ⟨?_, hown.bel.trans (hbB.mono hown.le), hown.le⟩, hbB, hgrow⟩
    rw [bvals_app, List.length_append, hr.len]
    exact hown'
theorem wp_appM {o : Oper} {a : Act} {K : Act → World → Prop} {Q : Exit → Act → World → Prop} (s x : Operand)
    (ho : o.op = .call { callee := .builtin .append, args := #[s, x], argTypes := #[22, 22] })
    {w0 w : World} {B B2 : Nat} {v : Value} {bs cs : List Nat} {A : Option Addr} {m c : Nat} (hs : a.eval s = v) (hx : a.eval x = .slice A m c) (hown : Mid w0 B w v bs) (hB : B ≤ w.heap.size) (hr : Rd w B2 A m c cs)
    (hm : bs.length + m ≤ 1073741824) (h : ∀ v' w', Mid w0 B w' v' (bs ++ cs) → Below B w w' → w.grownBy w' v.ownBlock → K (a.put o.dst v') w') : o.wp Tryz.prog a w K Q := by
  obtain ⟨v', w', hrun, h1, h2, h3⟩ := run_appM o.type hown hB hr hm
  unfold Oper.wp execOp
  simp only [ho, resolve, invoke, builtin, Sem.run_bind, Sem.run_pure, Result.andThen_ok, List.map_toArray, List.map_cons, List.map_nil, hs, hx, hrun]
  exact h v' w' h1 h2 h3
/-- at a step of a region that draws its order -/
theorem step_appM {ops : Array Oper} {o : Oper} {a : Act} {K : Act → World → Prop} {Q : Exit → Act → World → Prop} {E : Prop} (hgd : o.guard = none) (s x : Operand)
    (ho : o.op = .call { callee := .builtin .append, args := #[s, x], argTypes := #[22, 22] })
    {w0 w : World} {B B2 : Nat} {v : Value} {bs cs : List Nat} {A : Option Addr} {m c : Nat} (hs : a.eval s = v) (hx : a.eval x = .slice A m c) (hown : Mid w0 B w v bs) (hB : B ≤ w.heap.size) (hr : Rd w B2 A m c cs)
    (hm : bs.length + m ≤ 1073741824) (h : ∀ v' w', Mid w0 B w' v' (bs ++ cs) → Below B w w' → w.grownBy w' v.ownBlock → K (a.put o.dst v') w') :
    if Region.wanted o (yielded ops a.tmps) = true then Oper.wp Tryz.prog o a w K Q else E := by
  have hw : Region.wanted o (yielded ops a.tmps) = true := by simp [Region.wanted, hgd]
  rw [if_pos hw]
  exact wp_appM s x ho hs hx hown hB hr hm h

end Go.Proofs.YtaebljoacffghaaGreatDoor

/-
  Words with which the end of a region that draws its order is shown, step by step from its world.
-/
namespace Go.Proofs.YtaebljoacffghaaGreatDoor
open Go.RowKit

section
variable {w : World} {g : Nat} {l : List Value}
theorem BoxL.new_at (l : List Value) (t : TypeId) (hg : g = w.heap.size) : BoxL (w.alloc (.cells l.toArray t)) g l := by
  subst hg
  exact BoxL.new w l t
theorem BoxL.all2_ (h : BoxL w g l) (hl : l.length = 2) (u0 u1 : Value) : BoxL ((w.setCell ⟨g, 0, none⟩ (u0)).setCell ⟨g, 1, none⟩ (u1)) g [u0, u1] := by
  match l, hl with
  | [a, b], _ => exact h.all2 u0 u1
theorem BoxL.all3_ (h : BoxL w g l) (hl : l.length = 3) (u0 u1 u2 : Value) : BoxL (((w.setCell ⟨g, 0, none⟩ (u0)).setCell ⟨g, 1, none⟩ (u1)).setCell ⟨g, 2, none⟩ (u2)) g [u0, u1, u2] := by
  match l, hl with
  | [a, b, c], _ => exact h.all3 u0 u1 u2
theorem BoxL.all8_ (h : BoxL w g l) (hl : l.length = 8) (u0 u1 u2 u3 u4 u5 u6 u7 : Value) : BoxL ((((((((w.setCell ⟨g, 0, none⟩ (u0)).setCell ⟨g, 1, none⟩ (u1)).setCell ⟨g, 2, none⟩ (u2)).setCell ⟨g, 3, none⟩ (u3)).setCell ⟨g, 4, none⟩ (u4)).setCell ⟨g, 5, none⟩ (u5)).setCell ⟨g, 6, none⟩ (u6)).setCell ⟨g, 7, none⟩ (u7)) g [u0, u1, u2, u3, u4, u5, u6, u7] := by
  match l, hl with
  | [a0, a1, a2, a3, a4, a5, a6, a7], _ => exact h.all8 u0 u1 u2 u3 u4 u5 u6 u7
end
section
variable {w0 w : World} {B : Nat} {v : Value} {bs : List Nat}
theorem Mid.onA (h : Mid w0 B w v bs) (o : Obj) : Mid w0 B (w.alloc o) v bs := h.on ((Below.refl _ _).alloc (Nat.le_refl _) o)
theorem Mid.drew (h : Mid w0 B w v bs) : Mid w0 B w.drew v bs := ⟨h.row, h.bel.drew, h.le⟩
theorem Mid.setAt (h : Mid w0 B w v bs) {g : Nat} (h0 : w0.heap.size ≤ g) (h1 : g < B) (k : Nat) (u : Value) : Mid w0 B (w.setCell ⟨g, k, none⟩ u) v bs := h.set ⟨g, k, none⟩ u h0 h1
end
theorem Mid.some {w0 w1 w : World} {v : Value} {bs : List Nat} (h : Own w1 w v bs) (hb : Below w0.heap.size w0 w1) : ∃ B, Hid (B = w1.heap.size) ∧ Mid w0 B w v bs := ⟨_, Lib.hid rfl, Mid.of h hb⟩
theorem Mid.rd {w0 w : World} {B n c : Nat} {A : Option Addr} {bs : List Nat} (h : Mid w0 B w (.slice A n c) bs) : Rd w w.heap.size A n c bs := h.own.rd

end Go.Proofs.YtaebljoacffghaaGreatDoor

/-
  Words for memory: a state of layer 8 in a box, and a sample's two cells.
-/
namespace Go.Proofs.YtaebljoacffghaaGreatDoor
open Go.RowKit

/-- a state's box and a sample's two cells, all ahead of block B -/
structure SQ (X : World) (B g : Nat) (s : KS) (ad : Addr) (t : Int) (v : Nat) : Prop where
  b : BoxL X g [.int .i64 (s.n : Int), .int .i64 s.t, .int .i64 s.d, .int .u64 (s.v : Int), .int .u64 (s.e : Int), .int .u64 (s.x.prev : Int), .int .i64 (s.x.lead : Int), .int .i64 (s.x.len : Int)]
  hg : g < B
  ha : ad.block < B
  c0 : X.cell? ad = some (.int .i64 t)
  c1 : X.cell? ⟨ad.block, ad.off + 1, none⟩ = some (.int .u64 (v : Int))
section
variable {X X' : World} {B g : Nat} {s : KS} {ad : Addr} {t : Int} {v : Nat}
theorem SQ.below (h : SQ X B g s ad t v) (hb : Below B X X') : SQ X' B g s ad t v := ⟨h.b.belowB hb h.hg, h.hg, h.ha, (hb.cell h.ha).trans h.c0, (hb.cell (p := ⟨ad.block, ad.off + 1, none⟩) h.ha).trans h.c1⟩
theorem SQ.cells (h : SQ X B g s ad t v) : (X.cell? ⟨g, 0, none⟩ = some (.int .i64 (s.n : Int)) ∧ X.cell? ⟨g, 1, none⟩ = some (.int .i64 s.t) ∧ X.cell? ⟨g, 2, none⟩ = some (.int .i64 s.d) ∧ X.cell? ⟨g, 3, none⟩ = some (.int .u64 (s.v : Int)) ∧ X.cell? ⟨g, 4, none⟩ = some (.int .u64 (s.e : Int)) ∧ X.cell? ⟨g, 5, none⟩ = some (.int .u64 (s.x.prev : Int)) ∧ X.cell? ⟨g, 6, none⟩ = some (.int .i64 (s.x.lead : Int)) ∧ X.cell? ⟨g, 7, none⟩ = some (.int .i64 (s.x.len : Int))) ∧ X.cell? ad = some (.int .i64 t) ∧ X.cell? ⟨ad.block, ad.off + 1, none⟩ = some (.int .u64 (v : Int)) := ⟨h.b.get8, h.c0, h.c1⟩
end

end Go.Proofs.YtaebljoacffghaaGreatDoor

/-
  A slice value cut from a place on.
-/
namespace Go.Proofs.YtaebljoacffghaaGreatDoor

theorem Rd.tail {w : World} {B m c a : Nat} {A : Option Addr} {bs : List Nat} (h : Rd w B A m c bs) (hk : a ≤ m) : Rd w B (A.map (fun x => x.add a)) (m - a) (c - a) (bs.drop a) := by
  have := h.cutTo (a := a) (n := m - a) (by omega)
  rwa [List.take_of_length_le (by rw [List.length_drop, h.len]; omega)] at this
theorem Rd.tailEnd {w : World} {B m a : Nat} {A : Option Addr} {bs : List Nat} (h : Rd w B A m a bs) (hk : a ≤ m) : Rd w B A (m - a) 0 (bs.drop a) := by
  have := h.cutEnd (n := m - a) (by omega)
  rwa [List.take_of_length_le (by rw [List.length_drop, h.len]; omega)] at this
theorem enc_drop (p : List Bool) (a : Nat) : (enc p).drop a = enc (p.drop a) := by simp [enc]

end Go.Proofs.YtaebljoacffghaaGreatDoor

/-
  Words for memory: a slice value that reads as samples; an argument of a law opened so.
-/
namespace Go.Proofs.YtaebljoacffghaaGreatDoor
open Go.ChangeShapes Go.WideShapes Go.ChangeAt Go.RowKit

/-- a sample fits its type -/
def FitQ (x : Int × Nat) : Prop := -9223372036854775808 ≤ x.1 ∧ x.1 ≤ 9223372036854775807 ∧ x.2 ≤ 18446744073709551615
/-- the slice value '.slice A n c' reads as the samples xs, and lies below block B -/
structure RdQ (w : World) (B : Nat) (A : Option Addr) (n c : Nat) (xs : List (Int × Nat)) : Prop where
  len : xs.length = n
  cap : n ≤ c
  no : A = none → c = 0
  cell : 0 < n → ∃ ad, A = some ad ∧ ad.block < B ∧ ∀ j, j < n → w.cell? (ad.add (j * 2)) = some (.int .i64 (xs.getD j (0, 0)).1) ∧ w.cell? (ad.add (j * 2 + 1)) = some (.int .u64 (((xs.getD j (0, 0)).2 : Nat) : Int))
  fit : ∀ x ∈ xs, FitQ x

section
variable {w w' : World} {B B' n c : Nat} {A : Option Addr} {xs : List (Int × Nat)}
theorem RdQ.fitAt (h : RdQ w B A n c xs) (k : Nat) : FitQ (xs.getD k (0, 0)) := by
  rcases Nat.lt_or_ge k xs.length with hk | hk
  · rw [List.getD_eq_getElem?_getD, List.getElem?_eq_getElem hk]
    exact h.fit _ (List.getElem_mem hk)
  · rw [List.getD_eq_getElem?_getD, List.getElem?_eq_none hk]
    exact ⟨by simp, by simp, by simp⟩
theorem RdQ.at_ {k : Nat} (h : RdQ w B A n c xs) (hk : k < n) : ∃ ad, A = some ad ∧ ad.block < B ∧ w.cell? (ad.add (k * 2)) = some (.int .i64 (xs.getD k (0, 0)).1) ∧ w.cell? ⟨(ad.add (k * 2)).block, (ad.add (k * 2)).off + 1, none⟩ = some (.int .u64 (((xs.getD k (0, 0)).2 : Nat) : Int)) := by
  obtain ⟨ad, e, hb, hc⟩ := h.cell (by omega)
  obtain ⟨h1, h2⟩ := hc k hk
  rw [← add_add'] at h2
  exact ⟨ad, e, hb, h1, h2⟩
theorem RdQ.keep (h : RdQ w B A n c xs) (hk : ∀ p : Addr, p.block < B → w'.cell? p = w.cell? p) : RdQ w' B A n c xs :=
  ⟨h.len, h.cap, h.no, fun hn => by
    obtain ⟨ad, e, hb, hc⟩ := h.cell hn
    exact ⟨ad, e, hb, fun j hj => ⟨(hk _ (by rw [add_block]; exact hb)).trans (hc j hj).1, (hk _ (by rw [add_block]; exact hb)).trans (hc j hj).2⟩⟩, h.fit⟩
theorem RdQ.below (h : RdQ w B A n c xs) (hb : Below B w w') : RdQ w' B A n c xs := h.keep fun _ hp => hb.cell hp
theorem RdQ.more (h : RdQ w B A n c xs) (hB : B ≤ B') : RdQ w B' A n c xs :=
  ⟨h.len, h.cap, h.no, fun hn => by
    obtain ⟨ad, e, hb, hc⟩ := h.cell hn
    exact ⟨ad, e, by omega, hc⟩, h.fit⟩
theorem RdQ.drew (h : RdQ w B A n c xs) : RdQ w.drew B A n c xs := ⟨h.len, h.cap, h.no, h.cell, h.fit⟩
end

section
variable {H : Type} {enc : TypeId × Value → H} {W W' : World}
theorem open_i64v {v : Value} {n base : Nat} {spare : Nat → Bool} {held : Bool} {y : DataW H × List MemPlace} (h : DataW.trod enc Tryz.prog W base spare held n 2 [v] = some y) : ∃ x : Int, v = .int .i64 x ∧ -9223372036854775808 ≤ x ∧ x ≤ 9223372036854775807 := by
  obtain ⟨x, hcs, _, hw⟩ := DataW.trod_int Tryz.underlying2 h
  simp at hcs
  exact ⟨x, hcs, wf_i64 hw⟩
theorem open_u64v {v : Value} {n base : Nat} {spare : Nat → Bool} {held : Bool} {y : DataW H × List MemPlace} (h : DataW.trod enc Tryz.prog W base spare held n 37 [v] = some y) : ∃ x : Nat, v = .int .u64 (x : Int) ∧ x ≤ 18446744073709551615 := by
  obtain ⟨x, hcs, _, hw⟩ := DataW.trod_int Tryz.underlying37 h
  simp at hcs
  obtain ⟨k, rfl, hk⟩ := wf_u64 hw
  exact ⟨k, hcs, hk⟩
set_option maxRecDepth 20000 in
/-- an argument of type []api.Sample -/
theorem open_samples {base : Nat} {v : Value} {d : DataW H} {p : List MemPlace} (hv : Value.okWide Tryz.prog W .any base 31 v) (h : DataW.Trod enc Tryz.prog W 0 (fun _ => true) true 31 v d p) :
    ∃ A n c xs, v = .slice A n c ∧ RdQ W W.heap.size A n c xs ∧ n ≤ 9223372036854775807 := by
  obtain ⟨A, n, c, rfl⟩ := okWide_slice Tryz.underlying31 hv
  obtain ⟨fuel, hf⟩ := h
  rcases Deep.open_slice_pairs Tryz.underlying31 Tryz.underlying74 (by kernel_rfl) rfl rfl (by kernel_rfl) (by kernel_rfl) hf with ⟨hcs, _⟩ | ⟨a, len, cap, m, n', V0, V1, D0, D1, P0, P1, hcs, _, hl, hm, hmm, _, hcell⟩
  · simp [Value.cells] at hcs
    obtain ⟨rfl, rfl, rfl⟩ := hcs
    exact ⟨none, 0, 0, [], rfl, ⟨rfl, Nat.le_refl _, fun _ => rfl, fun h => absurd h (by omega), by simp⟩, by omega⟩
  · simp [Value.cells] at hcs
    obtain ⟨rfl, rfl, rfl⟩ := hcs
    simp only [if_true] at hmm
    have key : ∀ j, ∃ q : Int × Nat, j < n → W.cell? (a.add (j * 2)) = some (.int .i64 q.1) ∧ W.cell? (a.add (j * 2 + 1)) = some (.int .u64 ((q.2 : Nat) : Int)) ∧ FitQ q := by
      intro j
      by_cases hj : j < n
      · obtain ⟨c1, c2, t1, t2⟩ := hcell j (by omega)
        obtain ⟨x, hx, hx'⟩ := open_i64v t1
        obtain ⟨y, hy, hy'⟩ := open_u64v t2
        rw [hx] at c1
        rw [hy] at c2
        exact ⟨(x, y), fun _ => ⟨c1, c2, hx'.1, hx'.2, hy'⟩⟩
      · exact ⟨(0, 0), fun h => absurd h hj⟩
    obtain ⟨f, hf'⟩ := Classical.axiomOfChoice key
    have hget : ∀ j, j < n → ((List.range n).map f).getD j (0, 0) = f j := by
      intro j hj
      simp [List.getD_eq_getElem?_getD, hj]
    refine ⟨some a, n, c, (List.range n).map f, rfl, ⟨by simp, by omega, (fun h => by cases h), fun hn => ⟨a, rfl, ?_, fun j hj => ?_⟩, ?_⟩, by unfold maxLen at hm; omega⟩
    · have := World.block_lt_of_cell? W _ (hcell 0 (by omega)).1
      rwa [add_block] at this
    · rw [hget j hj]
      exact ⟨(hf' j hj).1, (hf' j hj).2.1⟩
    · intro x hx
      obtain ⟨j, hj, rfl⟩ := List.mem_map.1 hx
      exact (hf' j (List.mem_range.1 hj)).2.2
end

end Go.Proofs.YtaebljoacffghaaGreatDoor

/-
  Words for memory: a row of samples of the call's own; append onto it.
-/
namespace Go.Proofs.YtaebljoacffghaaGreatDoor
open Go.RowKit

/-- samples as values, cell by cell -/
def qvals : List (Int × Nat) → List Value
  | [] => []
  | x :: r => .int .i64 x.1 :: .int .u64 (x.2 : Int) :: qvals r
theorem qvals_length : ∀ xs : List (Int × Nat), (qvals xs).length = xs.length * 2
  | [] => rfl
  | x :: r => by simp only [qvals, List.length_cons, qvals_length r]; omega
theorem qvals_app : ∀ p q : List (Int × Nat), qvals (p ++ q) = qvals p ++ qvals q
  | [], q => rfl
  | x :: r, q => by simp only [List.cons_append, qvals, qvals_app r q]
theorem qvals_one : ∀ xs : List (Int × Nat), ∀ u ∈ qvals xs, u.oneCell' = true
  | [], u, h => by simp [qvals] at h
  | x :: r, u, h => by
    simp only [qvals, List.mem_cons] at h
    rcases h with rfl | rfl | h
    · rfl
    · rfl
    · exact qvals_one r u h
theorem qvals_at : ∀ (xs : List (Int × Nat)) (k : Nat), k < xs.length → (qvals xs)[k * 2]? = some (.int .i64 (xs.getD k (0, 0)).1) ∧ (qvals xs)[k * 2 + 1]? = some (.int .u64 (((xs.getD k (0, 0)).2 : Nat) : Int))
  | [], k, h => absurd h (by simp)
  | x :: r, 0, h => by simp [qvals]
  | x :: r, k + 1, h => by
    have := qvals_at r k (by simpa using h)
    have e1 : (k + 1) * 2 = k * 2 + 1 + 1 := by omega
    rw [e1]
    simpa [qvals] using this

theorem Tryz.infoQ : (Tryz.prog.info? 74).map (fun i => (i.zero, i.size, i.bytes)) = some (some (.agg #[.int .i64 0, .int .u64 0]), 2, 16) := by kernel_rfl

/-- v is a slice of samples of the call's own (made behind the world w0), it holds xs; of what lay in w0 nothing has turned -/
structure OwnQ (w0 w : World) (v : Value) (xs : List (Int × Nat)) : Prop where
  row : w.ownsRow w0.heap.size 74 2 v xs.length (qvals xs)
  bel : Below w0.heap.size w0 w
  fit : ∀ x ∈ xs, FitQ x

section
variable {w0 w w2 : World} {v : Value} {xs : List (Int × Nat)}
theorem OwnQ.nil_ (w0 w : World) (h : Below w0.heap.size w0 w) : OwnQ w0 w (.slice none 0 0) [] := ⟨World.ownsRow_nil _ _ _ _, h, by simp⟩
theorem OwnQ.alloc (h : OwnQ w0 w v xs) (o : Obj) : OwnQ w0 (w.alloc o) v xs := ⟨h.row.alloc o, h.bel.alloc h.bel.size o, h.fit⟩
theorem OwnQ.drew (h : OwnQ w0 w v xs) : OwnQ w0 w.drew v xs := ⟨h.row, h.bel.drew, h.fit⟩
theorem RdQ.ownRow {base n c : Nat} {A : Option Addr} (h : w.ownsRow base 74 2 (.slice A n c) n (qvals xs)) (hf : ∀ x ∈ xs, FitQ x) : RdQ w w.heap.size A n c xs := by
  have hl : xs.length = n := by have := h.1; rw [qvals_length] at this; omega
  have hc : n ≤ c ∧ (A = none → c = 0) := by
    rcases h.2 with ⟨e, h0⟩ | ⟨g, cap, cur, e, _, _, hnc, _⟩
    · injection e with e1 e2 e3
      exact ⟨by omega, fun _ => e3⟩
    · injection e with e1 e2 e3
      exact ⟨by omega, fun hA => by rw [hA] at e1; cases e1⟩
  refine ⟨hl, hc.1, hc.2, fun hn => ?_, hf⟩
  obtain ⟨g, cap, hv, _, hlt⟩ := h.form hn
  have hA : A = some ⟨g, 0, none⟩ := by injection hv
  subst hA
  refine ⟨_, rfl, hlt, fun j hj => ?_⟩
  have hq := qvals_at xs j (by omega)
  exact ⟨h.cells (g := g) rfl (j * 2) _ hq.1, h.cells (g := g) rfl (j * 2 + 1) _ hq.2⟩
theorem OwnQ.form (h : OwnQ w0 w v xs) : ∃ A c, v = .slice A xs.length c ∧ RdQ w w.heap.size A xs.length c xs := by
  rcases h.row.2 with ⟨rfl, h0⟩ | ⟨g, cap, cur, rfl, _⟩
  · have : xs = [] := List.eq_nil_of_length_eq_zero h0
    subst this
    exact ⟨_, _, rfl, rfl, Nat.le_refl _, fun _ => rfl, fun h => absurd h (by simp), by simp⟩
  · exact ⟨_, _, rfl, RdQ.ownRow h.row h.fit⟩
theorem OwnQ.rd {A : Option Addr} {n c : Nat} (h : OwnQ w0 w (.slice A n c) xs) : RdQ w w.heap.size A n c xs := by
  obtain ⟨A', c', e, hr⟩ := h.form
  injection e with e1 e2 e3
  subst e1 e2 e3
  exact hr
theorem OwnQ.keep (h : OwnQ w0 w v xs) (hb : Below w.heap.size w w2) : OwnQ w0 w2 v xs := by
  refine ⟨⟨h.row.1, ?_⟩, h.bel.trans (hb.mono h.bel.size), h.fit⟩
  rcases h.row.2 with h1 | ⟨g, cap, cur, hv, hg, hh, r⟩
  · exact .inl h1
  · refine .inr ⟨g, cap, cur, hv, hg, ?_, r⟩
    rw [hb.block g (by
      rcases Nat.lt_or_ge g w.heap.size with hlt | hge
      · exact hlt
      · rw [Array.getElem?_eq_none hge] at hh; cases hh)]
    exact hh
theorem OwnQ.weak {w1 : World} (h : OwnQ w1 w v xs) (hb : Below w0.heap.size w0 w1) : OwnQ w0 w v xs := by
  refine ⟨⟨h.row.1, ?_⟩, hb.trans (h.bel.mono hb.size), h.fit⟩
  rcases h.row.2 with h1 | ⟨g, cap, cur, hv, hg, r⟩
  · exact .inl h1
  · exact .inr ⟨g, cap, cur, hv, Nat.le_trans hb.size hg, r⟩
end

/-- one sample in a new block -/
theorem RdQ.one (w : World) (x : Int × Nat) (hx : FitQ x) : RdQ (w.alloc (.cells #[.int .i64 x.1, .int .u64 (x.2 : Int)] 74)) (w.heap.size + 1) (some ⟨w.heap.size, 0, none⟩) 1 1 [x] :=
  ⟨rfl, Nat.le_refl _, fun h => (by cases h), fun _ => ⟨_, rfl, by simp, fun j hj => by
    have : j = 0 := by omega
    subst this
    refine ⟨?_, ?_⟩
    · have : w.heap.size < (w.alloc (.cells #[.int .i64 x.1, .int .u64 (x.2 : Int)] 74)).heap.size := by simp
      simp [Addr.add]
    · simp [Addr.add]⟩, by simpa using hx⟩

set_option maxRecDepth 20000 in
/-- append onto a slice of samples of the call's own: the run -/
theorem run_appQ (ty : TypeId) {w0 w : World} {B : Nat} {v : Value} {bs cs : List (Int × Nat)} {A : Option Addr} {m c : Nat} (hown : OwnQ w0 w v bs) (hr : RdQ w B A m c cs) (hm : bs.length + m ≤ 1073741824) :
    ∃ v' w', (Builtin.append_ #[31, 31] ty #[v, .slice A m c]).run Tryz.prog w = .ok v' w' ∧ OwnQ w0 w' v' (bs ++ cs) ∧ w.grownBy w' v.ownBlock := by
  obtain ⟨i0, hi, hz0, hz1, hz2⟩ := info_parts Tryz.infoQ
  have hg : ∀ k, v.ownBlock = some k → w0.heap.size ≤ k := fun k hk => (hown.row.lt k hk).1
  have hfit : ∀ x ∈ bs ++ cs, FitQ x := fun x hx => (List.mem_append.1 hx).elim (hown.fit x) (hr.fit x)
  cases A with
  | none =>
    have hm0 : m = 0 := by
      rcases Nat.eq_zero_or_pos m with h0 | h0
      · exact h0
      · obtain ⟨ad, e, _⟩ := hr.cell h0
        cases e
    subst hm0
    have hcs : cs = [] := List.eq_nil_of_length_eq_zero hr.len
    subst hcs
    have hc0 : c = 0 := hr.no rfl
    subst hc0
    exact ⟨v, w, run_append_owned_none w w0.heap.size _ ty 74 i0 2 Tryz.underlying31 hi v bs.length (qvals bs) hown.row, by simpa using hown, World.grownBy.refl w _⟩
  | some ad =>
    obtain ⟨v', w', hrun, hown', hgrow, _⟩ := run_append_own (P := Tryz.prog) w w0.heap.size 31 ty 74 i0 (.agg #[.int .i64 0, .int .u64 0]) 2 16 Tryz.underlying31 hi hz0 hz1 hz2 (by kernel_rfl) (by decide) v bs.length (qvals bs) hown.row ad m c (qvals cs)
      (by rw [qvals_length, hr.len]) (by
        intro j u hu
        have hj : j < m * 2 := by
          have := (List.getElem?_eq_some_iff.1 hu).1
          rw [qvals_length, hr.len] at this
          exact this
        obtain ⟨ad', e, _, hc⟩ := hr.cell (by omega)
        injection e with e
        subst e
        have hk : j / 2 < cs.length := by rw [hr.len]; omega
        have hq := qvals_at cs (j / 2) hk
        have hcc := hc (j / 2) (by rw [← hr.len]; exact hk)
        rcases (by omega : j = j / 2 * 2 ∨ j = j / 2 * 2 + 1) with e | e
        · rw [e] at hu ⊢
          have h0 : j / 2 * 2 / 2 * 2 = j / 2 * 2 := by omega
          rw [hcc.1, ← hu, hq.1]
        · rw [e] at hu ⊢
          rw [hcc.2, ← hu, hq.2]) (qvals_one cs) (by unfold maxLen; omega) (by omega) hown.bel.size
    refine ⟨v', w', hrun, ⟨?_, hown.bel.grown hgrow hown.bel.size hg, hfit⟩, hgrow⟩
    rw [qvals_app, List.length_append, hr.len]
    exact hown'
theorem wp_appQ {o : Oper} {a : Act} {K : Act → World → Prop} {Q : Exit → Act → World → Prop} (s x : Operand)
    (ho : o.op = .call { callee := .builtin .append, args := #[s, x], argTypes := #[31, 31] })
    {w0 w : World} {B : Nat} {v : Value} {bs cs : List (Int × Nat)} {A : Option Addr} {m c : Nat} (hs : a.eval s = v) (hx : a.eval x = .slice A m c) (hown : OwnQ w0 w v bs) (hr : RdQ w B A m c cs)
    (hm : bs.length + m ≤ 1073741824) (h : ∀ v' w', OwnQ w0 w' v' (bs ++ cs) → w.grownBy w' v.ownBlock → K (a.put o.dst v') w') : o.wp Tryz.prog a w K Q := by
  obtain ⟨v', w', hrun, h1, h2⟩ := run_appQ o.type hown hr hm
  unfold Oper.wp execOp
  simp only [ho, resolve, invoke, builtin, Sem.run_bind, Sem.run_pure, Result.andThen_ok, List.map_toArray, List.map_cons, List.map_nil, hs, hx, hrun]
  exact h v' w' h1 h2
/-- in a plain region -/
theorem wpList_appQ {ops : Array Oper} {rest : List Oper} {o : Oper} {a : Act} {Q : Exit → Act → World → Prop} (hgd : o.guard = none) (s x : Operand)
    (ho : o.op = .call { callee := .builtin .append, args := #[s, x], argTypes := #[31, 31] })
    {w0 w : World} {B : Nat} {v : Value} {bs cs : List (Int × Nat)} {A : Option Addr} {m c : Nat} (hs : a.eval s = v) (hx : a.eval x = .slice A m c) (hown : OwnQ w0 w v bs) (hr : RdQ w B A m c cs)
    (hm : bs.length + m ≤ 1073741824)
    (h : ∀ v' w', OwnQ w0 w' v' (bs ++ cs) → w.grownBy w' v.ownBlock → wpList Tryz.prog ops Q rest (a.put o.dst v') w') : wpList Tryz.prog ops Q (o :: rest) a w :=
  wpList_plain hgd fun _ hK => wp_appQ s x ho hs hx hown hr hm fun v' w' h1 h2 => hK _ _ (h v' w' h1 h2)

end Go.Proofs.YtaebljoacffghaaGreatDoor

/-
  Samples in memory fit their types.
-/
namespace Go.Proofs.YtaebljoacffghaaGreatDoor

theorem RdQ.all {w : World} {B n c : Nat} {A : Option Addr} {xs : List (Int × Nat)} (h : RdQ w B A n c xs) : AllQ xs := fun j => ⟨⟨(h.fitAt j).1, (h.fitAt j).2.1⟩, (h.fitAt j).2.2⟩
theorem RdQ.cutHead {w : World} {B n m c : Nat} {A : Option Addr} {xs : List (Int × Nat)} (h : RdQ w B A m c xs) (hk : n ≤ m) : RdQ w B A n c (xs.take n) := by
  have hc := h.cap
  refine ⟨by rw [List.length_take, h.len]; omega, by omega, h.no, fun hn => ?_, fun x hx => h.fit x (List.mem_of_mem_take hx)⟩
  obtain ⟨ad, rfl, hb, hcell⟩ := h.cell (by omega)
  refine ⟨ad, rfl, hb, fun j hj => ?_⟩
  have e : (xs.take n).getD j (0, 0) = xs.getD j (0, 0) := by simp only [List.getD_eq_getElem?_getD, List.getElem?_take_of_lt hj]
  rw [e]
  exact hcell j (by omega)

end Go.Proofs.YtaebljoacffghaaGreatDoor

/-
  Strings made of bytes, held against each other.
-/
namespace Go.Proofs.YtaebljoacffghaaGreatDoor

theorem str_other {a b : ByteArray} (h : a ≠ b) : (a.toList == b.toList) = false := by
  rw [ByteArray.toList_eq, ByteArray.toList_eq]
  refine beq_eq_false_iff_ne.mpr (fun g => h ?_)
  cases a; cases b
  exact congrArg ByteArray.mk (Array.toList_inj.1 g)
theorem strB_inj {p q : List Nat} (hp : ∀ x ∈ p, x < 256) (hq : ∀ x ∈ q, x < 256) (h : strB p = strB q) : p = q := by
  unfold strB at h
  injection h with h
  have h2 := congrArg Array.toList h
  simp only at h2
  have h3 := congrArg (List.map UInt8.toNat) h2
  rw [List.map_map, List.map_map] at h3
  have key : ∀ l : List Nat, (∀ x ∈ l, x < 256) → l.map (UInt8.toNat ∘ UInt8.ofNat) = l := by
    intro l hl
    rw [List.map_congr_left (g := id) (fun x hx => by simp; have := hl x hx; omega), List.map_id]
  rwa [key p hp, key q hq] at h3
theorem strB_other {p q : List Nat} (hp : ∀ x ∈ p, x < 256) (hq : ∀ x ∈ q, x < 256) (h : p ≠ q) : ((strB p).toList == (strB q).toList) = false := str_other (fun e => h (strB_inj hp hq e))

end Go.Proofs.YtaebljoacffghaaGreatDoor

/-
  The run of make of a slice of bytes; slices of bytes that are written out.
-/
namespace Go.Proofs.YtaebljoacffghaaGreatDoor
open Go.RowKit

/-- make of a slice of bytes: the run, for a region that draws its order (laid ahead of it, at the world that is drawn) -/
theorem run_mk {w0 w : World} (hb : Below w0.heap.size w0 w) (n : Nat) (hn : n ≤ 1073741824) :
    ∃ w', (Instr.makeSlice 22 (.int .i64 (n : Int)) (.int .i64 (n : Int))).run Tryz.prog w = .ok (.slice (some ⟨w.heap.size, 0, none⟩) n n) w' ∧ Own w0 w' (.slice (some ⟨w.heap.size, 0, none⟩) n n) (List.replicate n 0) ∧ Below w.heap.size w w' := by
  obtain ⟨i0, hi, hz0, hz1, hz2⟩ := info_parts Tryz.infoB
  obtain ⟨w', hrun, hown, hgrow⟩ := run_make_full (P := Tryz.prog) w w0.heap.size 22 5 i0 (.int .u8 0) 1 Tryz.underlying22 hi hz0 hz1 .i64 .i64 n (by rw [hz2]; omega) (by unfold maxLen; omega) hb.size
  have e : (madeCells (Value.int .u8 0).cells (n * 1)).toList = bvals (List.replicate n 0) := by
    have := toList_madeCells_one (.int .u8 0) (n * 1)
    rw [Nat.mul_one] at this ⊢
    simpa [bvals, bval, Value.cells] using this
  rw [e] at hown
  exact ⟨w', hrun, ⟨by rw [List.length_replicate]; exact hown, hb.grown hgrow hb.size (fun k hk => by cases hk)⟩, (Below.refl _ _).grown hgrow (Nat.le_refl _) (fun k hk => by cases hk)⟩

/-- two bytes that are written out -/
theorem Own.litTwo {w0 w : World} (h : Below w0.heap.size w0 w) (x y : Nat) : Own w0 (w.alloc (.cells #[.int .u8 (x : Int), .int .u8 (y : Int)] 5)) (.slice (some ⟨w.heap.size, 0, none⟩) 2 2) [x, y] :=
  ⟨World.ownsRow_lit w #[.int .u8 (x : Int), .int .u8 (y : Int)] 2 h.size (by unfold maxLen; omega) rfl, h.alloc h.size _⟩
theorem Own.litOne {w0 w : World} (h : Below w0.heap.size w0 w) (x : Nat) : Own w0 (w.alloc (.cells #[.int .u8 (x : Int)] 5)) (.slice (some ⟨w.heap.size, 0, none⟩) 1 1) [x] :=
  ⟨World.ownsRow_lit w #[.int .u8 (x : Int)] 1 h.size (by unfold maxLen; omega) rfl, h.alloc h.size _⟩

end Go.Proofs.YtaebljoacffghaaGreatDoor

/-
  append of made zeros onto a slice of bytes of the call's own ('append(s, make([]byte, k)...)').
-/
namespace Go.Proofs.YtaebljoacffghaaGreatDoor
open Go.RowKit

theorem zeroCells_bytes (k : Nat) : (Builtin.zeroCells (Value.int .u8 0).cells k).toList = bvals (List.replicate k 0) := by
  apply List.ext_getElem
  · simp [Builtin.zeroCells, Value.cells, bvals]
  · intro i h1 h2
    have : (Value.int .u8 0).cells = #[.int .u8 0] := rfl
    simp [Builtin.zeroCells, this, bvals, bval, Nat.mod_one]

/-- the run -/
theorem run_zeros (ty : TypeId) (k : Nat) {w0 w : World} {v : Value} {bs : List Nat} (hown : Own w0 w v bs) (hm : bs.length + k ≤ 1073741824) :
    ∃ v' w', (Builtin.append_ #[22, 3] ty #[v, .int .i64 (k : Int)]).run Tryz.prog w = .ok v' w' ∧ Own w0 w' v' (bs ++ List.replicate k 0) ∧ w.grownBy w' v.ownBlock := by
  obtain ⟨i0, hi, hz0, hz1, hz2⟩ := info_parts Tryz.infoB
  have hg : ∀ k, v.ownBlock = some k → w0.heap.size ≤ k := fun k hk => (hown.row.lt k hk).1
  have hw : IntKind.i64.wrap (k : Int) = k := by rw [IntKind.wrap_i64]; omega
  have hneg : ¬ ((k : Int) < 0) := by omega
  have h48i : ¬ (281474976710656 < (k : Int)) := by omega
  have grown : ∀ (old : Nat), old < bs.length + k →
      Own w0 (w.drew.alloc (.cells ((bvals bs).toArray ++ Builtin.zeroCells (Value.int .u8 0).cells k ++ Builtin.zeroCells (Value.int .u8 0).cells (grownCap w (bs.length + k) old 5 - (bs.length + k))) 5))
        (.slice (some ⟨w.heap.size, 0, none⟩) (bs.length + k) (grownCap w (bs.length + k) old 5)) (bs ++ List.replicate k 0) ∧
      w.grownBy (w.drew.alloc (.cells ((bvals bs).toArray ++ Builtin.zeroCells (Value.int .u8 0).cells k ++ Builtin.zeroCells (Value.int .u8 0).cells (grownCap w (bs.length + k) old 5 - (bs.length + k))) 5)) v.ownBlock := by
    intro old ho
    have hge := grownCap_ge w (bs.length + k) old 5
    have hcm : grownCap w (bs.length + k) old 5 ≤ maxLen := grownCap_le_maxLen w (bs.length + k) old 5 (by unfold maxLen; omega)
    have hgb : w.grownBy (w.drew.alloc (.cells ((bvals bs).toArray ++ Builtin.zeroCells (Value.int .u8 0).cells k ++ Builtin.zeroCells (Value.int .u8 0).cells (grownCap w (bs.length + k) old 5 - (bs.length + k))) 5)) v.ownBlock :=
      ⟨rfl, rfl, rfl, by simp, fun j hj _ => Below.heap_alloc w.drew _ j hj⟩
    refine ⟨⟨⟨by simp [bvals], .inr ⟨w.heap.size, grownCap w (bs.length + k) old 5, _, by simp, hown.bel.size, heap_alloc_new w.drew _, by simp; exact hge, hcm, ?_, ?_⟩⟩, hown.bel.grown hgb hown.bel.size hg⟩, hgb⟩
    · have : (Value.int .u8 0).cells.size = 1 := rfl
      simp [size_zeroCells, this, bvals]
      omega
    · simp only [Array.toList_append, zeroCells_bytes, bvals_app]
      apply List.take_left'
      simp [bvals]
  rcases hown.row.2 with ⟨rfl, h0⟩ | ⟨g, cap, cur, rfl, hbg, hgc, hnc, hcm, hcs, htake⟩
  · have hbs : bs = [] := List.eq_nil_of_length_eq_zero h0
    subst hbs
    by_cases hk : k = 0
    · subst hk
      have hw' : IntKind.i64.wrap 0 = 0 := by decide
      refine ⟨.slice none 0 0, w, ?_, by simpa using hown, World.grownBy.refl w _⟩
      simp [Builtin.append_, run_underlying Tryz.underlying22, run_underlying Tryz.underlying3, sizeOf, typeInfo, hi, asInt, asIntOf, hw']
    · have hr := Lib.run_append_nil_zeros (P := Tryz.prog) w 22 3 ty 5 i0 (.int .u8 0) .i64 .i64 Tryz.underlying22 Tryz.underlying3 hi hz0 k (by omega) (by omega) (by omega) (by rw [hz2]; omega)
      have hgr := grown 0 (by simp; omega)
      simp only [List.length_nil, Nat.zero_add] at hgr
      refine ⟨_, _, hr, ?_, ?_⟩
      · simpa [bvals] using hgr.1
      · simpa [bvals] using hgr.2
  · by_cases hroom : bs.length + k ≤ cap
    · have hfit : bs.length + k ≤ cur.size := by rw [hcs]; omega
      have hst := run_storeCells_at Tryz.prog g bs.length 5 (bvals (List.replicate k 0)) 0 cur w hgc (by simpa [bvals] using hfit) (bvals_one _)
      simp only [Nat.add_zero] at hst
      have hrun : (Builtin.append_ #[22, 3] ty #[.slice (some ⟨g, 0, none⟩) bs.length cap, .int .i64 (k : Int)]).run Tryz.prog w =
          .ok (.slice (some ⟨g, 0, none⟩) (bs.length + k) cap) (w.setRow g (cur.toList.take bs.length ++ bvals (List.replicate k 0) ++ cur.toList.drop (bs.length + (bvals (List.replicate k 0)).length)).toArray) := by
        rw [← zeroCells_bytes] at hst ⊢
        by_cases hk : k = 0
        · subst hk
          have hw' : IntKind.i64.wrap 0 = 0 := by decide
          have hz : (Builtin.zeroCells (Value.int .u8 0).cells 0).toList = [] := by rw [zeroCells_bytes]; rfl
          rw [hz] at hst ⊢
          have hnc' : bs.length ≤ cap := by omega
          simp [Builtin.append_, run_underlying Tryz.underlying22, run_underlying Tryz.underlying3, sizeOf, typeInfo, hi, asInt, asIntOf, hw', hz1, hnc', Addr.add_lit, hst]
        · simp [Builtin.append_, run_underlying Tryz.underlying22, run_underlying Tryz.underlying3, sizeOf, typeInfo, zeroValue, hi, hz0, hz1, hz2, asInt, asIntOf, hw, hneg, h48i, hk, hroom, Addr.add_lit, hst]
      refine ⟨_, _, hrun, ?_, ⟨rfl, rfl, rfl, by simp, fun k _ hk => setRow_other w g k _ (fun e => hk (by simp [Value.ownBlock, e]))⟩⟩
      refine ⟨⟨by simp [bvals], .inr ⟨g, cap, _, by simp, hbg, setRow_heap w g cur _ 5 _ hgc, by simpa using hroom, hcm, ?_, ?_⟩⟩, hown.bel.grown (row := some g) ⟨rfl, rfl, rfl, by simp, fun k _ hk => setRow_other w g k _ (fun e => hk (by simp [e]))⟩ hown.bel.size (fun j hj => by injection hj with hj; subst hj; exact hbg)⟩
      · simp only [List.size_toArray, List.length_append, List.length_take, List.length_drop, Array.length_toList, bvals_length, List.length_replicate]
        omega
      · rw [Nat.mul_one] at htake
        rw [htake, bvals_app]
        apply List.take_left'
        simp [bvals]
    · have holds : (Builtin.firstCells i0.size bs.length (.slice (some ⟨g, 0, none⟩) bs.length cap)).run Tryz.prog w.drew = .ok (bvals bs).toArray w.drew :=
        run_firstCells_some (P := Tryz.prog) w.drew i0.size bs.length ⟨g, 0, none⟩ bs.length cap (bvals bs) (by rw [hz1, bvals_length]; omega) (hown.row.cells (g := g) rfl)
      have hr := Lib.run_append_grow_zeros (P := Tryz.prog) w 22 3 ty 5 i0 (.int .u8 0) .i64 .i64 Tryz.underlying22 Tryz.underlying3 hi hz0 (some ⟨g, 0, none⟩) bs.length cap (bvals bs) holds k (by omega) (by omega) (by omega) (by omega) (by rw [hz2]; omega) (by rw [hz2]; exact growslice_fits (by omega) (by omega))
      have hgr := grown cap (by omega)
      exact ⟨_, _, hr, hgr.1, hgr.2⟩

/-- in a plain region -/
theorem wpList_zeros {ops : Array Oper} {rest : List Oper} {o : Oper} {a : Act} {Q : Exit → Act → World → Prop} (hgd : o.guard = none) (s x : Operand)
    (ho : o.op = .call { callee := .builtin .append, args := #[s, x], argTypes := #[22, 3] })
    {w0 w : World} {v : Value} {bs : List Nat} (k : Nat) {z : Int} (hs : a.eval s = v) (hx : a.eval x = .int .i64 z) (hz : z = (k : Int)) (hown : Own w0 w v bs)
    (hm : bs.length + k ≤ 1073741824)
    (h : ∀ v' w', Own w0 w' v' (bs ++ List.replicate k 0) → w.grownBy w' v.ownBlock → wpList Tryz.prog ops Q rest (a.put o.dst v') w') : wpList Tryz.prog ops Q (o :: rest) a w := by
  subst hz
  obtain ⟨v', w', hrun, h1, h2⟩ := run_zeros o.type k hown hm
  exact Lib.wpList_append_run w hgd s x _ _ ho _ _ hs hx _ _ hrun (h _ _ h1 h2)

end Go.Proofs.YtaebljoacffghaaGreatDoor

/-
  What a row's condition on listed tables gives, wherever on the list the table stands.
-/
namespace Go.Proofs.YtaebljoacffghaaGreatDoor

theorem laidVars_in {P : Program} {W : World} {x : String × DataW Unit} : ∀ {l : List (String × DataW Unit)} {ps : List MemPlace}, DataW.LaidVars P W l ps → x ∈ l →
    ∃ g t cs fuel p, P.globalNamed x.1 = some g ∧ (P.globals[g]?).map (·.type) = some t ∧ W.var? P x.1 = some cs ∧ DataW.trod (fun _ => ()) P W 0 (fun _ => true) false fuel t cs.toList = some (x.2, p)
  | [], _, _, h => by simp at h
  | (n, d) :: r, ps, hl, h => by
    obtain ⟨g, t, cs, fuel, p, q, h1, h2, h3, h4, h5, _⟩ := hl
    rcases List.mem_cons.1 h with rfl | h
    · exact ⟨g, t, cs, fuel, p, h1, h2, h3, h4⟩
    · exact laidVars_in h5 h
/-- a table of integers anywhere on the list -/
theorem tabIs_in {P : Program} {W : World} {name : String} {k : IntKind} {zs : List Int} {l : List (String × DataW Unit)} {g : Nat} {t e : TypeId} {n : Nat}
    (hg : P.globalNamed name = some g) (hty : (P.globals[g]?).map (·.type) = some t) (ht : P.underlying t = some (.array n e)) (he : P.underlying e = some (.int k)) (hce : P.cellsOf e = 1) (hct : P.cellsOf t = n)
    (h : laidMet P l W) (hin : (name, Lib.tabData k zs) ∈ l) : Lib.TabIs P W name k zs := by
  obtain ⟨ps, hl, _⟩ := h
  obtain ⟨g', t', cs, fuel, p, hg', ht', hvar, hd⟩ := laidVars_in hl hin
  obtain rfl := Option.some.inj (hg.symm.trans hg')
  obtain rfl := Option.some.inj (hty.symm.trans ht')
  unfold Lib.TabIs
  rw [hvar, ← Lib.cells_of_tab ht he hce hct hd]

end Go.Proofs.YtaebljoacffghaaGreatDoor

/-
  The contract of the laws' own Code: the number of an error that is one of api's, 0 of none; it changes nothing.
-/
namespace Go.Proofs.YtaebljoacffghaaGreatDoor
open Go.RowKit

/-- an error's value, by its number: none at 0 -/
def errV (k : Nat) : Value := if k = 0 then .nilIface else .iface 59 (.int .i64 (k : Int))

theorem Tryz.cmpCode : (Tryz.prog.info? 59).map (·.comparable) = some true := by kernel_rfl
theorem run_eql_code (w : World) (a b : Int) : (binOp .eql 27 (.iface 59 (.int .i64 a)) (.iface 59 (.int .i64 b))).run Tryz.prog w = .ok (.bool (a == b)) w :=
  Lib.run_eql_iface_int w a b Tryz.underlying27 Tryz.cmpCode Tryz.underlying59

set_option maxRecDepth 20000 in
set_option maxHeartbeats 400000 in
theorem code_nil (w : World) : Calls Tryz.prog 7 #[.nilIface] w fun e w' => e = .returned (.int .i64 0) ∧ w = w' := by
  go_enter Tryz.func7, Tryz.ntmps7
  go_wp2
  go_ret
  exact ⟨rfl, rfl⟩

set_option maxRecDepth 20000 in
set_option maxHeartbeats 400000 in
theorem code_some (k : Nat) (w : World) (h1 : 1 ≤ k) (h9 : k ≤ 9) : Calls Tryz.prog 7 #[.iface 59 (.int .i64 (k : Int))] w fun e w' => e = .returned (.int .i64 (k : Int)) ∧ w = w' := by
  have hq := run_eql_code
  go_enter Tryz.func7, Tryz.ntmps7
  go_wp2
  go_loop [3] (fun c => ∃ j : Nat, 1 ≤ j ∧ j ≤ k ∧ c = .int .i64 (j : Int)) (fun c => k - (intOf c).toNat)
  case atStart => exact ⟨1, by omega, by omega, rfl⟩
  case round =>
    obtain ⟨j, hj1, hjk, rfl⟩ := hrel
    by_cases hlt : j < k
    · have hne : ((k : Int) == (j : Int)) = false := by simp; omega
      go_wp2
      go_round
      case rel => exact ⟨j + 1, by omega, by omega, by go_num⟩
      case measure => simp [intOf]; omega
    · obtain rfl : k = j := by omega
      go_wp2
      go_ret
      exact ⟨rfl, rfl⟩

theorem code_any (k : Nat) (w : World) (h9 : k ≤ 9) : Calls Tryz.prog 7 #[errV k] w fun e w' => e = .returned (.int .i64 (k : Int)) ∧ w = w' := by
  unfold errV
  split
  · rename_i h
    subst h
    exact code_nil w
  · exact code_some k w (by omega) h9

end Go.Proofs.YtaebljoacffghaaGreatDoor

/-
  Two states, held against each other.
-/
namespace Go.Proofs.YtaebljoacffghaaGreatDoor
open Go.RowKit

theorem state_fields : Tryz.prog.underlying 149 = some (.struct (Tryz.prog.fieldsOf 149)) := by kernel_rfl
theorem state_held : Tryz.prog.stoodInHeld 149 = false := by kernel_rfl
theorem refx_fields : Tryz.prog.underlying 122 = some (.struct (Tryz.prog.fieldsOf 122)) := by kernel_rfl
theorem refx_held : Tryz.prog.stoodInHeld 122 = false := by kernel_rfl
theorem state_guard : Tryz.prog.eqGuardType Tryz.prog.depth 149 = false := by kernel_rfl
theorem refx_guard : Tryz.prog.eqGuardType Tryz.prog.depth 122 = false := by kernel_rfl
theorem run_eql_state (w : World) (a b c : Int) : (binOp .eql 149 (.agg #[.int .u64 a, .int .i64 b, .int .i64 c]) (.agg #[.int .u64 a, .int .i64 b, .int .i64 c])).run Tryz.prog w = .ok (.bool true) w := by
  rw [run_eql_struct, run_equalIn_agg _ _ _ _ _ state_fields state_held]
  simp [Op.eqFields, go_sem]
theorem run_neq_state (w : World) (a b c : Int) : (binOp .neq 149 (.agg #[.int .u64 a, .int .i64 b, .int .i64 c]) (.agg #[.int .u64 a, .int .i64 b, .int .i64 c])).run Tryz.prog w = .ok (.bool false) w := by
  rw [run_neq_struct, run_equalIn_agg _ _ _ _ _ state_fields state_held]
  simp [Op.eqFields, go_sem]
theorem run_eql_refx (w : World) (a b c : Int) : (binOp .eql 122 (.agg #[.int .u64 a, .int .i64 b, .int .i64 c]) (.agg #[.int .u64 a, .int .i64 b, .int .i64 c])).run Tryz.prog w = .ok (.bool true) w := by
  rw [run_eql_struct, run_equalIn_agg _ _ _ _ _ refx_fields refx_held]
  simp [Op.eqFields, go_sem]

end Go.Proofs.YtaebljoacffghaaGreatDoor

/-
  Words for memory: samples of the call's own that lie behind block B, whatever was written ahead of B; append onto them.
-/
namespace Go.Proofs.YtaebljoacffghaaGreatDoor
open Go.RowKit

/-- samples of the call's own, made behind block B; of what lay in w0 nothing has turned -/
structure MidQ (w0 : World) (B : Nat) (w : World) (v : Value) (xs : List (Int × Nat)) : Prop where
  row : w.ownsRow B 74 2 v xs.length (qvals xs)
  bel : Below w0.heap.size w0 w
  le : w0.heap.size ≤ B
  fit : ∀ x ∈ xs, FitQ x
section
variable {w0 w w2 : World} {B : Nat} {v : Value} {xs : List (Int × Nat)}
theorem MidQ.nil_ (h : Below w0.heap.size w0 w) (hB : w0.heap.size ≤ B) : MidQ w0 B w (.slice none 0 0) [] := ⟨World.ownsRow_nil _ _ _ _, h, hB, by simp⟩
theorem MidQ.set (h : MidQ w0 B w v xs) (p : Addr) (u : Value) (h0 : w0.heap.size ≤ p.block) (h1 : p.block < B) : MidQ w0 B (w.setCell p u) v xs :=
  ⟨ownsRow_setCell_below h.row h1 u, h.bel.setCell h0 u, h.le, h.fit⟩
theorem MidQ.set8 (h : MidQ w0 B w v xs) {g : Nat} (h0 : w0.heap.size ≤ g) (h1 : g < B) (u0 u1 u2 u3 u4 u5 u6 u7 : Value) : MidQ w0 B ((((((((w.setCell ⟨g, 0, none⟩ (u0)).setCell ⟨g, 1, none⟩ (u1)).setCell ⟨g, 2, none⟩ (u2)).setCell ⟨g, 3, none⟩ (u3)).setCell ⟨g, 4, none⟩ (u4)).setCell ⟨g, 5, none⟩ (u5)).setCell ⟨g, 6, none⟩ (u6)).setCell ⟨g, 7, none⟩ (u7)) v xs :=
  (((((((h.set ⟨g, 0, none⟩ u0 h0 h1).set ⟨g, 1, none⟩ u1 h0 h1).set ⟨g, 2, none⟩ u2 h0 h1).set ⟨g, 3, none⟩ u3 h0 h1).set ⟨g, 4, none⟩ u4 h0 h1).set ⟨g, 5, none⟩ u5 h0 h1).set ⟨g, 6, none⟩ u6 h0 h1).set ⟨g, 7, none⟩ u7 h0 h1
theorem MidQ.own (h : MidQ w0 B w v xs) : OwnQ w0 w v xs := by
  refine ⟨⟨h.row.1, ?_⟩, h.bel, h.fit⟩
  rcases h.row.2 with h1 | ⟨g, cap, cur, hv, hg, r⟩
  · exact .inl h1
  · exact .inr ⟨g, cap, cur, hv, Nat.le_trans h.le hg, r⟩
theorem MidQ.rd {A : Option Addr} {n c : Nat} (h : MidQ w0 B w (.slice A n c) xs) : RdQ w w.heap.size A n c xs := h.own.rd
theorem MidQ.on (h : MidQ w0 B w v xs) (hb : Below w.heap.size w w2) : MidQ w0 B w2 v xs := by
  refine ⟨⟨h.row.1, ?_⟩, h.bel.trans (hb.mono h.bel.size), h.le, h.fit⟩
  rcases h.row.2 with h1 | ⟨g, cap, cur, hv, hg, hh, r⟩
  · exact .inl h1
  · refine .inr ⟨g, cap, cur, hv, hg, ?_, r⟩
    rw [hb.block g (by
      rcases Nat.lt_or_ge g w.heap.size with hlt | hge
      · exact hlt
      · rw [Array.getElem?_eq_none hge] at hh; cases hh)]
    exact hh
theorem MidQ.onA (h : MidQ w0 B w v xs) (o : Obj) : MidQ w0 B (w.alloc o) v xs := h.on ((Below.refl _ _).alloc (Nat.le_refl _) o)
theorem MidQ.drew (h : MidQ w0 B w v xs) : MidQ w0 B w.drew v xs := ⟨h.row, h.bel.drew, h.le, h.fit⟩
end
set_option maxRecDepth 20000 in
theorem run_appMQ (ty : TypeId) {w0 w : World} {B B2 : Nat} {v : Value} {bs cs : List (Int × Nat)} {A : Option Addr} {m c : Nat} (hown : MidQ w0 B w v bs) (hB : B ≤ w.heap.size) (hr : RdQ w B2 A m c cs) (hm : bs.length + m ≤ 8796093022208) :
    ∃ v' w', (Builtin.append_ #[31, 31] ty #[v, .slice A m c]).run Tryz.prog w = .ok v' w' ∧ MidQ w0 B w' v' (bs ++ cs) ∧ Below B w w' ∧ w.grownBy w' v.ownBlock := by
  obtain ⟨i0, hi, hz0, hz1, hz2⟩ := info_parts Tryz.infoQ
  have hg : ∀ k, v.ownBlock = some k → B ≤ k := fun k hk => (hown.row.lt k hk).1
  have hfit : ∀ x ∈ bs ++ cs, FitQ x := fun x hx => (List.mem_append.1 hx).elim (hown.fit x) (hr.fit x)
  cases A with
  | none =>
    have hm0 : m = 0 := by
      rcases Nat.eq_zero_or_pos m with h0 | h0
      · exact h0
      · obtain ⟨ad, e, _⟩ := hr.cell h0
        cases e
    subst hm0
    have hcs : cs = [] := List.eq_nil_of_length_eq_zero hr.len
    subst hcs
    have hc0 : c = 0 := hr.no rfl
    subst hc0
    exact ⟨v, w, run_append_owned_none w B _ ty 74 i0 2 Tryz.underlying31 hi v bs.length (qvals bs) hown.row, by simpa using hown, Below.refl _ _, World.grownBy.refl w _⟩
  | some ad =>
    obtain ⟨v', w', hrun, hown', hgrow, _⟩ := run_append_own (P := Tryz.prog) w B 31 ty 74 i0 (.agg #[.int .i64 0, .int .u64 0]) 2 16 Tryz.underlying31 hi hz0 hz1 hz2 (by kernel_rfl) (by decide) v bs.length (qvals bs) hown.row ad m c (qvals cs)
      (by rw [qvals_length, hr.len]) (by
        intro j u hu
        have hj : j < m * 2 := by
          have := (List.getElem?_eq_some_iff.1 hu).1
          rw [qvals_length, hr.len] at this
          exact this
        obtain ⟨ad', e, _, hc⟩ := hr.cell (by omega)
        injection e with e
        subst e
        have hk : j / 2 < cs.length := by rw [hr.len]; omega
        have hq := qvals_at cs (j / 2) hk
        have hcc := hc (j / 2) (by rw [← hr.len]; exact hk)
        rcases (by omega : j = j / 2 * 2 ∨ j = j / 2 * 2 + 1) with e | e
        · rw [e] at hu ⊢
          have h0 : j / 2 * 2 / 2 * 2 = j / 2 * 2 := by omega
          rw [hcc.1, ← hu, hq.1]
        · rw [e] at hu ⊢
          rw [hcc.2, ← hu, hq.2]) (qvals_one cs) (by unfold maxLen; omega) (by omega) hB
    have hbB : Below B w w' := (Below.refl B w).grown hgrow hB hg
    refine ⟨v', w', hrun, ⟨?_, hown.bel.trans (hbB.mono hown.le), hown.le, hfit⟩, hbB, hgrow⟩
    rw [qvals_app, List.length_append, hr.len]
    exact hown'
theorem wp_appMQ {o : Oper} {a : Act} {K : Act → World → Prop} {Q : Exit → Act → World → Prop} (s x : Operand)
    (ho : o.op = .call { callee := .builtin .append, args := #[s, x], argTypes := #[31, 31] })
    {w0 w : World} {B B2 : Nat} {v : Value} {bs cs : List (Int × Nat)} {A : Option Addr} {m c : Nat} (hs : a.eval s = v) (hx : a.eval x = .slice A m c) (hown : MidQ w0 B w v bs) (hB : B ≤ w.heap.size) (hr : RdQ w B2 A m c cs)
    (hm : bs.length + m ≤ 8796093022208) (h : ∀ v' w', MidQ w0 B w' v' (bs ++ cs) → Below B w w' → w.grownBy w' v.ownBlock → K (a.put o.dst v') w') : o.wp Tryz.prog a w K Q := by
  obtain ⟨v', w', hrun, h1, h2, h3⟩ := run_appMQ o.type hown hB hr hm
  unfold Oper.wp execOp
  simp only [ho, resolve, invoke, builtin, Sem.run_bind, Sem.run_pure, Result.andThen_ok, List.map_toArray, List.map_cons, List.map_nil, hs, hx, hrun]
  exact h v' w' h1 h2 h3
/-- at a step of a region that draws its order -/
theorem step_appMQ {ops : Array Oper} {o : Oper} {a : Act} {K : Act → World → Prop} {Q : Exit → Act → World → Prop} {E : Prop} (hgd : o.guard = none) (s x : Operand)
    (ho : o.op = .call { callee := .builtin .append, args := #[s, x], argTypes := #[31, 31] })
    {w0 w : World} {B B2 : Nat} {v : Value} {bs cs : List (Int × Nat)} {A : Option Addr} {m c : Nat} (hs : a.eval s = v) (hx : a.eval x = .slice A m c) (hown : MidQ w0 B w v bs) (hB : B ≤ w.heap.size) (hr : RdQ w B2 A m c cs)
    (hm : bs.length + m ≤ 8796093022208) (h : ∀ v' w', MidQ w0 B w' v' (bs ++ cs) → Below B w w' → w.grownBy w' v.ownBlock → K (a.put o.dst v') w') :
    if Region.wanted o (yielded ops a.tmps) = true then Oper.wp Tryz.prog o a w K Q else E := by
  have hw : Region.wanted o (yielded ops a.tmps) = true := by simp [Region.wanted, hgd]
  rw [if_pos hw]
  exact wp_appMQ s x ho hs hx hown hB hr hm h
/-- in a plain region -/
theorem wpList_appMQ {ops : Array Oper} {rest : List Oper} {o : Oper} {a : Act} {Q : Exit → Act → World → Prop} (hgd : o.guard = none) (s x : Operand)
    (ho : o.op = .call { callee := .builtin .append, args := #[s, x], argTypes := #[31, 31] })
    {w0 w : World} {B B2 : Nat} {v : Value} {bs cs : List (Int × Nat)} {A : Option Addr} {m c : Nat} (hs : a.eval s = v) (hx : a.eval x = .slice A m c) (hown : MidQ w0 B w v bs) (hB : B ≤ w.heap.size) (hr : RdQ w B2 A m c cs)
    (hm : bs.length + m ≤ 8796093022208)
    (h : ∀ v' w', MidQ w0 B w' v' (bs ++ cs) → Below B w w' → w.grownBy w' v.ownBlock → wpList Tryz.prog ops Q rest (a.put o.dst v') w') : wpList Tryz.prog ops Q (o :: rest) a w :=
  wpList_plain hgd fun _ hK => wp_appMQ s x ho hs hx hown hB hr hm fun v' w' h1 h2 h3 => hK _ _ (h v' w' h1 h2 h3)

end Go.Proofs.YtaebljoacffghaaGreatDoor
