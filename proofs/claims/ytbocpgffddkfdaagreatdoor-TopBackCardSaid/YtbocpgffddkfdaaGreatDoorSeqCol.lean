/-
  Words for a loop that collects what an iterator tells, into a list in a box of its own.
-/
import Derived.Test.YtbocpgffddkfdaaGreatDoorSeqRun
import Derived.RangeFuncBox
import Derived.RangeFuncCalls
import Derived.RangeFuncLeaves
namespace Go.Proofs.YtbocpgffddkfdaaGreatDoor
open Go.RowKit

/-- the samples that are still to come -/
def restQ (xs : List (Int × Nat)) (a : Int) (d : Bool) : List (Int × Nat) := if d = true then [] else xs.drop (a + 1).toNat
theorem restQ_done (xs : List (Int × Nat)) (a : Int) : restQ xs a true = [] := rfl
theorem restQ_live (xs : List (Int × Nat)) (a : Int) : restQ xs a false = xs.drop (a + 1).toNat := rfl
theorem restQ_len {xs : List (Int × Nat)} {a : Int} (ha : StandsAt xs.length a) : ((restQ xs a false).length : Int) = (xs.length : Int) - a - 1 := by
  unfold StandsAt at ha
  rw [restQ_live, List.length_drop]
  omega
theorem restQ_get {xs : List (Int × Nat)} {a : Int} (ha : -1 ≤ a) (k : Nat) (hk : a + (k : Int) + 1 < (xs.length : Int)) : (restQ xs a false).take (k + 1) = (restQ xs a false).take k ++ [lookQ xs (a + (k : Int) + 1) false] := by
  have h1 : k < (restQ xs a false).length := by rw [restQ_live, List.length_drop]; omega
  rw [List.take_add_one, List.getElem?_eq_getElem h1]
  have h2 : lookQ xs (a + (k : Int) + 1) false = xs.getD (a + (k : Int) + 1).toNat (0, 0) := by
    unfold lookQ
    rw [if_neg]
    intro h
    rcases h with h | h
    · cases h
    · omega
  rw [h2]
  simp only [restQ_live, List.getElem_drop, Option.toList_some, List.getD_eq_getElem?_getD]
  rw [List.getElem?_eq_getElem (by omega)]
  simp only [Option.getD_some]
  congr 2
  have : (a + 1).toNat + k = (a + (k : Int) + 1).toNat := by omega
  simp only [this]

/-- where a cursor stands that was asked for m samples more, one by one -/
def colA (xs : List (Int × Nat)) (a : Int) (d : Bool) (m : Nat) : Int := a + ((min m (restQ xs a d).length : Nat) : Int)
def colD (xs : List (Int × Nat)) (a : Int) (d : Bool) (m : Nat) : Bool := if (restQ xs a d).length < m then true else d

/-- amid such a loop: the list's box, another one, the iterator's, what else may be written -/
structure AtCol (w0 : World) (P0 : Nat → Prop) (g BL BM BX : Nat) (tM : TypeId) (vM vX : Value) (ys : List (Int × Nat)) (P : Nat → Prop) (k : Nat) (W : World) : Prop where
  lst : ∃ v, Boxed W BL 27 v ∧ RowQ w0.heap.size W v (ys.take k) ∧ ∀ j, v.ownBlock = some j → P j
  bm : Boxed W BM tM vM
  bx : Boxed W BX 80 vX
  inP : ∀ j, P j → j < W.heap.size
  bl : P BL
  gr : w0.grownBy W (some g)
  sub : ∀ j, P0 j → P j
/-- what is fixed there -/
structure ColFix (w0 : World) (g BL BM BX : Nat) : Prop where
  g0 : g < w0.heap.size
  l0 : w0.heap.size ≤ BL
  m0 : w0.heap.size ≤ BM
  x0 : w0.heap.size ≤ BX
  lm : BL ≠ BM
  lx : BL ≠ BX

section
variable {w0 W W' w1 : World} {P0 P : Nat → Prop} {g BL BM BX k : Nat} {tM : TypeId} {vM vX v v' : Value} {ys : List (Int × Nat)}
theorem Boxed.cells {b : Nat} {t : TypeId} {u : Value} (h : Boxed W b t u) {row : Option Nat} (hr : ∀ r, row = some r → ∃ o : Obj, W.heap[r]? = some o ∧ o.isCells = false) : some b ≠ row := fun e => by
  obtain ⟨o, ho, hc⟩ := hr b e.symm
  rw [show W.heap[b]? = _ from h] at ho
  cases ho
  cases hc
/-- the iterator's own step -/
theorem AtCol.step (h : AtCol w0 P0 g BL BM BX tM vM vX ys P k W) (f : ColFix w0 g BL BM BX) (hg : W.grownBy W' (some g)) : AtCol w0 P0 g BL BM BX tM vM vX ys P k W' := by
  obtain ⟨v, h1, h2, h3⟩ := h.lst
  have f1 := f.g0
  have f2 := f.l0
  have f3 := f.m0
  have f4 := f.x0
  refine ⟨⟨v, h1.kept hg (fun e => by injection e with e; omega), h2.kept hg (fun j e e' => ?_), h3⟩, h.bm.kept hg (fun e => by injection e with e; omega), h.bx.kept hg (fun e => by injection e with e; omega), fun j hj => Nat.lt_of_lt_of_le (h.inP j hj) hg.size, h.bl, h.gr.trans hg, h.sub⟩
  injection e' with e'
  have := (h2.lt e).1
  omega
/-- a block that holds no cells -/
theorem AtCol.noCells (h : AtCol w0 P0 g BL BM BX tM vM vX ys P k W) {row : Option Nat} (hg : W.grownBy W' row) (hr : ∀ r, row = some r → w0.heap.size ≤ r ∧ ∃ o : Obj, W.heap[r]? = some o ∧ o.isCells = false) : AtCol w0 P0 g BL BM BX tM vM vX ys P k W' := by
  obtain ⟨v, h1, h2, h3⟩ := h.lst
  have hr' : ∀ r, row = some r → ∃ o : Obj, W.heap[r]? = some o ∧ o.isCells = false := fun r e => (hr r e).2
  refine ⟨⟨v, h1.kept hg (Boxed.cells h1 hr'), h2.kept hg (fun j e e' => ?_), h3⟩, h.bm.kept hg (Boxed.cells h.bm hr'), h.bx.kept hg (Boxed.cells h.bx hr'), fun j hj => Nat.lt_of_lt_of_le (h.inP j hj) hg.size, h.bl, ?_, h.sub⟩
  · obtain ⟨o, ho, hc⟩ := hr' j e'
    obtain ⟨o', ho', hc'⟩ := h2.cells e
    rw [ho] at ho'
    cases ho'
    rw [hc] at hc'
    cases hc'
  · have hs := h.gr.size
    refine ⟨hg.os.trans h.gr.os, hg.tape.trans h.gr.tape, hg.output.trans h.gr.output, Nat.le_trans hs hg.size, fun j hj hne => ?_⟩
    refine (hg.block j (Nat.lt_of_lt_of_le hj hs) (fun e => ?_)).trans (h.gr.block j hj hne)
    have := (hr j e.symm).1
    omega
variable {T : TypeId} {fN fS fA B : Nat} {xs : List (Int × Nat)} {In : (Nat → Prop) → World → Int → Bool → Prop} {a : Int} {d : Bool} {o : Obj}
/-- one sample more -/
theorem AtCol.put (X : ItOk T fN fS fA B g xs In) (f : ColFix w0 g BL BM BX) (h : AtCol w0 P0 g BL BM BX tM vM vX ys P k W) (hi : In P W a d) (htM : tM ≠ 61) (hv : Boxed W BL 27 v) (hrow : RowQ w0.heap.size W v (ys.take k)) (hvP : ∀ j, v.ownBlock = some j → P j)
    (hrow' : RowQ w0.heap.size w1 v' (ys.take (k + 1))) (hg : (W.alloc o).grownBy w1 v.ownBlock) (hat : v'.ownBlock = v.ownBlock ∨ v'.ownBlock = some (W.alloc o).heap.size) :
    Boxed w1 BL 27 v ∧ KeepsOthers W (w1.setCell ⟨BL, 0, none⟩ v') ∧ ∃ P', AtCol w0 P0 g BL BM BX tM vM vX ys P' (k + 1) (w1.setCell ⟨BL, 0, none⟩ v') ∧ In P' (w1.setCell ⟨BL, 0, none⟩ v') a d := by
  have f1 := f.g0
  have f2 := f.l0
  have f3 := f.m0
  have f4 := f.x0
  have f5 := f.lm
  have f6 := f.lx
  have hs0 := h.gr.size
  have hgv : ∀ j, v.ownBlock = some j → P j ∧ g ≠ j := fun j e => ⟨hvP j e, by have := (hrow.lt e).1; omega⟩
  have b1 : Boxed w1 BL 27 v := (hv.alloc o).kept hg (hv.not_row (by decide) hrow.row)
  have bm1 : Boxed w1 BM tM vM := (h.bm.alloc o).kept hg (h.bm.not_row htM hrow.row)
  have bx1 : Boxed w1 BX 80 vX := (h.bx.alloc o).kept hg (h.bx.not_row (by decide) hrow.row)
  have i1 := X.appended (X.below hi ((Below.refl _ _).alloc (Nat.le_refl _) o)) hg hgv hat
  have hset := grownBy_setCell' w1 BL v'
  have i2 := X.far i1 hset (.inl h.bl) (by omega)
  have hsz : (W.alloc o).heap.size = W.heap.size + 1 := by simp
  have r2 : RowQ w0.heap.size (w1.setCell ⟨BL, 0, none⟩ v') v' (ys.take (k + 1)) := hrow'.kept hset (fun j e e' => by
    injection e' with e'
    subst e'
    exact b1.not_row (by decide) hrow'.row e.symm)
  have gr1 : w0.grownBy w1 (some g) := by
    have ga := h.gr.trans (World.grownBy_alloc W o (some g))
    refine ⟨hg.os.trans ga.os, hg.tape.trans ga.tape, hg.output.trans ga.output, Nat.le_trans ga.size hg.size, fun j hj hne => ?_⟩
    refine (hg.block j (Nat.lt_of_lt_of_le hj ga.size) (fun e => ?_)).trans (ga.block j hj hne)
    have := (hrow.lt e.symm).1
    omega
  refine ⟨b1, ?_, _, ⟨⟨v', b1.set v', r2, fun j e => .inr e⟩, bm1.kept hset (fun e => by injection e with e; omega), bx1.kept hset (fun e => by injection e with e; omega), fun j hj => ?_, .inl h.bl, ?_, fun j hj => .inl (h.sub j hj)⟩, i2⟩
  · refine ((KeepsOthers.alloc W o).trans (KeepsOthers.of_grownBy hg fun j q e hq => ?_)).trans (KeepsOthers.setCell _ _ _)
    obtain ⟨q', hq', hc'⟩ := (hrow.alloc o).cells e
    rw [hq] at hq'
    cases hq'
    exact hc'
  · rcases hj with hj | hj
    · exact Nat.lt_of_lt_of_le (h.inP j hj) (by have := hg.size; have := hset.size; omega)
    · exact (r2.lt hj).2
  · refine ⟨hset.os.trans gr1.os, hset.tape.trans gr1.tape, hset.output.trans gr1.output, Nat.le_trans gr1.size hset.size, fun j hj hne => ?_⟩
    exact (hset.block j (Nat.lt_of_lt_of_le hj gr1.size) (fun e => by injection e with e; omega)).trans (gr1.block j hj hne)
/-- the loop's end: the list, and all that is handed back -/
theorem AtCol.ret (X : ItOk T fN fS fA B g xs In) (f : ColFix w0 g BL BM BX) (h : AtCol w0 P0 g BL BM BX tM vM vX ys P k W) (hi : In P W a d) (hg0 : P0 g) (hge : ∀ j, P0 j → B ≤ j) {D : Nat} (hD : w0.heap.size ≤ D) {q : Obj} (o' : Obj) (hK : W.heap[D]? = some q) (hq : q.isCells = false) :
    ∃ A c, Boxed W BL 27 (.slice A (ys.take k).length c) ∧ RdQ (W.putObj D o') (W.putObj D o').heap.size A (ys.take k).length c (ys.take k) ∧ In P0 (W.putObj D o') a d ∧ w0.grownBy (W.putObj D o') (some g) ∧ ∀ ad, A = some ad → w0.heap.size ≤ ad.block := by
  have f1 := f.g0
  have hgr := grownBy_putObj' W D o'
  have hr : ∀ r, some D = some r → w0.heap.size ≤ r ∧ ∃ o : Obj, W.heap[r]? = some o ∧ o.isCells = false := fun r e => by
    injection e with e
    subst e
    exact ⟨hD, q, hK, hq⟩
  have h' := h.noCells hgr hr
  obtain ⟨v, h1, h2, h3⟩ := h.lst
  obtain ⟨A, c, rfl⟩ := h2.form
  refine ⟨A, c, h1, ?_, X.also (X.own hi hgr (fun r e => ⟨by have := (hr r e).1; omega, (hr r e).2⟩)) (fun j hj _ => h.sub j hj) hg0 hge, h'.gr, fun ad e => (h2.lt (k := ad.block) (by rw [e]; rfl)).1⟩
  refine (h2.kept hgr (fun j e e' => ?_)).rd
  injection e' with e'
  subst e'
  obtain ⟨o2, ho2, hc2⟩ := h2.cells e
  rw [hK] at ho2
  cases ho2
  rw [hq] at hc2
  cases hc2
end

end Go.Proofs.YtbocpgffddkfdaaGreatDoor
