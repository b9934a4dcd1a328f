/-
  Words for memory: what is kept where a row of another type grows, or where a box of another type is stored to; samples from a place on.
-/
import Derived.Test.YtkjkdiijlgoagaaGreatDoorIdxA
import Derived.Test.YtkjkdiijlgoagaaGreatDoorEntsA
import Derived.Test.YtkjkdiijlgoagaaGreatDoorWords
namespace Go.Proofs.YtkjkdiijlgoagaaGreatDoor
open Go.RowKit

/-- every block that is no row of type t is kept -/
def KeepT (t : TypeId) (w w' : World) : Prop := w.heap.size ≤ w'.heap.size ∧ ∀ g, g < w.heap.size → (∀ cs q, w.heap[g]? ≠ some (.cells cs t q)) → w'.heap[g]? = w.heap[g]?
section
variable {t t' : TypeId} {w0 w w' : World} {v : Value}
theorem KeepO.keepT (h : KeepO w w') : KeepT 5 w w' := h
theorem KeepT.of_grown {es : List Ent} (hown : OwnE t w0 w v es) (h : w.grownBy w' v.ownBlock) : KeepT t w w' := by
  refine ⟨h.size, fun g hg hn => h.block g hg (fun e => ?_)⟩
  rcases hown.row.2 with ⟨rfl, _⟩ | ⟨g', cap, cur, rfl, _, hh, _⟩
  · cases e
  · have e' : some g' = some g := e.symm
    injection e' with e'
    subst e'
    exact hn _ _ hh
theorem KeepT.drew_ (t : TypeId) (w : World) : KeepT t w w.drew := ⟨Nat.le_refl _, fun _ _ _ => rfl⟩
theorem KeepT.alloc_ (t : TypeId) (w : World) (o : Obj) : KeepT t w (w.alloc o) := ⟨by simp, fun g hg _ => ((Below.refl w.heap.size w).alloc (Nat.le_refl _) o).block g hg⟩
theorem KeepT.trans {w1 : World} (h : KeepT t w w1) (h' : KeepT t w1 w') : KeepT t w w' :=
  ⟨Nat.le_trans h.1 h'.1, fun g hg hn => by
    have e := h.2 g hg hn
    rw [← e]
    exact h'.2 g (Nat.lt_of_lt_of_le hg h.1) (fun cs q => by rw [e]; exact hn cs q)⟩
theorem KeepT.other (h : KeepT t w w') {g : Nat} {cs : Array Value} {q : Nat × Nat} (hw : w.heap[g]? = some (.cells cs t' q)) (ht : t' ≠ t) : w'.heap[g]? = some (.cells cs t' q) := by
  have hlt : g < w.heap.size := by
    rcases Nat.lt_or_ge g w.heap.size with h1 | h1
    · exact h1
    · rw [Array.getElem?_eq_none h1] at hw; cases hw
  rw [h.2 g hlt (fun cs' q e => by rw [hw] at e; injection e with e; injection e with e1 e2; exact ht e2), hw]
theorem Own.keepT {bs : List Nat} (h : Own w0 w v bs) (hk : KeepT t w w') (ht : 5 ≠ t) (hb : Below w0.heap.size w0 w') : Own w0 w' v bs := by
  refine ⟨⟨h.row.1, ?_⟩, hb⟩
  rcases h.row.2 with h1 | ⟨g, cap, cur, hv, hg, hh, r⟩
  · exact .inl h1
  · exact .inr ⟨g, cap, cur, hv, hg, hk.other hh ht, r⟩
theorem OwnE.keepT {es : List Ent} (h : OwnE t' w0 w v es) (hk : KeepT t w w') (ht : t' ≠ t) (hb : Below w0.heap.size w0 w') : OwnE t' w0 w' v es := by
  refine ⟨⟨h.row.1, ?_⟩, hb, h.fit⟩
  rcases h.row.2 with h1 | ⟨g, cap, cur, hv, hg, hh, r⟩
  · exact .inl h1
  · exact .inr ⟨g, cap, cur, hv, hg, hk.other hh ht, r⟩
end

/-- a box of cells of type t -/
structure BoxT (t : TypeId) (w : World) (g : Nat) (l : List Value) : Prop where
  box : BoxL w g l
  ty : ∃ cs q, w.heap[g]? = some (.cells cs t q)
section
variable {t t' : TypeId} {w w' : World} {g : Nat} {l : List Value}
theorem BoxT.new (w : World) (l : List Value) (t : TypeId) : BoxT t (w.alloc (.cells l.toArray t)) w.heap.size l := ⟨BoxL.new w l t, _, _, heap_alloc_new w _⟩
theorem BoxT.same_ (h : BoxT t w g l) (he : w'.heap[g]? = w.heap[g]?) : BoxT t w' g l := by
  obtain ⟨cs, q, hh⟩ := h.ty
  have hlt : g < w'.heap.size := by
    rcases Nat.lt_or_ge g w'.heap.size with h1 | h1
    · exact h1
    · rw [hh, Array.getElem?_eq_none h1] at he; cases he
  exact ⟨⟨hlt, fun i v hi => (World.cell?_of_block (a := ⟨g, i, none⟩) he).trans (h.box.cell i v hi), fun i v hi => (World.frozen?_of_block (a := ⟨g, i, none⟩) he).trans (h.box.free i v hi)⟩, cs, q, by rw [he, hh]⟩
theorem BoxT.below (h : BoxT t w g l) (hb : Below w.heap.size w w') : BoxT t w' g l := h.same_ (hb.block g h.box.lt)
theorem BoxT.drew_ (h : BoxT t w g l) : BoxT t w.drew g l := h.same_ rfl
theorem BoxT.keepT (h : BoxT t w g l) (hk : KeepT t' w w') (ht : t ≠ t') : BoxT t w' g l := by
  obtain ⟨cs, q, hh⟩ := h.ty
  exact h.same_ (by rw [hk.other hh ht, hh])
theorem BoxT.put (h : BoxT t w g l) (k : Nat) (u : Value) : BoxT t (w.setCell ⟨g, k, none⟩ u) g (l.set k u) := by
  obtain ⟨cs, q, hh⟩ := h.ty
  refine ⟨h.box.put k u, cs.setIfInBounds k u, q, ?_⟩
  simp [World.setCell, Array.getElem?_modify, hh]
theorem KeepT.set (h : BoxT t w g l) (k : Nat) (u : Value) : KeepT t w (w.setCell ⟨g, k, none⟩ u) := by
  refine ⟨by simp, fun g' hg hn => Below.heap_setCell _ _ _ g' (fun e => ?_)⟩
  obtain ⟨cs, q, hh⟩ := h.ty
  exact hn cs q (by rw [e]; exact hh)
end

/-- how many a slice has -/
def sliceLen : Value → Nat
  | .slice _ n _ => n
  | _ => 0
/-- samples cut from a place on -/
theorem RdQ.cutTail {w : World} {B m c a : Nat} {A : Option Addr} {xs : List (Int × Nat)} (h : RdQ w B A m c xs) (ha : a ≤ m) : RdQ w B (A.map fun x => x.add (a * 2)) (m - a) (c - a) (xs.drop a) := by
  have hc := h.cap
  refine ⟨by rw [List.length_drop, h.len], by omega, ?_, fun hn => ?_, fun x hx => h.fit x (List.mem_of_mem_drop hx)⟩
  · intro e
    cases A with
    | none => have := h.no rfl; omega
    | some ad => cases e
  · obtain ⟨ad, rfl, hb, hcell⟩ := h.cell (by omega)
    refine ⟨ad.add (a * 2), rfl, by rw [add_block]; exact hb, fun j hj => ?_⟩
    have h1 := hcell (a + j) (by omega)
    have e : (xs.drop a).getD j (0, 0) = xs.getD (a + j) (0, 0) := by simp only [List.getD_eq_getElem?_getD, List.getElem?_drop]
    rw [add_add', add_add', e, show a * 2 + j * 2 = (a + j) * 2 by omega, show a * 2 + (j * 2 + 1) = (a + j) * 2 + 1 by omega]
    exact h1
theorem RdQ.empty {w : World} {B c : Nat} {A : Option Addr} {xs : List (Int × Nat)} (h : xs.length = 0) (hA : A = none → c = 0) : RdQ w B A 0 c xs :=
  ⟨h, Nat.zero_le _, hA, fun hn => absurd hn (by omega), fun x hx => by rw [List.eq_nil_of_length_eq_zero h] at hx; simp at hx⟩

/-- bytes that lie in another block than the row that grows -/
theorem Rd.aside {w w' : World} {B n c : Nat} {A : Option Addr} {bs : List Nat} {row : Option Nat} (h : Rd w B A n c bs) (hg : w.grownBy w' row) (hne : ∀ ad, A = some ad → row ≠ some ad.block) : Rd w' B A n c bs :=
  ⟨h.len, h.cap, h.no, fun hn => by
    obtain ⟨a, e, hb, hc⟩ := h.cell hn
    exact ⟨_, e, hb, fun j hj => hg.cell (hc j hj) (by rw [add_block]; exact fun e2 => hne a e e2.symm)⟩⟩
theorem Own.beyond {w0 w : World} {A : Option Addr} {n c : Nat} {bs : List Nat} (h : Own w0 w (.slice A n c) bs) : ∀ ad, A = some ad → w0.heap.size ≤ ad.block := by
  intro ad e
  subst e
  exact (h.row.lt ad.block rfl).1
theorem Own.before {w0 w : World} {v : Value} {bs : List Nat} (h : Own w0 w v bs) : ∀ g, v.ownBlock = some g → g < w.heap.size := fun g hg => (h.row.lt g hg).2
/-- append in a plain region: what is kept, and where the row lies -/
theorem wpList_appG {ops : Array Oper} {rest : List Oper} {o : Oper} {a : Act} {Q : Exit → Act → World → Prop} (hgd : o.guard = none) (s x : Operand)
    (ho : o.op = .call { callee := .builtin .append, args := #[s, x], argTypes := #[22, 22] })
    {w0 w : World} {B : Nat} {v : Value} {bs cs : List Nat} {A : Option Addr} {m c : Nat} (hs : a.eval s = v) (hx : a.eval x = .slice A m c) (hown : Own w0 w v bs) (hr : Rd w B A m c cs)
    (hm : bs.length + m ≤ 1073741824)
    (h : ∀ v' w', Own w0 w' v' (bs ++ cs) → w.grownBy w' v.ownBlock → KeepO w w' → wpList Tryz.prog ops Q rest (a.put o.dst v') w') : wpList Tryz.prog ops Q (o :: rest) a w :=
  wpList_plain hgd fun _ hK => wp_app s x ho hs hx hown hr hm fun v' w' h2 hg => hK _ _ (h v' w' h2 hg (KeepO.of_grown hown hg))

end Go.Proofs.YtkjkdiijlgoagaaGreatDoor
