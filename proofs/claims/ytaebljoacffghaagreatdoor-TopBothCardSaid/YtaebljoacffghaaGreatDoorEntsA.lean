/-
  Texts of this proof, one behind the other: Ents, PackMem, StepE.
-/
import Derived.Test.YtaebljoacffghaaGreatDoorWords
import Derived.Test.YtaebljoacffghaaGreatDoorIdxP
import Derived.Test.YtaebljoacffghaaGreatDoorIdxA
import Derived.Deep.Slices
import Derived.Deep.RegionHeld3

/-
  Words for memory: a slice value that reads as entries (four whole numbers each); a row of entries of the call's own; append onto it; an argument of a law opened so.
-/
namespace Go.Proofs.YtaebljoacffghaaGreatDoor
open Go.ChangeShapes Go.WideShapes Go.ChangeAt Go.RowKit

/-- an entry as a value -/
def eagg (e : Ent) : Value := .agg #[.int .i64 e.mn, .int .i64 e.mx, .int .i64 e.ct, .int .i64 e.ln]
/-- the four cells of an entry at an address -/
structure CellsE (w : World) (ad : Addr) (e : Ent) : Prop where
  c0 : w.cell? ad = some (.int .i64 e.mn)
  c1 : w.cell? ⟨ad.block, ad.off + 1, none⟩ = some (.int .i64 e.mx)
  c2 : w.cell? ⟨ad.block, ad.off + 2, none⟩ = some (.int .i64 e.ct)
  c3 : w.cell? ⟨ad.block, ad.off + 3, none⟩ = some (.int .i64 e.ln)
/-- the slice value '.slice A n c' reads as the entries xs, and lies below block B -/
structure RdE (w : World) (B : Nat) (A : Option Addr) (n c : Nat) (xs : List Ent) : Prop where
  len : xs.length = n
  cap : n ≤ c
  no : A = none → c = 0
  cell : 0 < n → ∃ ad, A = some ad ∧ ad.block < B ∧ ∀ j, j < n → CellsE w (ad.add (j * 4)) (xs.getD j ent0)
  fit : ∀ x ∈ xs, FitE x

theorem fit_ent0 : FitE ent0 := by unfold FitE ent0; simp
section
variable {w w' : World} {B B' n c : Nat} {A : Option Addr} {xs : List Ent}
theorem CellsE.keep {ad : Addr} {e : Ent} (h : CellsE w ad e) (hb : ad.block < B) (hk : ∀ p : Addr, p.block < B → w'.cell? p = w.cell? p) : CellsE w' ad e :=
  ⟨(hk ad hb).trans h.c0, (hk ⟨ad.block, ad.off + 1, none⟩ hb).trans h.c1, (hk ⟨ad.block, ad.off + 2, none⟩ hb).trans h.c2, (hk ⟨ad.block, ad.off + 3, none⟩ hb).trans h.c3⟩
theorem RdE.fitAt (h : RdE w B A n c xs) (k : Nat) : FitE (xs.getD k ent0) := by
  rcases Nat.lt_or_ge k xs.length with hk | hk
  · rw [List.getD_eq_getElem?_getD, List.getElem?_eq_getElem hk]
    exact h.fit _ (List.getElem_mem hk)
  · rw [List.getD_eq_getElem?_getD, List.getElem?_eq_none hk]
    exact fit_ent0
theorem RdE.at_ {k : Nat} (h : RdE w B A n c xs) (hk : k < n) : ∃ ad, A = some ad ∧ ad.block < B ∧ CellsE w (ad.add (k * 4)) (xs.getD k ent0) := by
  obtain ⟨ad, e, hb, hc⟩ := h.cell (by omega)
  exact ⟨ad, e, hb, hc k hk⟩
theorem RdE.keep (h : RdE w B A n c xs) (hk : ∀ p : Addr, p.block < B → w'.cell? p = w.cell? p) : RdE w' B A n c xs :=
  ⟨h.len, h.cap, h.no, fun hn => by
    obtain ⟨ad, e, hb, hc⟩ := h.cell hn
    exact ⟨ad, e, hb, fun j hj => (hc j hj).keep (by rw [add_block]; exact hb) hk⟩, h.fit⟩
theorem RdE.below (h : RdE w B A n c xs) (hb : Below B w w') : RdE w' B A n c xs := h.keep fun _ hp => hb.cell hp
theorem RdE.more (h : RdE w B A n c xs) (hB : B ≤ B') : RdE w B' A n c xs :=
  ⟨h.len, h.cap, h.no, fun hn => by
    obtain ⟨ad, e, hb, hc⟩ := h.cell hn
    exact ⟨ad, e, by omega, hc⟩, h.fit⟩
theorem RdE.drew (h : RdE w B A n c xs) : RdE w.drew B A n c xs := ⟨h.len, h.cap, h.no, fun hn => by
    obtain ⟨ad, e, hb, hc⟩ := h.cell hn
    exact ⟨ad, e, hb, fun j hj => ⟨(hc j hj).c0, (hc j hj).c1, (hc j hj).c2, (hc j hj).c3⟩⟩, h.fit⟩
theorem RdE.nil_ : RdE w B none 0 0 [] := ⟨rfl, Nat.le_refl _, fun _ => rfl, fun h => absurd h (by omega), by simp⟩
end

/-- entries as values, cell by cell -/
def evals : List Ent → List Value
  | [] => []
  | e :: r => .int .i64 e.mn :: .int .i64 e.mx :: .int .i64 e.ct :: .int .i64 e.ln :: evals r
theorem evals_length : ∀ xs : List Ent, (evals xs).length = xs.length * 4
  | [] => rfl
  | x :: r => by simp only [evals, List.length_cons, evals_length r]; omega
theorem evals_app : ∀ p q : List Ent, evals (p ++ q) = evals p ++ evals q
  | [], q => rfl
  | x :: r, q => by simp only [List.cons_append, evals, evals_app r q]
theorem evals_one : ∀ xs : List Ent, ∀ u ∈ evals xs, u.oneCell' = true
  | [], u, h => by simp [evals] at h
  | x :: r, u, h => by
    simp only [evals, List.mem_cons] at h
    rcases h with rfl | rfl | rfl | rfl | h
    · rfl
    · rfl
    · rfl
    · rfl
    · exact evals_one r u h
theorem evals_at : ∀ (xs : List Ent) (k : Nat), k < xs.length → (evals xs)[k * 4]? = some (.int .i64 (xs.getD k ent0).mn) ∧ (evals xs)[k * 4 + 1]? = some (.int .i64 (xs.getD k ent0).mx) ∧
    (evals xs)[k * 4 + 2]? = some (.int .i64 (xs.getD k ent0).ct) ∧ (evals xs)[k * 4 + 3]? = some (.int .i64 (xs.getD k ent0).ln)
  | [], k, h => absurd h (by simp)
  | x :: r, 0, h => by simp [evals]
  | x :: r, k + 1, h => by
    have := evals_at r k (by simpa using h)
    have e1 : (k + 1) * 4 = k * 4 + 1 + 1 + 1 + 1 := by omega
    rw [e1]
    simpa [evals] using this

/-- v is a slice of entries (of type t) of the call's own (made behind the world w0), it holds xs; of what lay in w0 nothing has turned -/
structure OwnE (t : TypeId) (w0 w : World) (v : Value) (xs : List Ent) : Prop where
  row : w.ownsRow w0.heap.size t 4 v xs.length (evals xs)
  bel : Below w0.heap.size w0 w
  fit : ∀ x ∈ xs, FitE x

section
variable {t : TypeId} {w0 w w2 : World} {v : Value} {xs : List Ent}
theorem OwnE.nil_ (t : TypeId) (w0 w : World) (h : Below w0.heap.size w0 w) : OwnE t w0 w (.slice none 0 0) [] := ⟨World.ownsRow_nil _ _ _ _, h, by simp⟩
theorem OwnE.alloc (h : OwnE t w0 w v xs) (o : Obj) : OwnE t w0 (w.alloc o) v xs := ⟨h.row.alloc o, h.bel.alloc h.bel.size o, h.fit⟩
theorem OwnE.drew (h : OwnE t w0 w v xs) : OwnE t w0 w.drew v xs := ⟨h.row, h.bel.drew, h.fit⟩
theorem RdE.ownRow {base n c : Nat} {A : Option Addr} (h : w.ownsRow base t 4 (.slice A n c) n (evals xs)) (hf : ∀ x ∈ xs, FitE x) : RdE w w.heap.size A n c xs := by
  have hl : xs.length = n := by have := h.1; rw [evals_length] at this; omega
  have hc : n ≤ c ∧ (A = none → c = 0) := by
    rcases h.2 with ⟨e, h0⟩ | ⟨g, cap, cur, e, _, _, hnc, _⟩
    · injection e with e1 e2 e3
      exact ⟨by omega, fun _ => e3⟩
    · injection e with e1 e2 e3
      exact ⟨by omega, fun hA => by rw [hA] at e1; cases e1⟩
  refine ⟨hl, hc.1, hc.2, fun hn => ?_, hf⟩
  obtain ⟨g, cap, hv, _, hlt⟩ := h.form hn
  have hA : A = some ⟨g, 0, none⟩ := by injection hv
  subst hA
  refine ⟨_, rfl, hlt, fun j hj => ?_⟩
  have hq := evals_at xs j (by omega)
  have e0 : (Addr.add ⟨g, 0, none⟩ (j * 4)) = ⟨g, j * 4, none⟩ := by
    unfold Addr.add
    split
    · rename_i h0; rw [h0]
    · simp
  rw [e0]
  have g0 := h.cells (g := g) rfl (j * 4) _ hq.1
  have g1 := h.cells (g := g) rfl (j * 4 + 1) _ hq.2.1
  have g2 := h.cells (g := g) rfl (j * 4 + 2) _ hq.2.2.1
  have g3 := h.cells (g := g) rfl (j * 4 + 3) _ hq.2.2.2
  rw [e0] at g0
  have ea : ∀ k, (Addr.add ⟨g, 0, none⟩ (j * 4 + (k + 1))) = ⟨g, j * 4 + (k + 1), none⟩ := by
    intro k
    unfold Addr.add
    rw [if_neg (by omega)]
    simp
  rw [ea 0] at g1
  rw [ea 1] at g2
  rw [ea 2] at g3
  exact ⟨g0, g1, g2, g3⟩
theorem OwnE.form (h : OwnE t w0 w v xs) : ∃ A c, v = .slice A xs.length c ∧ RdE w w.heap.size A xs.length c xs := by
  rcases h.row.2 with ⟨rfl, h0⟩ | ⟨g, cap, cur, rfl, _⟩
  · have : xs = [] := List.eq_nil_of_length_eq_zero h0
    subst this
    exact ⟨_, _, rfl, RdE.nil_⟩
  · exact ⟨_, _, rfl, RdE.ownRow h.row h.fit⟩
theorem OwnE.rd {A : Option Addr} {n c : Nat} (h : OwnE t w0 w (.slice A n c) xs) : RdE w w.heap.size A n c xs := by
  obtain ⟨A', c', e, hr⟩ := h.form
  injection e with e1 e2 e3
  subst e1 e2 e3
  exact hr
theorem OwnE.keep (h : OwnE t w0 w v xs) (hb : Below w.heap.size w w2) : OwnE t w0 w2 v xs := by
  refine ⟨⟨h.row.1, ?_⟩, h.bel.trans (hb.mono h.bel.size), h.fit⟩
  rcases h.row.2 with h1 | ⟨g, cap, cur, hv, hg, hh, r⟩
  · exact .inl h1
  · refine .inr ⟨g, cap, cur, hv, hg, ?_, r⟩
    rw [hb.block g (by
      rcases Nat.lt_or_ge g w.heap.size with hlt | hge
      · exact hlt
      · rw [Array.getElem?_eq_none hge] at hh; cases hh)]
    exact hh
theorem OwnE.weak {w1 : World} (h : OwnE t w1 w v xs) (hb : Below w0.heap.size w0 w1) : OwnE t w0 w v xs := by
  refine ⟨⟨h.row.1, ?_⟩, hb.trans (h.bel.mono hb.size), h.fit⟩
  rcases h.row.2 with h1 | ⟨g, cap, cur, hv, hg, r⟩
  · exact .inl h1
  · exact .inr ⟨g, cap, cur, hv, Nat.le_trans hb.size hg, r⟩
end

/-- one entry in a new block -/
theorem RdE.one (t : TypeId) (w : World) (e : Ent) (hx : FitE e) : RdE (w.alloc (.cells #[.int .i64 e.mn, .int .i64 e.mx, .int .i64 e.ct, .int .i64 e.ln] t)) (w.heap.size + 1) (some ⟨w.heap.size, 0, none⟩) 1 1 [e] :=
  ⟨rfl, Nat.le_refl _, fun h => (by cases h), fun _ => ⟨_, rfl, by simp, fun j hj => by
    have : j = 0 := by omega
    subst this
    exact ⟨by simp [Addr.add], by simp [Addr.add], by simp [Addr.add], by simp [Addr.add]⟩⟩, by simpa using hx⟩

set_option maxRecDepth 20000 in
/-- append onto a slice of entries of the call's own: the run -/
theorem run_appE {P : Program} {tS t : TypeId} (hu : P.underlying tS = some (.slice t)) (hinfo : (P.info? t).map (fun i => (i.zero, i.size, i.bytes)) = some (some (.agg #[.int .i64 0, .int .i64 0, .int .i64 0, .int .i64 0]), 4, 32))
    (ty : TypeId) {w0 w : World} {B : Nat} {v : Value} {bs cs : List Ent} {A : Option Addr} {m c : Nat} (hown : OwnE t w0 w v bs) (hr : RdE w B A m c cs) (hm : bs.length + m ≤ 1073741824) :
    ∃ v' w', (Builtin.append_ #[tS, tS] ty #[v, .slice A m c]).run P w = .ok v' w' ∧ OwnE t w0 w' v' (bs ++ cs) ∧ w.grownBy w' v.ownBlock := by
  obtain ⟨i0, hi, hz0, hz1, hz2⟩ := info_parts hinfo
  have hg : ∀ k, v.ownBlock = some k → w0.heap.size ≤ k := fun k hk => (hown.row.lt k hk).1
  have hfit : ∀ x ∈ bs ++ cs, FitE x := fun x hx => (List.mem_append.1 hx).elim (hown.fit x) (hr.fit x)
  cases A with
  | none =>
    have hm0 : m = 0 := by
      rcases Nat.eq_zero_or_pos m with h0 | h0
      · exact h0
      · obtain ⟨ad, e, _⟩ := hr.cell h0
        cases e
    subst hm0
    have hcs : cs = [] := List.eq_nil_of_length_eq_zero hr.len
    subst hcs
    have hc0 : c = 0 := hr.no rfl
    subst hc0
    exact ⟨v, w, run_append_owned_none w w0.heap.size _ ty t i0 4 hu hi v bs.length (evals bs) hown.row, by simpa using hown, World.grownBy.refl w _⟩
  | some ad =>
    obtain ⟨v', w', hrun, hown', hgrow, _⟩ := run_append_own (P := P) w w0.heap.size tS ty t i0 (.agg #[.int .i64 0, .int .i64 0, .int .i64 0, .int .i64 0]) 4 32 hu hi hz0 hz1 hz2 (by kernel_rfl) (by decide) v bs.length (evals bs) hown.row ad m c (evals cs)
      (by rw [evals_length, hr.len]) (by
        intro j u hu
        have hj : j < m * 4 := by
          have := (List.getElem?_eq_some_iff.1 hu).1
          rw [evals_length, hr.len] at this
          exact this
        obtain ⟨ad', e, _, hc⟩ := hr.cell (by omega)
        injection e with e
        subst e
        have hk : j / 4 < cs.length := by rw [hr.len]; omega
        have hq := evals_at cs (j / 4) hk
        have hcc := hc (j / 4) (by rw [← hr.len]; exact hk)
        have hadd : ∀ i k, ad.add (i + (k + 1)) = ⟨(ad.add i).block, (ad.add i).off + (k + 1), none⟩ := by
          intro i k
          unfold Addr.add
          rw [if_neg (by omega)]
          split
          · rename_i h0; subst h0; simp
          · simp [Nat.add_assoc]
        rcases (by omega : j = j / 4 * 4 ∨ j = j / 4 * 4 + 1 ∨ j = j / 4 * 4 + 2 ∨ j = j / 4 * 4 + 3) with e | e | e | e
        · rw [e] at hu ⊢
          rw [hcc.c0, ← hu, hq.1]
        · rw [e] at hu ⊢
          rw [hadd _ 0, hcc.c1, ← hu, hq.2.1]
        · rw [e] at hu ⊢
          rw [hadd _ 1, hcc.c2, ← hu, hq.2.2.1]
        · rw [e] at hu ⊢
          rw [hadd _ 2, hcc.c3, ← hu, hq.2.2.2]) (evals_one cs) (by unfold maxLen; omega) (by omega) hown.bel.size
    refine ⟨v', w', hrun, ⟨?_, hown.bel.grown hgrow hown.bel.size hg, hfit⟩, hgrow⟩
    rw [evals_app, List.length_append, hr.len]
    exact hown'
theorem Tryz.infoE : (Tryz.prog.info? 103).map (fun i => (i.zero, i.size, i.bytes)) = some (some (.agg #[.int .i64 0, .int .i64 0, .int .i64 0, .int .i64 0]), 4, 32) := by kernel_rfl
theorem Tryz.infoF : (Tryz.prog.info? 70).map (fun i => (i.zero, i.size, i.bytes)) = some (some (.agg #[.int .i64 0, .int .i64 0, .int .i64 0, .int .i64 0]), 4, 32) := by kernel_rfl
theorem wp_appE {tS t : TypeId} (hu : Tryz.prog.underlying tS = some (.slice t)) (hinfo : (Tryz.prog.info? t).map (fun i => (i.zero, i.size, i.bytes)) = some (some (.agg #[.int .i64 0, .int .i64 0, .int .i64 0, .int .i64 0]), 4, 32))
    {o : Oper} {a : Act} {K : Act → World → Prop} {Q : Exit → Act → World → Prop} (s x : Operand)
    (ho : o.op = .call { callee := .builtin .append, args := #[s, x], argTypes := #[tS, tS] })
    {w0 w : World} {B : Nat} {v : Value} {bs cs : List Ent} {A : Option Addr} {m c : Nat} (hs : a.eval s = v) (hx : a.eval x = .slice A m c) (hown : OwnE t w0 w v bs) (hr : RdE w B A m c cs)
    (hm : bs.length + m ≤ 1073741824) (h : ∀ v' w', OwnE t w0 w' v' (bs ++ cs) → w.grownBy w' v.ownBlock → K (a.put o.dst v') w') : o.wp Tryz.prog a w K Q := by
  obtain ⟨v', w', hrun, h1, h2⟩ := run_appE hu hinfo o.type hown hr hm
  unfold Oper.wp execOp
  simp only [ho, resolve, invoke, builtin, Sem.run_bind, Sem.run_pure, Result.andThen_ok, List.map_toArray, List.map_cons, List.map_nil, hs, hx, hrun]
  exact h v' w' h1 h2
/-- in a plain region -/
theorem wpList_appE {tS t : TypeId} (hu : Tryz.prog.underlying tS = some (.slice t)) (hinfo : (Tryz.prog.info? t).map (fun i => (i.zero, i.size, i.bytes)) = some (some (.agg #[.int .i64 0, .int .i64 0, .int .i64 0, .int .i64 0]), 4, 32))
    {ops : Array Oper} {rest : List Oper} {o : Oper} {a : Act} {Q : Exit → Act → World → Prop} (hgd : o.guard = none) (s x : Operand)
    (ho : o.op = .call { callee := .builtin .append, args := #[s, x], argTypes := #[tS, tS] })
    {w0 w : World} {B : Nat} {v : Value} {bs cs : List Ent} {A : Option Addr} {m c : Nat} (hs : a.eval s = v) (hx : a.eval x = .slice A m c) (hown : OwnE t w0 w v bs) (hr : RdE w B A m c cs)
    (hm : bs.length + m ≤ 1073741824)
    (h : ∀ v' w', OwnE t w0 w' v' (bs ++ cs) → w.grownBy w' v.ownBlock → wpList Tryz.prog ops Q rest (a.put o.dst v') w') : wpList Tryz.prog ops Q (o :: rest) a w :=
  wpList_plain hgd fun _ hK => wp_appE hu hinfo s x ho hs hx hown hr hm fun v' w' h1 h2 => hK _ _ (h v' w' h1 h2)

section
variable {H : Type} {enc : TypeId × Value → H} {W W' : World}
theorem open_int_v {t : TypeId} (ht : Tryz.prog.underlying t = some (.int .i64)) {v : Value} {n base : Nat} {spare : Nat → Bool} {held : Bool} {y : DataW H × List MemPlace} (h : DataW.trod enc Tryz.prog W base spare held n t [v] = some y) : ∃ x : Int, v = .int .i64 x ∧ -9223372036854775808 ≤ x ∧ x ≤ 9223372036854775807 := by
  obtain ⟨x, hcs, _, hw⟩ := DataW.trod_int ht h
  simp at hcs
  exact ⟨x, hcs, wf_i64 hw⟩
set_option maxRecDepth 20000 in
/-- a slice of entries among an argument's cells -/
theorem open_ents {fuel : Nat} {cs : List Value} {x : DataW H × List MemPlace} (h : DataW.trod enc Tryz.prog W 0 (fun _ => true) true fuel 84 cs = some x) :
    ∃ A n c xs, cs = [.slice A n c] ∧ RdE W W.heap.size A n c xs ∧ n ≤ 9223372036854775807 := by
  have hE : ∃ f0 f1 f2 f3 : Field, Tryz.prog.underlying 103 = some (.struct #[f0, f1, f2, f3]) ∧ (f0.offset = 0 ∧ f1.offset = 1 ∧ f2.offset = 2 ∧ f3.offset = 3) ∧ (f0.type = 2 ∧ f1.type = 2 ∧ f2.type = 3 ∧ f3.type = 3) :=
    ⟨_, _, _, _, Tryz.underlying103, ⟨rfl, rfl, rfl, rfl⟩, rfl, rfl, rfl, rfl⟩
  obtain ⟨f0, f1, f2, f3, hs, ⟨o0, o1, o2, o3⟩, t0, t1, t2, t3⟩ := hE
  have ci : Tryz.prog.cellsOf 3 = 1 := by kernel_rfl
  have cl : Tryz.prog.cellsOf 2 = 1 := by kernel_rfl
  have ce : Tryz.prog.cellsOf 103 = 4 := by kernel_rfl
  rcases Deep.open_slice Tryz.underlying84 h with ⟨rfl, _⟩ | ⟨a, len, cap, m, n', D, Pl, rfl, _, hl, hm, hmm, _, hx⟩
  · exact ⟨none, 0, 0, [], rfl, RdE.nil_, by omega⟩
  · simp only [if_true] at hmm
    have key : ∀ j, ∃ q : Ent, j < len → CellsE W (a.add (j * 4)) q ∧ FitE q := by
      intro j
      by_cases hj : j < len
      · obtain ⟨cs', h1, h2⟩ := hx j (by omega)
        rw [ce] at h1
        obtain ⟨_, hlen, hcell⟩ := World.cells?_some h1
        obtain ⟨xs, k, hk, hxy, _, hxl, hf⟩ := DataW.trod_struct hs h2
        match xs, hxl, cs', hlen with
        | [y0, y1, y2, y3], _, [v0, v1, v2, v3], _ =>
          have g0 := hf 0 f0 rfl
          have g1 := hf 1 f1 rfl
          have g2 := hf 2 f2 rfl
          have g3 := hf 3 f3 rfl
          rw [t0] at g0
          rw [t1] at g1
          rw [t2] at g2
          rw [t3] at g3
          simp [o0, o1, o2, o3, ci, cl] at g0 g1 g2 g3
          obtain ⟨x0, e0, b0⟩ := open_int_v Tryz.underlying2 g0
          obtain ⟨x1, e1, b1⟩ := open_int_v Tryz.underlying2 g1
          obtain ⟨x2, e2, b2⟩ := open_int_v Tryz.underlying3 g2
          obtain ⟨x3, e3, b3⟩ := open_int_v Tryz.underlying3 g3
          have k0 := hcell 0 (by omega)
          have k1 := hcell 1 (by omega)
          have k2 := hcell 2 (by omega)
          have k3 := hcell 3 (by omega)
          have hadd : ∀ i k, a.add (i + (k + 1)) = ⟨(a.add i).block, (a.add i).off + (k + 1), none⟩ := by
            intro i k
            unfold Addr.add
            rw [if_neg (by omega)]
            split
            · rename_i h0; subst h0; simp
            · simp [Nat.add_assoc]
          rw [Deep.add_add] at k0 k1 k2 k3
          rw [Nat.add_zero] at k0
          rw [hadd _ 0] at k1
          rw [hadd _ 1] at k2
          rw [hadd _ 2] at k3
          simp at k0 k1 k2 k3
          refine ⟨⟨x0, x1, x2, x3⟩, fun _ => ⟨⟨by rw [k0, e0], by rw [k1, e1], by rw [k2, e2], by rw [k3, e3]⟩, b0, b1, b2, b3⟩⟩
      · exact ⟨ent0, fun h => absurd h hj⟩
    obtain ⟨f, hf'⟩ := Classical.axiomOfChoice key
    have hget : ∀ j, j < len → ((List.range len).map f).getD j ent0 = f j := by
      intro j hj
      simp [List.getD_eq_getElem?_getD, hj]
    refine ⟨some a, len, cap, (List.range len).map f, rfl, ⟨by simp, by omega, (fun h => by cases h), fun hn => ⟨a, rfl, ?_, fun j hj => ?_⟩, ?_⟩, by unfold maxLen at hm; omega⟩
    · have := World.block_lt_of_cell? W _ (hf' 0 hn).1.c0
      rwa [add_block] at this
    · rw [hget j hj]
      exact (hf' j hj).1
    · intro x hx
      obtain ⟨j, hj, rfl⟩ := List.mem_map.1 hx
      exact (hf' j (List.mem_range.1 hj)).2
end

end Go.Proofs.YtaebljoacffghaaGreatDoor

/-
  Words for memory: what is kept where a row of another type grows, or where a box of another type is stored to; samples from a place on.
-/
namespace Go.Proofs.YtaebljoacffghaaGreatDoor
open Go.RowKit

/-- every block that is no row of type t is kept -/
def KeepT (t : TypeId) (w w' : World) : Prop := w.heap.size ≤ w'.heap.size ∧ ∀ g, g < w.heap.size → (∀ cs q, w.heap[g]? ≠ some (.cells cs t q)) → w'.heap[g]? = w.heap[g]?
section
variable {t t' : TypeId} {w0 w w' : World} {v : Value}
theorem KeepO.keepT (h : KeepO w w') : KeepT 5 w w' := h
theorem KeepT.of_grown {es : List Ent} (hown : OwnE t w0 w v es) (h : w.grownBy w' v.ownBlock) : KeepT t w w' := by
  refine ⟨h.size, fun g hg hn => h.block g hg (fun e => ?_)⟩
  rcases hown.row.2 with ⟨rfl, _⟩ | ⟨g', cap, cur, rfl, _, hh, _⟩
  · cases e
  · have e' : some g' = some g := e.symm
    injection e' with e'
    subst e'
    exact hn _ _ hh
theorem KeepT.drew_ (t : TypeId) (w : World) : KeepT t w w.drew := ⟨Nat.le_refl _, fun _ _ _ => rfl⟩
theorem KeepT.alloc_ (t : TypeId) (w : World) (o : Obj) : KeepT t w (w.alloc o) := ⟨by simp, fun g hg _ => ((Below.refl w.heap.size w).alloc (Nat.le_refl _) o).block g hg⟩
theorem KeepT.trans {w1 : World} (h : KeepT t w w1) (h' : KeepT t w1 w') : KeepT t w w' :=
  ⟨Nat.le_trans h.1 h'.1, fun g hg hn => by
    have e := h.2 g hg hn
    rw [← e]
    exact h'.2 g (Nat.lt_of_lt_of_le hg h.1) (fun cs q => by rw [e]; exact hn cs q)⟩
theorem KeepT.other (h : KeepT t w w') {g : Nat} {cs : Array Value} {q : Nat × Nat} (hw : w.heap[g]? = some (.cells cs t' q)) (ht : t' ≠ t) : w'.heap[g]? = some (.cells cs t' q) := by
  have hlt : g < w.heap.size := by
    rcases Nat.lt_or_ge g w.heap.size with h1 | h1
    · exact h1
    · rw [Array.getElem?_eq_none h1] at hw; cases hw
  rw [h.2 g hlt (fun cs' q e => by rw [hw] at e; injection e with e; injection e with e1 e2; exact ht e2), hw]
theorem Own.keepT {bs : List Nat} (h : Own w0 w v bs) (hk : KeepT t w w') (ht : 5 ≠ t) (hb : Below w0.heap.size w0 w') : Own w0 w' v bs := by
  refine ⟨⟨h.row.1, ?_⟩, hb⟩
  rcases h.row.2 with h1 | ⟨g, cap, cur, hv, hg, hh, r⟩
  · exact .inl h1
  · exact .inr ⟨g, cap, cur, hv, hg, hk.other hh ht, r⟩
theorem OwnE.keepT {es : List Ent} (h : OwnE t' w0 w v es) (hk : KeepT t w w') (ht : t' ≠ t) (hb : Below w0.heap.size w0 w') : OwnE t' w0 w' v es := by
  refine ⟨⟨h.row.1, ?_⟩, hb, h.fit⟩
  rcases h.row.2 with h1 | ⟨g, cap, cur, hv, hg, hh, r⟩
  · exact .inl h1
  · exact .inr ⟨g, cap, cur, hv, hg, hk.other hh ht, r⟩
end

/-- a box of cells of type t -/
structure BoxT (t : TypeId) (w : World) (g : Nat) (l : List Value) : Prop where
  box : BoxL w g l
  ty : ∃ cs q, w.heap[g]? = some (.cells cs t q)
section
variable {t t' : TypeId} {w w' : World} {g : Nat} {l : List Value}
theorem BoxT.new (w : World) (l : List Value) (t : TypeId) : BoxT t (w.alloc (.cells l.toArray t)) w.heap.size l := ⟨BoxL.new w l t, _, _, heap_alloc_new w _⟩
theorem BoxT.same_ (h : BoxT t w g l) (he : w'.heap[g]? = w.heap[g]?) : BoxT t w' g l := by
  obtain ⟨cs, q, hh⟩ := h.ty
  have hlt : g < w'.heap.size := by
    rcases Nat.lt_or_ge g w'.heap.size with h1 | h1
    · exact h1
    · rw [hh, Array.getElem?_eq_none h1] at he; cases he
  exact ⟨⟨hlt, fun i v hi => (World.cell?_of_block (a := ⟨g, i, none⟩) he).trans (h.box.cell i v hi), fun i v hi => (World.frozen?_of_block (a := ⟨g, i, none⟩) he).trans (h.box.free i v hi)⟩, cs, q, by rw [he, hh]⟩
theorem BoxT.below (h : BoxT t w g l) (hb : Below w.heap.size w w') : BoxT t w' g l := h.same_ (hb.block g h.box.lt)
theorem BoxT.drew_ (h : BoxT t w g l) : BoxT t w.drew g l := h.same_ rfl
theorem BoxT.keepT (h : BoxT t w g l) (hk : KeepT t' w w') (ht : t ≠ t') : BoxT t w' g l := by
  obtain ⟨cs, q, hh⟩ := h.ty
  exact h.same_ (by rw [hk.other hh ht, hh])
theorem BoxT.put (h : BoxT t w g l) (k : Nat) (u : Value) : BoxT t (w.setCell ⟨g, k, none⟩ u) g (l.set k u) := by
  obtain ⟨cs, q, hh⟩ := h.ty
  refine ⟨h.box.put k u, cs.setIfInBounds k u, q, ?_⟩
  simp [World.setCell, Array.getElem?_modify, hh]
theorem KeepT.set (h : BoxT t w g l) (k : Nat) (u : Value) : KeepT t w (w.setCell ⟨g, k, none⟩ u) := by
  refine ⟨by simp, fun g' hg hn => Below.heap_setCell _ _ _ g' (fun e => ?_)⟩
  obtain ⟨cs, q, hh⟩ := h.ty
  exact hn cs q (by rw [e]; exact hh)
end

/-- how many a slice has -/
def sliceLen : Value → Nat
  | .slice _ n _ => n
  | _ => 0
/-- samples cut from a place on -/
theorem RdQ.cutTail {w : World} {B m c a : Nat} {A : Option Addr} {xs : List (Int × Nat)} (h : RdQ w B A m c xs) (ha : a ≤ m) : RdQ w B (A.map fun x => x.add (a * 2)) (m - a) (c - a) (xs.drop a) := by
  have hc := h.cap
  refine ⟨by rw [List.length_drop, h.len], by omega, ?_, fun hn => ?_, fun x hx => h.fit x (List.mem_of_mem_drop hx)⟩
  · intro e
    cases A with
    | none => have := h.no rfl; omega
    | some ad => cases e
  · obtain ⟨ad, rfl, hb, hcell⟩ := h.cell (by omega)
    refine ⟨ad.add (a * 2), rfl, by rw [add_block]; exact hb, fun j hj => ?_⟩
    have h1 := hcell (a + j) (by omega)
    have e : (xs.drop a).getD j (0, 0) = xs.getD (a + j) (0, 0) := by simp only [List.getD_eq_getElem?_getD, List.getElem?_drop]
    rw [add_add', add_add', e, show a * 2 + j * 2 = (a + j) * 2 by omega, show a * 2 + (j * 2 + 1) = (a + j) * 2 + 1 by omega]
    exact h1
theorem RdQ.empty {w : World} {B c : Nat} {A : Option Addr} {xs : List (Int × Nat)} (h : xs.length = 0) (hA : A = none → c = 0) : RdQ w B A 0 c xs :=
  ⟨h, Nat.zero_le _, hA, fun hn => absurd hn (by omega), fun x hx => by rw [List.eq_nil_of_length_eq_zero h] at hx; simp at hx⟩

/-- bytes that lie in another block than the row that grows -/
theorem Rd.aside {w w' : World} {B n c : Nat} {A : Option Addr} {bs : List Nat} {row : Option Nat} (h : Rd w B A n c bs) (hg : w.grownBy w' row) (hne : ∀ ad, A = some ad → row ≠ some ad.block) : Rd w' B A n c bs :=
  ⟨h.len, h.cap, h.no, fun hn => by
    obtain ⟨a, e, hb, hc⟩ := h.cell hn
    exact ⟨_, e, hb, fun j hj => hg.cell (hc j hj) (by rw [add_block]; exact fun e2 => hne a e e2.symm)⟩⟩
theorem Own.beyond {w0 w : World} {A : Option Addr} {n c : Nat} {bs : List Nat} (h : Own w0 w (.slice A n c) bs) : ∀ ad, A = some ad → w0.heap.size ≤ ad.block := by
  intro ad e
  subst e
  exact (h.row.lt ad.block rfl).1
theorem Own.before {w0 w : World} {v : Value} {bs : List Nat} (h : Own w0 w v bs) : ∀ g, v.ownBlock = some g → g < w.heap.size := fun g hg => (h.row.lt g hg).2
/-- append in a plain region: what is kept, and where the row lies -/
theorem wpList_appG {ops : Array Oper} {rest : List Oper} {o : Oper} {a : Act} {Q : Exit → Act → World → Prop} (hgd : o.guard = none) (s x : Operand)
    (ho : o.op = .call { callee := .builtin .append, args := #[s, x], argTypes := #[22, 22] })
    {w0 w : World} {B : Nat} {v : Value} {bs cs : List Nat} {A : Option Addr} {m c : Nat} (hs : a.eval s = v) (hx : a.eval x = .slice A m c) (hown : Own w0 w v bs) (hr : Rd w B A m c cs)
    (hm : bs.length + m ≤ 1073741824)
    (h : ∀ v' w', Own w0 w' v' (bs ++ cs) → w.grownBy w' v.ownBlock → KeepO w w' → wpList Tryz.prog ops Q rest (a.put o.dst v') w') : wpList Tryz.prog ops Q (o :: rest) a w :=
  wpList_plain hgd fun _ hK => wp_app s x ho hs hx hown hr hm fun v' w' h2 hg => hK _ _ (h v' w' h2 hg (KeepO.of_grown hown hg))

end Go.Proofs.YtaebljoacffghaaGreatDoor

/-
  Append of entries at a step of a region that draws its order.
-/
namespace Go.Proofs.YtaebljoacffghaaGreatDoor
open Go.RowKit

/-- at a step of a region that draws its order -/
theorem step_appE {tS t : TypeId} (hu : Tryz.prog.underlying tS = some (.slice t)) (hinfo : (Tryz.prog.info? t).map (fun i => (i.zero, i.size, i.bytes)) = some (some (.agg #[.int .i64 0, .int .i64 0, .int .i64 0, .int .i64 0]), 4, 32))
    {ops : Array Oper} {o : Oper} {a : Act} {K : Act → World → Prop} {Q : Exit → Act → World → Prop} {E : Prop} (hgd : o.guard = none) (s x : Operand)
    (ho : o.op = .call { callee := .builtin .append, args := #[s, x], argTypes := #[tS, tS] })
    {w0 w : World} {B : Nat} {v : Value} {bs cs : List Ent} {A : Option Addr} {m c : Nat} (hs : a.eval s = v) (hx : a.eval x = .slice A m c) (hown : OwnE t w0 w v bs) (hr : RdE w B A m c cs)
    (hm : bs.length + m ≤ 1073741824) (h : ∀ v' w', OwnE t w0 w' v' (bs ++ cs) → w.grownBy w' v.ownBlock → K (a.put o.dst v') w') :
    if Region.wanted o (yielded ops a.tmps) = true then Oper.wp Tryz.prog o a w K Q else E := by
  have hw : Region.wanted o (yielded ops a.tmps) = true := by simp [Region.wanted, hgd]
  rw [if_pos hw]
  exact wp_appE hu hinfo s x ho hs hx hown hr hm h

end Go.Proofs.YtaebljoacffghaaGreatDoor
