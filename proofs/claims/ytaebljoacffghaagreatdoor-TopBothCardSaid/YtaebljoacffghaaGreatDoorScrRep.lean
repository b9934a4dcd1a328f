/-
  A script's steps and replies: what a step comes to, as a relation of one answer; steps and replies in memory.
-/
import Derived.Test.YtaebljoacffghaaGreatDoorCurA
import Derived.Test.YtaebljoacffghaaGreatDoorSeqIt
import Derived.Laws.OwnMore
namespace Go.Proofs.YtaebljoacffghaaGreatDoor
open Go.RowKit

/-- a reply: true or false, a time, a value's bits, an error's number -/
structure Rep where
  ok : Bool
  t : Int
  v : Nat
  c : Nat
def rep0 : Rep := ⟨false, 0, 0, 0⟩
def repV (r : Rep) : Value := .agg #[.bool r.ok, .int .i64 r.t, .int .u64 (r.v : Int), .int .i64 (r.c : Int)]

/-- what a step (what it asks for, a time) comes to: the reply, and where the iterator stands then -/
def RepR (xs : List (Int × Nat)) (er : Nat) (s : Int × Int) (a : Int) (d : Bool) (r : Rep) (b : Int) (f : Bool) : Prop :=
  (s.1 = 1 ∧ ∃ ok, NextR xs.length a d ok b ∧ f = (!ok) ∧ r = ⟨ok, 0, 0, 0⟩) ∨
  (s.1 = 2 ∧ ∃ ok, SeekR xs s.2 a d ok b ∧ f = (!ok) ∧ r = ⟨ok, 0, 0, 0⟩) ∨
  (s.1 = 3 ∧ b = a ∧ f = d ∧ r = ⟨false, (lookQ xs a d).1, (lookQ xs a d).2, 0⟩) ∨
  (s.1 = 4 ∧ b = a ∧ f = d ∧ r = ⟨false, 0, 0, bif d then er else 0⟩) ∨
  ((s.1 ≠ 1 ∧ s.1 ≠ 2 ∧ s.1 ≠ 3 ∧ s.1 ≠ 4) ∧ b = a ∧ f = d ∧ r = ⟨false, 0, 0, 1⟩)
theorem RepR.one {xs : List (Int × Nat)} {er : Nat} {s : Int × Int} {a b b' : Int} {d f f' : Bool} {r r' : Rep} (h : RepR xs er s a d r b f) (g : RepR xs er s a d r' b' f') : r = r' ∧ b = b' ∧ f = f' := by
  rcases h with ⟨h1, ok, h2, rfl, rfl⟩ | ⟨h1, ok, h2, rfl, rfl⟩ | ⟨h1, rfl, rfl, rfl⟩ | ⟨h1, rfl, rfl, rfl⟩ | ⟨h1, rfl, rfl, rfl⟩ <;>
    rcases g with ⟨g1, ok', g2, rfl, rfl⟩ | ⟨g1, ok', g2, rfl, rfl⟩ | ⟨g1, rfl, rfl, rfl⟩ | ⟨g1, rfl, rfl, rfl⟩ | ⟨g1, rfl, rfl, rfl⟩ <;>
    first
    | (obtain ⟨rfl, rfl⟩ := h2.one g2; exact ⟨rfl, rfl, rfl⟩)
    | exact ⟨rfl, rfl, rfl⟩
    | (exfalso; omega)

/-- what steps come to, one behind the other -/
inductive RunsR (xs : List (Int × Nat)) (er : Nat) (a0 : Int) (d0 : Bool) : List (Int × Int) → List Rep → Int → Bool → Prop where
  | zero : RunsR xs er a0 d0 [] [] a0 d0
  | more {ss : List (Int × Int)} {rs : List Rep} {a b : Int} {d f : Bool} {s : Int × Int} {r : Rep} : RunsR xs er a0 d0 ss rs a d → RepR xs er s a d r b f → RunsR xs er a0 d0 (ss ++ [s]) (rs ++ [r]) b f
theorem RunsR.one {xs : List (Int × Nat)} {er : Nat} {a0 a : Int} {d0 d : Bool} {ss : List (Int × Int)} {rs : List Rep} (h : RunsR xs er a0 d0 ss rs a d) :
    ∀ {rs' : List Rep} {a' : Int} {d' : Bool}, RunsR xs er a0 d0 ss rs' a' d' → rs = rs' ∧ a = a' ∧ d = d' := by
  induction h with
  | zero =>
    intro rs' a' d' g
    generalize hq : ([] : List (Int × Int)) = q at g
    cases g with
    | zero => exact ⟨rfl, rfl, rfl⟩
    | more _ _ => simp at hq
  | more h1 h2 ih =>
    rename_i ss rs a b d f s r
    intro rs' a' d' g
    generalize hq : ss ++ [s] = q at g
    cases g with
    | zero => simp at hq
    | more g1 g2 =>
      obtain ⟨e1, e2⟩ := List.append_inj' hq rfl
      simp only [List.cons.injEq, and_true] at e2
      subst e1 e2
      obtain ⟨rfl, rfl, rfl⟩ := ih g1
      obtain ⟨rfl, rfl, rfl⟩ := h2.one g2
      exact ⟨rfl, rfl, rfl⟩
theorem RunsR.len {xs : List (Int × Nat)} {er : Nat} {a0 a : Int} {d0 d : Bool} {ss : List (Int × Int)} {rs : List Rep} (h : RunsR xs er a0 d0 ss rs a d) : rs.length = ss.length := by
  induction h with
  | zero => rfl
  | more _ _ ih => simp [ih]

/-- steps as values, cell by cell -/
def svals : List (Int × Int) → List Value
  | [] => []
  | x :: r => .int .i64 x.1 :: .int .i64 x.2 :: svals r
theorem svals_length : ∀ xs : List (Int × Int), (svals xs).length = xs.length * 2
  | [] => rfl
  | x :: r => by simp only [svals, List.length_cons, svals_length r]; omega
theorem svals_app : ∀ p q : List (Int × Int), svals (p ++ q) = svals p ++ svals q
  | [], q => rfl
  | x :: r, q => by simp only [List.cons_append, svals, svals_app r q]
theorem svals_one : ∀ xs : List (Int × Int), ∀ u ∈ svals xs, u.oneCell' = true
  | [], u, h => by simp [svals] at h
  | x :: r, u, h => by
    simp only [svals, List.mem_cons] at h
    rcases h with rfl | rfl | h
    · rfl
    · rfl
    · exact svals_one r u h
theorem svals_at : ∀ (xs : List (Int × Int)) (k : Nat), k < xs.length → (svals xs)[k * 2]? = some (.int .i64 (xs.getD k (0, 0)).1) ∧ (svals xs)[k * 2 + 1]? = some (.int .i64 (xs.getD k (0, 0)).2)
  | [], k, h => absurd h (by simp)
  | x :: r, 0, h => by simp [svals]
  | x :: r, k + 1, h => by
    have := svals_at r k (by simpa using h)
    have e1 : (k + 1) * 2 = k * 2 + 1 + 1 := by omega
    rw [e1]
    simpa [svals] using this

/-- the slice value '.slice A n c' reads as the steps ss, and lies below block B -/
structure RdS (w : World) (B : Nat) (A : Option Addr) (n : Nat) (ss : List (Int × Int)) : Prop where
  len : ss.length = n
  cell : 0 < n → ∃ ad, A = some ad ∧ ad.block < B ∧ ∀ j, j < n → w.cell? (ad.add (j * 2)) = some (.int .i64 (ss.getD j (0, 0)).1) ∧ w.cell? (ad.add (j * 2 + 1)) = some (.int .i64 (ss.getD j (0, 0)).2)
section
variable {w w' : World} {B n : Nat} {A : Option Addr} {ss : List (Int × Int)}
theorem RdS.at_ {k : Nat} (h : RdS w B A n ss) (hk : k < n) : ∃ ad, A = some ad ∧ ad.block < B ∧ w.cell? (ad.add (k * 2)) = some (.int .i64 (ss.getD k (0, 0)).1) ∧ w.cell? ⟨(ad.add (k * 2)).block, (ad.add (k * 2)).off + 1, none⟩ = some (.int .i64 (ss.getD k (0, 0)).2) := by
  obtain ⟨ad, e, hb, hc⟩ := h.cell (by omega)
  obtain ⟨h1, h2⟩ := hc k hk
  rw [← add_add'] at h2
  exact ⟨ad, e, hb, h1, h2⟩
theorem RdS.below (h : RdS w B A n ss) (hb : Below B w w') : RdS w' B A n ss :=
  ⟨h.len, fun hn => by
    obtain ⟨ad, e, hlt, hc⟩ := h.cell hn
    exact ⟨ad, e, hlt, fun j hj => ⟨(hb.cell (by rw [add_block]; exact hlt)).trans (hc j hj).1, (hb.cell (by rw [add_block]; exact hlt)).trans (hc j hj).2⟩⟩⟩
theorem RdS.more {B' : Nat} (h : RdS w B A n ss) (hb : B ≤ B') : RdS w B' A n ss :=
  ⟨h.len, fun hn => by
    obtain ⟨ad, e, hlt, hc⟩ := h.cell hn
    exact ⟨ad, e, by omega, hc⟩⟩
end

theorem Tryz.infoS : (Tryz.prog.info? 41).map (fun i => (i.zero, i.size, i.bytes)) = some (some (.agg #[.int .i64 0, .int .i64 0]), 2, 16) := by kernel_rfl

/-- v is a slice of steps that lies beyond block B, or is none; it holds ss -/
def RowS (B : Nat) (w : World) (v : Value) (ss : List (Int × Int)) : Prop := w.ownsRow B 41 2 v ss.length (svals ss)
section
variable {B : Nat} {w w' : World} {v : Value} {ss : List (Int × Int)}
theorem RowS.nil_ (B : Nat) (w : World) : RowS B w (.slice none 0 0) [] := World.ownsRow_nil _ _ _ _
theorem RowS.kept {row : Option Nat} (h : RowS B w v ss) (hg : w.grownBy w' row) (hne : ∀ k, v.ownBlock = some k → row ≠ some k) : RowS B w' v ss :=
  World.ownsRow.kept h hg (by
    cases hv : v.ownBlock with
    | none => exact .inl rfl
    | some k => exact .inr (fun e => hne k hv e.symm))
theorem RowS.below (h : RowS B w v ss) (hb : Below w.heap.size w w') : RowS B w' v ss := h.kept (grown_below hb none) (fun k _ e => by cases e)
theorem RowS.lt (h : RowS B w v ss) {k : Nat} (hk : v.ownBlock = some k) : B ≤ k ∧ k < w.heap.size := World.ownsRow.lt h k hk
theorem RowS.form (h : RowS B w v ss) : ∃ A c, v = .slice A ss.length c := by
  rcases h.2 with ⟨rfl, h0⟩ | ⟨g, cap, cur, rfl, _⟩
  · exact ⟨none, 0, by rw [h0]⟩
  · exact ⟨_, _, rfl⟩
theorem RowS.rd {A : Option Addr} {n c : Nat} (h : RowS B w (.slice A n c) ss) : RdS w w.heap.size A n ss := by
  have h0 : World.ownsRow w B 41 2 (.slice A n c) ss.length (svals ss) := h
  have hn : ss.length = n := by
    rcases h0.2 with ⟨e, h1⟩ | ⟨g, cap, cur, e, _⟩
    · injection e with e1 e2 e3
      omega
    · injection e with e1 e2 e3
      exact e2.symm
  rw [hn] at h0
  refine ⟨hn, fun h1 => ?_⟩
  obtain ⟨g, cap, hv, _, hlt⟩ := h0.form h1
  have hA : A = some ⟨g, 0, none⟩ := by injection hv
  subst hA
  refine ⟨_, rfl, hlt, fun j hj => ?_⟩
  have hq := svals_at ss j (by omega)
  exact ⟨h0.cells (g := g) rfl (j * 2) _ hq.1, h0.cells (g := g) rfl (j * 2 + 1) _ hq.2⟩
end

set_option maxRecDepth 20000 in
/-- append onto such a row, in a plain region -/
theorem wpList_rowS {ops : Array Oper} {rest : List Oper} {o : Oper} {a : Act} {Q : Exit → Act → World → Prop} (hgd : o.guard = none) (s x : Operand)
    (ho : o.op = .call { callee := .builtin .append, args := #[s, x], argTypes := #[23, 23] })
    {w : World} {B B2 : Nat} {v : Value} {bs cs : List (Int × Int)} {ad : Addr} {m c : Nat} (hs : a.eval s = v) (hx : a.eval x = .slice (some ad) m c) (hown : RowS B w v bs) (hB : B ≤ w.heap.size) (hr : RdS w B2 (some ad) m cs)
    (hm : bs.length + m ≤ 1073741824)
    (h : ∀ v' w', RowS B w' v' (bs ++ cs) → w.grownBy w' v.ownBlock → (v'.ownBlock = v.ownBlock ∨ v'.ownBlock = some w.heap.size) → wpList Tryz.prog ops Q rest (a.put o.dst v') w') : wpList Tryz.prog ops Q (o :: rest) a w :=
  wpList_plain hgd fun K hK => by
    obtain ⟨i0, hi, hz0, hz1, hz2⟩ := info_parts Tryz.infoS
    obtain ⟨v', w', hrun, hown', hgrow, _, hat⟩ := run_append_own_at (P := Tryz.prog) w B 23 o.type 41 i0 (.agg #[.int .i64 0, .int .i64 0]) 2 16 Tryz.underlying23 hi hz0 hz1 hz2 (by kernel_rfl) (by decide) v bs.length (svals bs) hown ad m c (svals cs)
      (by rw [svals_length, hr.len]) (by
        intro j u hu
        have hj : j < m * 2 := by
          have := (List.getElem?_eq_some_iff.1 hu).1
          rw [svals_length, hr.len] at this
          exact this
        obtain ⟨ad', e, _, hc⟩ := hr.cell (by omega)
        injection e with e
        subst e
        have hk : j / 2 < cs.length := by rw [hr.len]; omega
        have hq := svals_at cs (j / 2) hk
        have hcc := hc (j / 2) (by rw [← hr.len]; exact hk)
        rcases (by omega : j = j / 2 * 2 ∨ j = j / 2 * 2 + 1) with e | e
        · rw [e] at hu ⊢
          have h0 : j / 2 * 2 / 2 * 2 = j / 2 * 2 := by omega
          rw [hcc.1, ← hu, hq.1]
        · rw [e] at hu ⊢
          rw [hcc.2, ← hu, hq.2]) (svals_one cs) (by unfold maxLen; omega) (by omega) hB
    have hfin : RowS B w' v' (bs ++ cs) := by
      unfold RowS
      rw [svals_app, List.length_append, hr.len]
      exact hown'
    unfold Oper.wp execOp
    simp only [ho, resolve, invoke, builtin, Sem.run_bind, Sem.run_pure, Result.andThen_ok, List.map_toArray, List.map_cons, List.map_nil, hs, hx, hrun]
    exact hK _ _ (h v' w' hfin hgrow hat)

/-- block g holds n replies, of which the first are rs -/
structure RepAt (w : World) (g n : Nat) (rs : List Rep) : Prop where
  lt : g < w.heap.size
  c0 : ∀ i, i < rs.length → w.cell? ⟨g, i * 4, none⟩ = some (.bool (rs.getD i rep0).ok)
  c1 : ∀ i, i < rs.length → w.cell? ⟨g, i * 4 + 1, none⟩ = some (.int .i64 (rs.getD i rep0).t)
  c2 : ∀ i, i < rs.length → w.cell? ⟨g, i * 4 + 2, none⟩ = some (.int .u64 ((rs.getD i rep0).v : Int))
  c3 : ∀ i, i < rs.length → w.cell? ⟨g, i * 4 + 3, none⟩ = some (.int .i64 ((rs.getD i rep0).c : Int))
  room : ∀ i, i < n * 4 → ∃ v, w.cell? ⟨g, i, none⟩ = some v
  free : ∀ i, w.frozen? ⟨g, i, none⟩ = false
theorem addr_neS {g i j : Nat} (h : i ≠ j) : (⟨g, i, none⟩ : Addr) ≠ ⟨g, j, none⟩ := fun e => h (by injection e)
section
variable {w w' : World} {g n : Nat} {rs : List Rep}
theorem RepAt.grown (h : RepAt w g n rs) {row : Option Nat} (hg : w.grownBy w' row) (hne : row ≠ some g) : RepAt w' g n rs :=
  have hne' : some g ≠ row := fun e => hne e.symm
  ⟨Nat.lt_of_lt_of_le h.lt hg.size, fun i hi => hg.cell (a := ⟨g, i * 4, none⟩) (h.c0 i hi) hne', fun i hi => hg.cell (a := ⟨g, i * 4 + 1, none⟩) (h.c1 i hi) hne', fun i hi => hg.cell (a := ⟨g, i * 4 + 2, none⟩) (h.c2 i hi) hne', fun i hi => hg.cell (a := ⟨g, i * 4 + 3, none⟩) (h.c3 i hi) hne',
    fun i hi => by
      obtain ⟨v, hv⟩ := h.room i hi
      exact ⟨v, hg.cell (a := ⟨g, i, none⟩) hv hne'⟩,
    fun i => (World.frozen?_of_block (a := ⟨g, i, none⟩) (hg.block g h.lt hne')).trans (h.free i)⟩
theorem RepAt.below (h : RepAt w g n rs) (hb : Below w.heap.size w w') : RepAt w' g n rs := h.grown (grown_below hb none) (fun e => by cases e)
/-- a reply more -/
theorem RepAt.set (h : RepAt w g n rs) {k : Nat} (hl : rs.length = k) (hk : k < n) (r : Rep) :
    RepAt ((((w.setCell ⟨g, k * 4, none⟩ (.bool r.ok)).setCell ⟨g, k * 4 + 1, none⟩ (.int .i64 r.t)).setCell ⟨g, k * 4 + 2, none⟩ (.int .u64 (r.v : Int))).setCell ⟨g, k * 4 + 3, none⟩ (.int .i64 (r.c : Int))) g n (rs ++ [r]) := by
  subst hl
  have far : ∀ (W : World) (u0 u1 u2 u3 : Value) (j : Nat), j ≠ rs.length * 4 → j ≠ rs.length * 4 + 1 → j ≠ rs.length * 4 + 2 → j ≠ rs.length * 4 + 3 →
      ((((W.setCell ⟨g, rs.length * 4, none⟩ u0).setCell ⟨g, rs.length * 4 + 1, none⟩ u1).setCell ⟨g, rs.length * 4 + 2, none⟩ u2).setCell ⟨g, rs.length * 4 + 3, none⟩ u3).cell? ⟨g, j, none⟩ = W.cell? ⟨g, j, none⟩ := fun W u0 u1 u2 u3 j h0 h1 h2 h3 => by
    rw [World.cell?_setCell_other _ _ _ _ (addr_neS h3.symm), World.cell?_setCell_other _ _ _ _ (addr_neS h2.symm), World.cell?_setCell_other _ _ _ _ (addr_neS h1.symm), World.cell?_setCell_other _ _ _ _ (addr_neS h0.symm)]
  have old : ∀ i, i < rs.length → (rs ++ [r]).getD i rep0 = rs.getD i rep0 := fun i hi => by
    simp only [List.getD_eq_getElem?_getD]
    rw [List.getElem?_append_left hi]
  have new : (rs ++ [r]).getD rs.length rep0 = r := by simp [List.getD_eq_getElem?_getD]
  obtain ⟨v0, e0⟩ := h.room (rs.length * 4) (by omega)
  obtain ⟨v1, e1⟩ := h.room (rs.length * 4 + 1) (by omega)
  obtain ⟨v2, e2⟩ := h.room (rs.length * 4 + 2) (by omega)
  obtain ⟨v3, e3⟩ := h.room (rs.length * 4 + 3) (by omega)
  have ho := @World.cell?_setCell_other
  refine ⟨by simpa [World.setCell] using h.lt, fun i hi => ?_, fun i hi => ?_, fun i hi => ?_, fun i hi => ?_, fun i hi => ?_, fun i => ?_⟩
  · rw [List.length_append, List.length_singleton] at hi
    by_cases e : i < rs.length
    · rw [far _ _ _ _ _ _ (by omega) (by omega) (by omega) (by omega), old i e]
      exact h.c0 i e
    · obtain rfl : i = rs.length := by omega
      rw [new, ho _ _ _ _ (addr_neS (by omega)), ho _ _ _ _ (addr_neS (by omega)), ho _ _ _ _ (addr_neS (by omega))]
      exact World.cell?_setCell_same _ _ _ e0
  · rw [List.length_append, List.length_singleton] at hi
    by_cases e : i < rs.length
    · rw [far _ _ _ _ _ _ (by omega) (by omega) (by omega) (by omega), old i e]
      exact h.c1 i e
    · obtain rfl : i = rs.length := by omega
      rw [new, ho _ _ _ _ (addr_neS (by omega)), ho _ _ _ _ (addr_neS (by omega))]
      exact World.cell?_setCell_same _ _ _ ((ho _ _ _ _ (addr_neS (by omega))).trans e1)
  · rw [List.length_append, List.length_singleton] at hi
    by_cases e : i < rs.length
    · rw [far _ _ _ _ _ _ (by omega) (by omega) (by omega) (by omega), old i e]
      exact h.c2 i e
    · obtain rfl : i = rs.length := by omega
      rw [new, ho _ _ _ _ (addr_neS (by omega))]
      exact World.cell?_setCell_same _ _ _ (((ho _ _ _ _ (addr_neS (by omega))).trans (ho _ _ _ _ (addr_neS (by omega)))).trans e2)
  · rw [List.length_append, List.length_singleton] at hi
    by_cases e : i < rs.length
    · rw [far _ _ _ _ _ _ (by omega) (by omega) (by omega) (by omega), old i e]
      exact h.c3 i e
    · obtain rfl : i = rs.length := by omega
      rw [new]
      exact World.cell?_setCell_same _ _ _ ((((ho _ _ _ _ (addr_neS (by omega))).trans (ho _ _ _ _ (addr_neS (by omega)))).trans (ho _ _ _ _ (addr_neS (by omega)))).trans e3)
  · by_cases a0 : i = rs.length * 4
    · subst a0
      exact ⟨_, (((ho _ _ _ _ (addr_neS (by omega))).trans (ho _ _ _ _ (addr_neS (by omega)))).trans (ho _ _ _ _ (addr_neS (by omega)))).trans (World.cell?_setCell_same _ _ _ e0)⟩
    by_cases a1 : i = rs.length * 4 + 1
    · subst a1
      exact ⟨_, ((ho _ _ _ _ (addr_neS (by omega))).trans (ho _ _ _ _ (addr_neS (by omega)))).trans (World.cell?_setCell_same _ _ _ ((ho _ _ _ _ (addr_neS (by omega))).trans e1))⟩
    by_cases a2 : i = rs.length * 4 + 2
    · subst a2
      exact ⟨_, (ho _ _ _ _ (addr_neS (by omega))).trans (World.cell?_setCell_same _ _ _ (((ho _ _ _ _ (addr_neS (by omega))).trans (ho _ _ _ _ (addr_neS (by omega)))).trans e2))⟩
    by_cases a3 : i = rs.length * 4 + 3
    · subst a3
      exact ⟨_, World.cell?_setCell_same _ _ _ ((((ho _ _ _ _ (addr_neS (by omega))).trans (ho _ _ _ _ (addr_neS (by omega)))).trans (ho _ _ _ _ (addr_neS (by omega)))).trans e3)⟩
    obtain ⟨v, hv⟩ := h.room i hi
    exact ⟨v, (far _ _ _ _ _ _ a0 a1 a2 a3).trans hv⟩
  · rw [World.frozen?_setCell, World.frozen?_setCell, World.frozen?_setCell, World.frozen?_setCell]
    exact h.free i
theorem grown_set4 (w : World) (g k : Nat) (u0 u1 u2 u3 : Value) : w.grownBy ((((w.setCell ⟨g, k, none⟩ u0).setCell ⟨g, k + 1, none⟩ u1).setCell ⟨g, k + 2, none⟩ u2).setCell ⟨g, k + 3, none⟩ u3) (some g) :=
  (((only_set w g k u0).trans (only_set _ g (k + 1) u1)).trans (only_set _ g (k + 2) u2)).trans (only_set _ g (k + 3) u3)
end

theorem Tryz.infoR : (Tryz.prog.info? 39).map (fun i => (i.zero, i.size, i.bytes)) = some (some (.agg #[.bool false, .int .i64 0, .int .u64 0, .int .i64 0]), 4, 32) := by kernel_rfl
/-- as they were made -/
theorem RepAt.made {w w1 : World} {g n : Nat} {z : Array Value} (hown : w1.ownsRow w.heap.size 39 4 (.slice (some ⟨g, 0, none⟩) n n) n (madeCells z (n * 4)).toList) : RepAt w1 g n [] := by
  refine ⟨(hown.lt g rfl).2, fun i hi => absurd hi (by simp), fun i hi => absurd hi (by simp), fun i hi => absurd hi (by simp), fun i hi => absurd hi (by simp), fun i hi => ?_, fun i => hown.frozenAt i⟩
  have hl : i < (madeCells z (n * 4)).toList.length := by
    have := hown.1
    omega
  have := hown.cells (g := g) rfl i _ (List.getElem?_eq_getElem hl)
  rw [show ((⟨g, 0, none⟩ : Addr).add i) = ⟨g, i, none⟩ by simp [Addr.add]; intro h; rw [h]] at this
  exact ⟨_, this⟩

end Go.Proofs.YtaebljoacffghaaGreatDoor
