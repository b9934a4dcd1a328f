/-
  An iterator as a value: whichever layer made it, it answers as a cursor does; its own box alone turns.
-/
import Derived.Test.YtaebljoacffghaaGreatDoorSeqRow
import Derived.Test.YtaebljoacffghaaGreatDoorJmpA
import Derived.Test.YtaebljoacffghaaGreatDoorScanA
import Derived.Test.YtaebljoacffghaaGreatDoorBatC
import Derived.KernelRfl
import Derived.Shelf.AbstractIn
namespace Go.Proofs.YtaebljoacffghaaGreatDoor
open Go.RowKit

section
variable {w w' : World} {row : Option Nat}
/-- a block that holds a cell is none that holds no cells -/
theorem not_cells {a : Addr} {v : Value} (h : w.cell? a = some v) (hr : ∀ r, row = some r → ∃ o : Obj, w.heap[r]? = some o ∧ o.isCells = false) : row ≠ some a.block := by
  intro e
  obtain ⟨o, ho, hc⟩ := hr _ e
  obtain ⟨o', ho', hc'⟩ := cells_of_cell h
  rw [ho] at ho'
  cases ho'
  rw [hc] at hc'
  cases hc'
theorem RdQ.noKey {B n c : Nat} {A : Option Addr} {xs : List (Int × Nat)} (h : RdQ w B A n c xs) (hr : ∀ r, row = some r → ∃ o : Obj, w.heap[r]? = some o ∧ o.isCells = false) : 0 < n → ∀ ad, A = some ad → row ≠ some ad.block := fun hn ad e => by
  obtain ⟨ad', e', _, hc⟩ := h.cell hn
  rw [e] at e'
  injection e' with e'
  subst e'
  have := not_cells (hc 0 hn).1 hr
  rwa [add_block] at this
theorem Rd.noKey {B n c : Nat} {A : Option Addr} {xs : List Nat} (h : Rd w B A n c xs) (hr : ∀ r, row = some r → ∃ o : Obj, w.heap[r]? = some o ∧ o.isCells = false) : 0 < n → ∀ ad, A = some ad → row ≠ some ad.block := fun hn ad e => by
  obtain ⟨ad', e', _, hc⟩ := h.cell hn
  rw [e] at e'
  injection e' with e'
  subst e'
  have := not_cells (hc 0 hn) hr
  rwa [add_block] at this
theorem RdE.noKey {B n c : Nat} {A : Option Addr} {es : List Ent} (h : RdE w B A n c es) (hr : ∀ r, row = some r → ∃ o : Obj, w.heap[r]? = some o ∧ o.isCells = false) : 0 < n → ∀ ad, A = some ad → row ≠ some ad.block := fun hn ad e => by
  obtain ⟨ad', e', _, hc⟩ := h.cell hn
  rw [e] at e'
  injection e' with e'
  subst e'
  have := not_cells (hc 0 hn).c0 hr
  rwa [add_block] at this
theorem below_none (h : w.grownBy w' none) : Below w.heap.size w w' := (Below.refl w.heap.size w).grown h (Nat.le_refl _) (fun k e => by cases e)
theorem BoxL.holds {g : Nat} {v : Value} {l : List Value} (h : BoxL w g (v :: l)) : ∃ o : Obj, w.heap[g]? = some o ∧ o.isCells = true := cells_of_cell (a := ⟨g, 0, none⟩) (h.cell 0 v rfl)
end

/-- an object of type T whose box is block g (beyond block B, as all of P), with a cursor's methods over the samples xs; 'In P w a d': in the world w it stands at a, at its end just if d, and what it reads lies in no block of P -/
structure ItOk (T : TypeId) (fN fS fA B g : Nat) (xs : List (Int × Nat)) (In : (Nat → Prop) → World → Int → Bool → Prop) : Prop where
  mN : ∀ w, Sem.run Tryz.prog (method (Tryz.prog.types.size + 100) T (.pointer (some ⟨g, 0, none⟩)) "Next") w = .ok (fN, .pointer (some ⟨g, 0, none⟩)) w
  mS : ∀ w, Sem.run Tryz.prog (method (Tryz.prog.types.size + 100) T (.pointer (some ⟨g, 0, none⟩)) "SeekTo") w = .ok (fS, .pointer (some ⟨g, 0, none⟩)) w
  mA : ∀ w, Sem.run Tryz.prog (method (Tryz.prog.types.size + 100) T (.pointer (some ⟨g, 0, none⟩)) "At") w = .ok (fA, .pointer (some ⟨g, 0, none⟩)) w
  eN : ∀ args w, Sem.run Tryz.prog (callFunc fN args) w = .ok (.enter fN args) w
  eS : ∀ args w, Sem.run Tryz.prog (callFunc fS args) w = .ok (.enter fS args) w
  eA : ∀ args w, Sem.run Tryz.prog (callFunc fA args) w = .ok (.enter fA args) w
  next : ∀ {P a d w}, In P w a d → (∀ k, P k → k < w.heap.size) → Calls Tryz.prog fN #[.pointer (some ⟨g, 0, none⟩)] w fun e w' => ∃ ok a', e = .returned (.bool ok) ∧ NextR xs.length a d ok a' ∧ In P w' a' (!ok) ∧ w.grownBy w' (some g)
  seek : ∀ {P a d w} (t : Int), In P w a d → (∀ k, P k → k < w.heap.size) → Calls Tryz.prog fS #[.pointer (some ⟨g, 0, none⟩), .int .i64 t] w fun e w' => ∃ ok a', e = .returned (.bool ok) ∧ SeekR xs t a d ok a' ∧ In P w' a' (!ok) ∧ w.grownBy w' (some g)
  look : ∀ {P a d w}, In P w a d → Calls Tryz.prog fA #[.pointer (some ⟨g, 0, none⟩)] w fun e w' => e = .returned (.tuple #[.int .i64 (lookQ xs a d).1, .int .u64 ((lookQ xs a d).2 : Int)]) ∧ Below w.heap.size w w'
  stands : ∀ {P a d w}, In P w a d → StandsAt xs.length a
  at_ : ∀ {P a d w}, In P w a d → P g
  base : B ≤ g
  ge : ∀ {P a d w}, In P w a d → ∀ k, P k → B ≤ k
  holds : ∀ {P a d w}, In P w a d → ∃ o : Obj, w.heap[g]? = some o ∧ o.isCells = true
  below : ∀ {P a d w w'}, In P w a d → Below w.heap.size w w' → In P w' a d
  far : ∀ {P a d w w' k}, In P w a d → w.grownBy w' (some k) → P k → g ≠ k → In P w' a d
  also : ∀ {P Q a d w}, In P w a d → (∀ k, Q k → k < w.heap.size → P k) → Q g → (∀ k, Q k → B ≤ k) → In Q w a d
  own : ∀ {P a d w w' row}, In P w a d → w.grownBy w' row → (∀ r, row = some r → g < r ∧ ∃ o : Obj, w.heap[r]? = some o ∧ o.isCells = false) → In P w' a d
  fit : ∀ x ∈ xs, FitQ x
  few : xs.length ≤ 100000

section
variable {T : TypeId} {fN fS fA B g : Nat} {xs : List (Int × Nat)} {In : (Nat → Prop) → World → Int → Bool → Prop} {P : Nat → Prop} {w w' : World} {a : Int} {d : Bool} {v v' : Value}
theorem ItOk.lt (X : ItOk T fN fS fA B g xs In) (h : In P w a d) : g < w.heap.size := by
  obtain ⟨o, ho, _⟩ := X.holds h
  exact (Array.getElem?_eq_some_iff.1 ho).1
/-- a row that is no iterator's turns, or is made anew: it is among what turns -/
theorem ItOk.appended (X : ItOk T fN fS fA B g xs In) (h : In P w a d) (hg : w.grownBy w' v.ownBlock) (hv : ∀ k, v.ownBlock = some k → P k ∧ g ≠ k) (hat : v'.ownBlock = v.ownBlock ∨ v'.ownBlock = some w.heap.size) :
    In (fun k => P k ∨ v'.ownBlock = some k) w' a d := by
  have hlt := X.lt h
  have hbase := X.base
  have h1 : In (fun k => P k ∨ k = w.heap.size) w a d := X.also h (fun k hk hl => by
    rcases hk with hk | rfl
    · exact hk
    · omega) (.inl (X.at_ h)) (fun k hk => by
    rcases hk with hk | rfl
    · exact X.ge h k hk
    · omega)
  have h2 : In (fun k => P k ∨ k = w.heap.size) w' a d := by
    cases hb : v.ownBlock with
    | none =>
      rw [hb] at hg
      exact X.below h1 (below_none hg)
    | some k =>
      rw [hb] at hg
      obtain ⟨e1, e2⟩ := hv k hb
      exact X.far h1 hg (.inl e1) e2
  have key : ∀ k, v'.ownBlock = some k → P k ∨ k = w.heap.size := fun k e => by
    rcases hat with e2 | e2
    · rw [e2] at e
      exact .inl (hv k e).1
    · rw [e2] at e
      injection e with e
      exact .inr e.symm
  refine X.also h2 (fun k hk _ => ?_) (.inl (X.at_ h)) (fun k hk => ?_)
  · rcases hk with hk | hk
    · exact .inl hk
    · exact key k hk
  · rcases hk with hk | hk
    · exact X.ge h k hk
    · rcases key k hk with e | rfl
      · exact X.ge h k e
      · omega
end

/-- layer 19's iterator -/
def InJ (W : JW) (B g : Nat) (P : Nat → Prop) (w : World) (a : Int) (d : Bool) : Prop :=
  (∃ s, JIn P w g s ∧ JAt W s a d) ∧ TabsW w ∧ StandsAt W.xs.length a ∧ ∀ k, P k → B ≤ k
theorem tabs_none {w w' : World} {g : Nat} {row : Option Nat} (h : TabsW w) (hl : TabsLt g) (hg : w.grownBy w' row) (hr : ∀ r, row = some r → g ≤ r) : TabsW w' := by
  cases row with
  | none => exact h.bel (below_none hg)
  | some r => exact h.grown hg (hl.le (hr r rfl))
set_option maxRecDepth 20000 in
theorem it_jump (W : JW) (B g : Nat) (hBg : B ≤ g) (hf : JFix W) (hl : TabsLt B) (hn : W.xs.length ≤ 100000) (hfit : ∀ x ∈ W.xs, FitQ x) :
    ItOk 50 36 30 20 B g W.xs (InJ W B g) where
  base := hBg
  mN := fun w => by kernel_rfl
  mS := fun w => by kernel_rfl
  mA := fun w => by kernel_rfl
  eN := enters_of Tryz.func36 (by kernel_rfl) rfl
  eS := enters_of Tryz.func30 (by kernel_rfl) rfl
  eA := enters_of Tryz.func20 (by kernel_rfl) rfl
  next := fun {P a d w} h hP => by
    obtain ⟨⟨s, hj, hat⟩, hT, hs, hge⟩ := h
    refine (jnext_any P W g s a d w hj hP hT hat hf).mono ?_
    rintro e w' ⟨ok, a', s', rfl, hr, hat', hj', hg, _⟩
    exact ⟨ok, a', rfl, hr, ⟨⟨s', hj', hat'⟩, hT.grown hg (hl.le hBg), hr.stands hs, hge⟩, hg⟩
  seek := fun {P a d w} t h hP => by
    obtain ⟨⟨s, hj, hat⟩, hT, hs, hge⟩ := h
    refine (jseek_any P W g s a t d w hj hP hT (hl.le hBg) hat hf hs.2).mono ?_
    rintro e w' ⟨ok, a', s', rfl, hr, hat', hj', hg, _⟩
    exact ⟨ok, a', rfl, hr, ⟨⟨s', hj', hat'⟩, hT.grown hg (hl.le hBg), hr.stands hs, hge⟩, hg⟩
  look := fun {P a d w} h => by
    obtain ⟨⟨s, hj, hat⟩, hT, hs, hge⟩ := h
    exact jat_any P W g s a d w hj hat
  stands := fun h => h.2.2.1
  at_ := fun h => by
    obtain ⟨⟨s, ⟨A1, A2, A3, c1, c2, c3, h1⟩, _⟩, _⟩ := h
    exact h1.at_
  ge := fun h => h.2.2.2
  holds := fun h => by
    obtain ⟨⟨s, ⟨A1, A2, A3, c1, c2, c3, h1⟩, _⟩, _⟩ := h
    exact h1.box.holds
  below := fun {P a d w w'} h hb => by
    obtain ⟨⟨s, hj, hat⟩, hT, hs, hge⟩ := h
    exact ⟨⟨s, hj.below hb, hat⟩, hT.bel hb, hs, hge⟩
  far := fun {P a d w w' k} h hg hk hne => by
    obtain ⟨⟨s, hj, hat⟩, hT, hs, hge⟩ := h
    exact ⟨⟨s, hj.far hg hk hne, hat⟩, hT.grown hg (hl.le (hge k hk)), hs, hge⟩
  also := fun {P Q a d w} h hQ hg hq => by
    obtain ⟨⟨s, hj, hat⟩, hT, hs, hge⟩ := h
    exact ⟨⟨s, hj.also hQ hg, hat⟩, hT, hs, hq⟩
  own := fun {P a d w w' row} h hg hr => by
    obtain ⟨⟨s, ⟨A1, A2, A3, c1, c2, c3, h1⟩, hat⟩, hT, hs, hge⟩ := h
    have hr' : ∀ r, row = some r → ∃ o : Obj, w.heap[r]? = some o ∧ o.isCells = false := fun r e => (hr r e).2
    refine ⟨⟨s, ⟨A1, A2, A3, c1, c2, c3, h1.at_, h1.box.grown hg (fun e => by have := (hr _ e).1; omega), (h1.e1.farP hg (h1.e1.noKey hr')).more hg.size, (h1.b2.farP hg (h1.b2.noKey hr')).more hg.size, (h1.q3.farP hg (h1.q3.noKey hr')).more hg.size, h1.o1, h1.o2, h1.o3⟩, hat⟩, tabs_none hT (hl.le hBg) hg (fun r e => by have := (hr r e).1; omega), hs, hge⟩
  fit := hfit
  few := hn

/-- layer 18's iterator -/
def InS (W : JW) (B g : Nat) (P : Nat → Prop) (w : World) (a : Int) (d : Bool) : Prop :=
  ∃ A c, BoxL w g [.slice A W.xs.length c, errV W.er, .int .i64 a, .bool d] ∧ RdQ w w.heap.size A W.xs.length c W.xs ∧ Off P A W.xs.length ∧ StandsAt W.xs.length a ∧ P g ∧ ∀ k, P k → B ≤ k
set_option maxRecDepth 20000 in
theorem it_scan (W : JW) (B g : Nat) (hBg : B ≤ g) (he : IsErr (errV W.er)) (hri : RiseQ W.xs) (hn : W.xs.length ≤ 100000) (hfit : ∀ x ∈ W.xs, FitQ x) :
    ItOk 48 35 29 19 B g W.xs (InS W B g) where
  base := hBg
  mN := fun w => by kernel_rfl
  mS := fun w => by kernel_rfl
  mA := fun w => by kernel_rfl
  eN := enters_of Tryz.func35 (by kernel_rfl) rfl
  eS := enters_of Tryz.func29 (by kernel_rfl) rfl
  eA := enters_of Tryz.func19 (by kernel_rfl) rfl
  next := fun {P a d w} h _ => by
    obtain ⟨A, c, hx, hq, ho, hs, hg, hge⟩ := h
    refine (sc_next g A W.xs.length c _ a d w hx he hs hn).mono ?_
    rintro e w' ⟨ok, a', V, rfl, hr, hV, hw⟩
    have hgr : w.grownBy w' (some g) := by
      rw [hw]
      exact ((((grown_below hV (some g)).trans (only_set _ g 0 _)).trans (only_set _ g 1 _)).trans (only_set _ g 2 _)).trans (only_set _ g 3 _)
    exact ⟨ok, a', rfl, hr, ⟨A, c, by rw [hw]; exact hx.step hV, (hq.farP hgr (ho.key hg)).more hgr.size, ho, hr.stands hs, hg, hge⟩, hgr⟩
  seek := fun {P a d w} t h _ => by
    obtain ⟨A, c, hx, hq, ho, hs, hg, hge⟩ := h
    refine (sc_seek g w.heap.size A W.xs.length c W.xs _ a t d w hx he hs hn hq (Nat.le_refl _) hri).mono ?_
    rintro e w' ⟨ok, a', V, rfl, hr, hV, hw⟩
    have hgr : w.grownBy w' (some g) := by
      rw [hw]
      exact ((((grown_below hV (some g)).trans (only_set _ g 0 _)).trans (only_set _ g 1 _)).trans (only_set _ g 2 _)).trans (only_set _ g 3 _)
    exact ⟨ok, a', rfl, hr, ⟨A, c, by rw [hw]; exact hx.step hV, (hq.farP hgr (ho.key hg)).more hgr.size, ho, hr.stands hs, hg, hge⟩, hgr⟩
  look := fun {P a d w} h => by
    obtain ⟨A, c, hx, hq, ho, hs, hg, hge⟩ := h
    exact sc_at g w.heap.size A W.xs.length c W.xs _ a d w hx he hs hq (Nat.le_refl _)
  stands := fun h => by
    obtain ⟨A, c, hx, hq, ho, hs, hg, hge⟩ := h
    exact hs
  at_ := fun h => by
    obtain ⟨A, c, hx, hq, ho, hs, hg, hge⟩ := h
    exact hg
  ge := fun h => by
    obtain ⟨A, c, hx, hq, ho, hs, hg, hge⟩ := h
    exact hge
  holds := fun h => by
    obtain ⟨A, c, hx, hq, ho, hs, hg, hge⟩ := h
    exact hx.holds
  below := fun {P a d w w'} h hb => by
    obtain ⟨A, c, hx, hq, ho, hs, hg, hge⟩ := h
    exact ⟨A, c, hx.below hb, (hq.below hb).more hb.size, ho, hs, hg, hge⟩
  far := fun {P a d w w' k} h hgr hk hne => by
    obtain ⟨A, c, hx, hq, ho, hs, hg, hge⟩ := h
    exact ⟨A, c, hx.grown hgr (fun e => hne (by injection e with e; exact e.symm)), (hq.farP hgr (ho.key hk)).more hgr.size, ho, hs, hg, hge⟩
  also := fun {P Q a d w} h hQ hg' hq' => by
    obtain ⟨A, c, hx, hq, ho, hs, hg, hge⟩ := h
    exact ⟨A, c, hx, hq, ho.also (fun hn => by obtain ⟨ad, e, hb, _⟩ := hq.cell hn; exact ⟨ad, e, hb⟩) hQ, hs, hg', hq'⟩
  own := fun {P a d w w' row} h hgr hr => by
    obtain ⟨A, c, hx, hq, ho, hs, hg, hge⟩ := h
    exact ⟨A, c, hx.grown hgr (fun e => by have := (hr _ e).1; omega), (hq.farP hgr (hq.noKey (fun r e => (hr r e).2))).more hgr.size, ho, hs, hg, hge⟩
  fit := hfit
  few := hn

end Go.Proofs.YtaebljoacffghaaGreatDoor
