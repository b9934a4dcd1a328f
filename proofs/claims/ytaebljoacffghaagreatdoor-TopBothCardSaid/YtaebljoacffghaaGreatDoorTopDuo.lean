/-
  Both iterators over what some bytes mean, side by side; deeds of them.
-/
import Derived.Test.YtaebljoacffghaaGreatDoorSeqIt
import Derived.Test.YtaebljoacffghaaGreatDoorScanNew
import Derived.Test.YtaebljoacffghaaGreatDoorCurA
namespace Go.Proofs.YtaebljoacffghaaGreatDoor
open Go.RowKit

/-- both boxes' blocks -/
def Duo (g1 g2 : Nat) : Nat → Prop := fun k => k = g1 ∨ k = g2
/-- layer 18's iterator in block g1, layer 19's in block g2 -/
structure AtDuo (w0 wr : World) (W : JW) (g1 g2 : Nat) (a1 : Int) (d1 : Bool) (a2 : Int) (d2 : Bool) : Prop where
  bel : Below w0.heap.size w0 wr
  sc : InS W w0.heap.size g1 (Duo g1 g2) wr a1 d1
  jp : InJ W w0.heap.size g2 (Duo g1 g2) wr a2 d2
/-- what is fixed for both -/
structure DuoFix (w0 : World) (W : JW) (g1 g2 : Nat) : Prop where
  l1 : w0.heap.size ≤ g1
  l2 : g1 < g2
  er : IsErr (errV W.er)
  jf : JFix W
  ri : RiseQ W.xs
  few : W.xs.length ≤ 100000
  fit : ∀ x ∈ W.xs, FitQ x
  tl : TabsLt w0.heap.size
section
variable {w0 w w' : World} {W : JW} {g1 g2 : Nat} {a1 a2 a' : Int} {d1 d2 d' : Bool}
theorem DuoFix.xs (f : DuoFix w0 W g1 g2) : ItOk 48 35 29 19 w0.heap.size g1 W.xs (InS W w0.heap.size g1) :=
  it_scan W w0.heap.size g1 f.l1 f.er f.ri f.few f.fit
theorem DuoFix.xj (f : DuoFix w0 W g1 g2) : ItOk 50 36 30 20 w0.heap.size g2 W.xs (InJ W w0.heap.size g2) :=
  it_jump W w0.heap.size g2 (Nat.le_of_lt (Nat.lt_of_le_of_lt f.l1 f.l2)) f.jf f.tl f.few f.fit
theorem AtDuo.lt1 (f : DuoFix w0 W g1 g2) (h : AtDuo w0 w W g1 g2 a1 d1 a2 d2) : g1 < w.heap.size := f.xs.lt h.sc
theorem AtDuo.inP (f : DuoFix w0 W g1 g2) (h : AtDuo w0 w W g1 g2 a1 d1 a2 d2) : ∀ k, Duo g1 g2 k → k < w.heap.size := by
  rintro k (rfl | rfl)
  · exact f.xs.lt h.sc
  · exact f.xj.lt h.jp
theorem AtDuo.go (f : DuoFix w0 W g1 g2) (h : AtDuo w0 w W g1 g2 a1 d1 a2 d2) (hb : Below w.heap.size w w') : AtDuo w0 w' W g1 g2 a1 d1 a2 d2 :=
  ⟨h.bel.trans (hb.mono h.bel.size), f.xs.below h.sc hb, f.xj.below h.jp hb⟩
theorem AtDuo.step1 (f : DuoFix w0 W g1 g2) (h : AtDuo w0 w W g1 g2 a1 d1 a2 d2) (hg : w.grownBy w' (some g1)) (hi : InS W w0.heap.size g1 (Duo g1 g2) w' a' d') : AtDuo w0 w' W g1 g2 a' d' a2 d2 :=
  ⟨below_far h.bel hg f.l1, hi, f.xj.far h.jp hg (.inl rfl) (by have := f.l2; omega)⟩
theorem AtDuo.step2 (f : DuoFix w0 W g1 g2) (h : AtDuo w0 w W g1 g2 a1 d1 a2 d2) (hg : w.grownBy w' (some g2)) (hi : InJ W w0.heap.size g2 (Duo g1 g2) w' a' d') : AtDuo w0 w' W g1 g2 a1 d1 a' d' :=
  ⟨below_far h.bel hg (by have := f.l1; have := f.l2; omega), f.xs.far h.sc hg (.inr rfl) (by have := f.l2; omega), hi⟩
/-- their errors -/
theorem duo_err1 (f : DuoFix w0 W g1 g2) (h : AtDuo w0 w W g1 g2 a1 d1 a2 d2) :
    Calls Tryz.prog 21 #[.pointer (some ⟨g1, 0, none⟩)] w fun e w' => e = .returned (bif d1 then errV W.er else .nilIface) ∧ Below w.heap.size w w' := by
  obtain ⟨A, c, hx, _⟩ := h.sc
  exact sc_err g1 A W.xs.length c _ a1 d1 w hx f.er
theorem duo_err2 (h : AtDuo w0 w W g1 g2 a1 d1 a2 d2) :
    Calls Tryz.prog 22 #[.pointer (some ⟨g2, 0, none⟩)] w fun e w' => e = .returned (bif d2 then errV W.er else .nilIface) ∧ Below w.heap.size w w' := by
  obtain ⟨⟨s, hj, hat⟩, _⟩ := h.jp
  exact jerr_any _ W g2 s a2 d2 w hj hat
end

/-- both, new, one behind the other -/
theorem duo_new {w0 w1 w2 w3 : World} {W : JW} {g1 g2 : Nat} {A : Option Addr} {c : Nat} {s : JS} (hT : TabsW w0) (hb1 : Below w0.heap.size w0 w1) (hg1 : w1.heap.size ≤ g1) (hx : BoxL w2 g1 [.slice A W.xs.length c, errV W.er, .int .i64 (-1), .bool false]) (hq : RdQ w2 g1 A W.xs.length c W.xs) (hb2 : Below w1.heap.size w1 w2)
    {B : Nat} (hB : B ≤ g1) (hg2 : w2.heap.size ≤ g2) (hj : JIn (fun k => k = g2 ∨ (B ≤ k ∧ k < w2.heap.size)) w3 g2 s) (hat : JAt W s (-1) false) (hb3 : Below w2.heap.size w2 w3) : AtDuo w0 w3 W g1 g2 (-1) false (-1) false := by
  have h1 := hb1.size
  have h2 := hb2.size
  have h3 := hb3.size
  have hlt := hx.lt
  have hbel := (hb1.trans (hb2.mono h1)).trans (hb3.mono (Nat.le_trans h1 h2))
  have hge : ∀ k, Duo g1 g2 k → w0.heap.size ≤ k := by
    rintro k (rfl | rfl)
    · omega
    · omega
  have hs : StandsAt W.xs.length (-1) := ⟨by omega, by omega⟩
  refine ⟨hbel, ⟨A, c, hx.below hb3, ((hq.more (Nat.le_of_lt hlt)).below hb3).more h3, Off.ahead (B := g1) (fun hn => ?_) ?_, hs, .inl rfl, hge⟩, ⟨⟨s, ?_, hat⟩, hT.bel hbel, hs, hge⟩⟩
  · obtain ⟨ad, e, hb, _⟩ := hq.cell hn
    exact ⟨ad, e, hb⟩
  · rintro k (rfl | rfl)
    · exact Nat.le_refl _
    · omega
  · refine hj.also (fun k hk _ => ?_) (.inr rfl)
    rcases hk with rfl | rfl
    · exact .inr ⟨hB, hlt⟩
    · exact .inl rfl

end Go.Proofs.YtaebljoacffghaaGreatDoor
