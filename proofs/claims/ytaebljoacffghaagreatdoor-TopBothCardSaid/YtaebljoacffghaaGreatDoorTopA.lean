/-
  Texts of this proof, one behind the other: TopUp, TopDeed, TopSlow.
-/
import Derived.Test.YtaebljoacffghaaGreatDoorTopDuo
import Derived.Test.YtaebljoacffghaaGreatDoorTop1
import Derived.Test.YtaebljoacffghaaGreatDoorPackA
import Derived.Test.YtaebljoacffghaaGreatDoorJmpCk
import Derived.Test.YtaebljoacffghaaGreatDoorDeedA

/-
  The example at the head of the theorems through the layers: three samples in two chunks are gone through, both ways.
-/
namespace Go.Proofs.YtaebljoacffghaaGreatDoor
open Go.RowKit

def up3Q : List (Int × Nat) := [(-5, 1), (7, 18446744073709551615), (9, 0)]
theorem up3Q_rises : Rises up3Q := by
  intro i hi
  simp only [up3Q, List.length_cons, List.length_nil] at hi
  rcases (by omega : i = 0 ∨ i = 1) with rfl | rfl <;> decide
theorem up3Q_fit : ∀ x ∈ up3Q, FitQ x := by
  intro x hx
  simp only [up3Q, List.mem_cons, List.not_mem_nil, or_false] at hx
  rcases hx with rfl | rfl | rfl <;> exact ⟨by omega, by omega, by omega⟩
theorem allQ_fit {xs : List (Int × Nat)} (h : ∀ x ∈ xs, FitQ x) : AllQ xs := by
  intro j
  rcases Nat.lt_or_ge j xs.length with hj | hj
  · have e : xs.getD j (0, 0) = xs[j] := by rw [List.getD_eq_getElem?_getD, List.getElem?_eq_getElem hj]; rfl
    rw [e]
    obtain ⟨h1, h2, h3⟩ := h _ (List.getElem_mem hj)
    exact ⟨⟨h1, h2⟩, h3⟩
  · have e : xs.getD j (0, 0) = (0, 0) := by rw [List.getD_eq_getElem?_getD, List.getElem?_eq_none hj]; rfl
    rw [e]
    exact ⟨⟨by omega, by omega⟩, by omega⟩
theorem up3Q_means : jwF (blockB 1 2 up3Q) = ⟨up3Q, 0, [2, 3], 2⟩ := by
  rw [jwF_back (.inl rfl) (allQ_fit up3Q_fit) up3Q_rises (by decide) (by omega) (by omega)]
  rfl
theorem up3Q_one : SeekR up3Q 0 (-1) false true 1 :=
  .inr ⟨rfl, 1, ⟨by decide, by decide, fun i _ h2 => (by
    obtain rfl : i = 0 := by omega
    decide), fun _ => by decide⟩, .inl ⟨by decide, rfl, rfl⟩⟩
theorem up3Q_two : SeekR up3Q 8 (-1) false true 2 :=
  .inr ⟨rfl, 2, ⟨by decide, by decide, fun i _ h2 => (by
    rcases (by omega : i = 0 ∨ i = 1) with rfl | rfl <;> decide), fun _ => by decide⟩, .inl ⟨by decide, rfl, rfl⟩⟩
theorem rd_three (w : World) : RdQ (w.alloc (.cells #[.int .i64 (-5), .int .u64 1, .int .i64 7, .int .u64 18446744073709551615, .int .i64 9, .int .u64 0] 74)) (w.heap.size + 1) (some ⟨w.heap.size, 0, none⟩) 3 3 up3Q :=
  ⟨rfl, Nat.le_refl _, fun h => (by cases h), fun _ => ⟨_, rfl, by simp, fun j hj => by
    rcases (by omega : j = 0 ∨ j = 1 ∨ j = 2) with rfl | rfl | rfl
    · exact ⟨by simp [Addr.add, up3Q], by simp [Addr.add, up3Q]⟩
    · exact ⟨by simp [Addr.add, up3Q], by simp [Addr.add, up3Q]⟩
    · exact ⟨by simp [Addr.add, up3Q], by simp [Addr.add, up3Q]⟩⟩, up3Q_fit⟩

set_option maxRecDepth 20000 in
set_option maxHeartbeats 4000000 in
theorem up_top (w : World) (hT : TabsW w) : Calls Tryz.prog 14 #[] w (RetTrue w) := by
  have HT := Lib.hid hT
  have hb0 : Below w.heap.size w (w.alloc (.cells #[.int .i64 (-5), .int .u64 1, .int .i64 7, .int .u64 18446744073709551615, .int .i64 9, .int .u64 0] 74)) := (Below.refl _ _).alloc (Nat.le_refl _) _
  have hT0 := hT.bel hb0
  have hP := pack_good 1 2 2 (by simp) (some ⟨w.heap.size, 0, none⟩) 3 3 up3Q _ ((rd_three w).more (by simp)) (by omega) (.inl rfl) (by omega) (by omega) up3Q_rises hT0.room hT0.tz
  have HBY : Hid (∀ u ∈ blockB 1 2 up3Q, u < 256) := Lib.hid (block_lt (by omega))
  have HSM : Hid ((blockB 1 2 up3Q).length ≤ 7000) := Lib.hid (block_small (allQ_fit up3Q_fit) (by decide) (by omega))
  have HM : Hid (jwF (blockB 1 2 up3Q) = ⟨up3Q, 0, [2, 3], 2⟩) := Lib.hid up3Q_means
  have HAT : Hid (JAt (jwF (blockB 1 2 up3Q)) (jnewF (blockB 1 2 up3Q)) (-1) false) := Lib.hid (jnew_at HBY.out (by have := HSM.out; omega))
  unfold RetBlk at hP
  obtain ⟨bl, hbl⟩ : ∃ bl, blockB 1 2 up3Q = bl := ⟨_, rfl⟩
  rw [hbl] at hP HBY HSM HM HAT
  clear hbl hT0 hT
  obtain ⟨L, HL⟩ : ∃ L, Hid (bl.length = L) := ⟨_, Lib.hid rfl⟩
  rw [HL.out] at hP HSM
  go_enter Tryz.func14, Tryz.ntmps14
  go_wp2_with fail
  refine hP.mono ?_
  rintro e w1 ⟨A1, c1, rfl, ho1⟩
  have hb1 := hb0.trans (ho1.bel.mono hb0.size)
  have hr1 := ho1.rd
  clear hP ho1 hb0
  have hT1 := HT.out.bel hb1
  have hsm := HSM.out
  have hN1 := sc_newG A1 L c1 w1.heap.size bl w1 hr1 (Nat.le_refl _) HBY.out (by omega) hT1.room hT1.tz
  have hN2 := fun (X : World) (hX : Below w1.heap.size w1 X) => jnew_anyG A1 L c1 w1.heap.size bl X (hr1.below hX) hX.size HBY.out (by omega)
  rw [show wholeF bl = ((jwF bl).xs, (jwF bl).er) from rfl] at hN1
  generalize jwF bl = W at *
  generalize jnewF bl = s0 at *
  unfold RetItG at hN1
  simp only at hN1
  have HT1 := Lib.hid hT1
  clear hT1 hr1 hsm
  go_wp2_with fail
  refine hN1.mono ?_
  rintro e w2 ⟨g1, A5, c5, rfl, hg1, x1, q1, hb2, _⟩
  have hN2' := hN2 w2 hb2
  clear hN1 hN2
  go_wp2_with fail
  refine hN2'.mono ?_
  rintro e w3 ⟨g2, rfl, hg2, hj, hb3⟩
  have hD := duo_new HT.out hb1 hg1 x1 q1 hb2 hg1 hg2 hj HAT.out hb3
  have hf : DuoFix w W g1 g2 := ⟨Nat.le_trans hb1.size hg1, Nat.lt_of_lt_of_le x1.lt hg2, isErr_v _, by rw [HM.out]; exact ⟨by decide, by decide⟩, by rw [HM.out]; exact up3Q_rises, by rw [HM.out]; decide, by rw [HM.out]; exact up3Q_fit, HT.out.lt⟩
  have hxs : W.xs = up3Q := by rw [HM.out]
  have HXS := Lib.hid hxs
  clear hN2' x1 q1 hb2 hg2 hj hb3 hb1 hg1 hxs
  have hS1 := hf.xs.seek 0 hD.sc (hD.inP hf)
  rw [HXS.out] at hS1
  go_wp2_with fail
  refine hS1.mono ?_
  rintro e w4 ⟨ok, a', rfl, hr, hi4, hg4⟩
  obtain ⟨rfl, rfl⟩ := hr.one up3Q_one
  have hD4 := hD.step1 hf hg4 hi4
  clear hS1 hr hi4 hg4 hD
  have hS2 := hf.xj.seek 8 hD4.jp (hD4.inP hf)
  rw [HXS.out] at hS2
  go_wp2_with fail
  refine hS2.mono ?_
  rintro e w5 ⟨ok, a', rfl, hr, hi5, hg5⟩
  obtain ⟨rfl, rfl⟩ := hr.one up3Q_two
  have hD5 := hD4.step2 hf hg5 hi5
  clear hS2 hr hi5 hg5 hD4
  have hL1 := hf.xs.look hD5.sc
  rw [HXS.out, show lookQ up3Q 1 (!true) = (7, 18446744073709551615) from rfl] at hL1
  go_wp2_with fail
  refine hL1.mono ?_
  rintro e w6 ⟨rfl, hb6⟩
  have hD6 := hD5.go hf hb6
  clear hL1 hb6 hD5
  have hL2 := hf.xj.look hD6.jp
  rw [HXS.out, show lookQ up3Q 2 (!true) = (9, 0) from rfl] at hL2
  go_wp2_with fail
  refine hL2.mono ?_
  rintro e w7 ⟨rfl, hb7⟩
  have hD7 := hD6.go hf hb7
  clear hL2 hb7 hD6
  obtain ⟨⟨s, hj, hat⟩, _⟩ := hD7.jp
  have hck : s.ck = 2 := by
    have h1 := (hat.count.2 rfl).2 (by omega)
    rw [HM.out] at h1
    obtain ⟨k1, k2, k3, k4⟩ := h1
    simp only [List.length_cons, List.length_nil] at k2
    rcases (by omega : s.ck = 1 ∨ s.ck = 2) with e | e
    · rw [e] at k4
      simp at k4
    · exact e
  have hK := jck_any _ g2 s w7 hj
  rw [hck] at hK
  clear hj hat hck
  go_wp2_with fail
  refine hK.mono ?_
  rintro e w8 ⟨rfl, hb8⟩
  go_wp2
  go_ret
  exact ⟨rfl, hD7.bel.trans (hb8.mono hD7.bel.size)⟩

end Go.Proofs.YtaebljoacffghaaGreatDoor

/-
  A deed of one of both iterators: what it comes to.
-/
namespace Go.Proofs.YtaebljoacffghaaGreatDoor
open Go.RowKit

/-- what a deed comes to -/
def StepQ (xs : List (Int × Nat)) (what t a : Int) (d ok : Bool) (b : Int) : Prop := (what % 3 = 2 ∧ SeekR xs t a d ok b) ∨ (¬ what % 3 = 2 ∧ NextR xs.length a d ok b)
theorem StepQ.one {xs : List (Int × Nat)} {what t a : Int} {d ok ok' : Bool} {b b' : Int} (h : StepQ xs what t a d ok b) (g : StepQ xs what t a d ok' b') : ok = ok' ∧ b = b' := by
  rcases h with ⟨h1, h⟩ | ⟨h1, h⟩ <;> rcases g with ⟨g1, g⟩ | ⟨g1, g⟩
  · exact h.one g
  · exact absurd h1 g1
  · exact absurd g1 h1
  · exact h.one g
theorem StepQ.stands {xs : List (Int × Nat)} {what t a b : Int} {d ok : Bool} (h : StepQ xs what t a d ok b) (ha : StandsAt xs.length a) : StandsAt xs.length b := by
  rcases h with ⟨_, h⟩ | ⟨_, h⟩
  · exact h.stands ha
  · exact h.stands ha

section
variable {w0 w : World} {W : JW} {g1 g2 : Nat} {a1 a2 : Int} {d1 d2 : Bool}
set_option maxRecDepth 20000 in
set_option maxHeartbeats 2000000 in
theorem quickly_any (f : DuoFix w0 W g1 g2) (what t : Int) (h : AtDuo w0 w W g1 g2 a1 d1 a2 d2) :
    Calls Tryz.prog 18 #[.pointer (some ⟨g2, 0, none⟩), .agg #[.int .i64 what, .int .i64 t]] w fun e w' => ∃ ok a', e = .returned (.bool ok) ∧ StepQ W.xs what t a2 d2 ok a' ∧ AtDuo w0 w' W g1 g2 a1 d1 a' (!ok) ∧ w.grownBy w' (some g2) := by
  have hb : Below w.heap.size w (w.alloc (.cells #[.int .i64 what, .int .i64 t] 54)) := (Below.refl _ _).alloc (Nat.le_refl _) _
  have hx := BoxL.new w [.int .i64 what, .int .i64 t] 54
  have h1 := h.go f hb
  have hgr := grown_below hb (some g2)
  obtain ⟨u0, u1⟩ := hx.get2
  obtain ⟨qv, hq⟩ : ∃ qv, what % 3 = qv := ⟨_, rfl⟩
  have hpick := fun X => pick_any what 3 X (by omega) (by omega)
  rw [hq] at hpick
  have HQ := Lib.hid hq
  clear hx h hq
  go_enter Tryz.func18, Tryz.ntmps18
  go_wp2_with fail
  refine (hpick _).mono ?_
  rintro e w2 ⟨rfl, rfl⟩
  clear hpick
  by_cases hq2 : qv = 2
  · subst hq2
    have hS := f.xj.seek t h1.jp (h1.inP f)
    go_wp2_with fail
    refine hS.mono ?_
    rintro e w4 ⟨ok, a', rfl, hr, hi, hg⟩
    have HF : Hid (StepQ W.xs what t a2 d2 ok a') := Lib.hid (.inl ⟨HQ.out, hr⟩)
    clear hS hr
    go_wp2
    go_ret
    exact ⟨ok, a', rfl, HF.out, h1.step2 f hg hi, hgr.trans hg⟩
  · have hq3 : (qv == 2) = false := by simp [hq2]
    have hS := f.xj.next h1.jp (h1.inP f)
    go_wp2_with fail
    refine hS.mono ?_
    rintro e w4 ⟨ok, a', rfl, hr, hi, hg⟩
    have HF : Hid (StepQ W.xs what t a2 d2 ok a') := Lib.hid (.inr ⟨by rw [HQ.out]; exact hq2, hr⟩)
    clear hS hr
    go_wp2
    go_ret
    exact ⟨ok, a', rfl, HF.out, h1.step2 f hg hi, hgr.trans hg⟩
set_option maxRecDepth 20000 in
set_option maxHeartbeats 2000000 in
theorem slowly_any (f : DuoFix w0 W g1 g2) (what t : Int) (h : AtDuo w0 w W g1 g2 a1 d1 a2 d2) :
    Calls Tryz.prog 17 #[.pointer (some ⟨g1, 0, none⟩), .agg #[.int .i64 what, .int .i64 t]] w fun e w' => ∃ ok a', e = .returned (.bool ok) ∧ StepQ W.xs what t a1 d1 ok a' ∧ AtDuo w0 w' W g1 g2 a' (!ok) a2 d2 ∧ w.grownBy w' (some g1) := by
  have hb : Below w.heap.size w (w.alloc (.cells #[.int .i64 what, .int .i64 t] 54)) := (Below.refl _ _).alloc (Nat.le_refl _) _
  have hx := BoxL.new w [.int .i64 what, .int .i64 t] 54
  have h1 := h.go f hb
  have hgr := grown_below hb (some g1)
  obtain ⟨u0, u1⟩ := hx.get2
  obtain ⟨qv, hq⟩ : ∃ qv, what % 3 = qv := ⟨_, rfl⟩
  have hpick := fun X => pick_any what 3 X (by omega) (by omega)
  rw [hq] at hpick
  have HQ := Lib.hid hq
  clear hx h hq
  go_enter Tryz.func17, Tryz.ntmps17
  go_wp2_with fail
  refine (hpick _).mono ?_
  rintro e w2 ⟨rfl, rfl⟩
  clear hpick
  by_cases hq2 : qv = 2
  · subst hq2
    have hS := f.xs.seek t h1.sc (h1.inP f)
    go_wp2_with fail
    refine hS.mono ?_
    rintro e w4 ⟨ok, a', rfl, hr, hi, hg⟩
    have HF : Hid (StepQ W.xs what t a1 d1 ok a') := Lib.hid (.inl ⟨HQ.out, hr⟩)
    clear hS hr
    go_wp2
    go_ret
    exact ⟨ok, a', rfl, HF.out, h1.step1 f hg hi, hgr.trans hg⟩
  · have hq3 : (qv == 2) = false := by simp [hq2]
    have hS := f.xs.next h1.sc (h1.inP f)
    go_wp2_with fail
    refine hS.mono ?_
    rintro e w4 ⟨ok, a', rfl, hr, hi, hg⟩
    have HF : Hid (StepQ W.xs what t a1 d1 ok a') := Lib.hid (.inr ⟨by rw [HQ.out]; exact hq2, hr⟩)
    clear hS hr
    go_wp2
    go_ret
    exact ⟨ok, a', rfl, HF.out, h1.step1 f hg hi, hgr.trans hg⟩
end

end Go.Proofs.YtaebljoacffghaaGreatDoor

/-
  A deed of layer 18's iterator, wherever else anything is written.
-/
namespace Go.Proofs.YtaebljoacffghaaGreatDoor
open Go.RowKit

set_option maxRecDepth 20000 in
set_option maxHeartbeats 2000000 in
theorem slowly_in {B g : Nat} {xs : List (Int × Nat)} {In : (Nat → Prop) → World → Int → Bool → Prop} {P : Nat → Prop} {a : Int} {d : Bool} {w : World} (X : ItOk 48 35 29 19 B g xs In) (what t : Int) (h : In P w a d) (hP : ∀ k, P k → k < w.heap.size) :
    Calls Tryz.prog 17 #[.pointer (some ⟨g, 0, none⟩), .agg #[.int .i64 what, .int .i64 t]] w fun e w' => ∃ ok a', e = .returned (.bool ok) ∧ StepQ xs what t a d ok a' ∧ In P w' a' (!ok) ∧ w.grownBy w' (some g) := by
  have hb : Below w.heap.size w (w.alloc (.cells #[.int .i64 what, .int .i64 t] 54)) := (Below.refl _ _).alloc (Nat.le_refl _) _
  have hx := BoxL.new w [.int .i64 what, .int .i64 t] 54
  have h1 := X.below h hb
  have hP1 : ∀ k, P k → k < (w.alloc (.cells #[.int .i64 what, .int .i64 t] 54)).heap.size := fun k hk => Nat.lt_of_lt_of_le (hP k hk) hb.size
  have hgr := grown_below hb (some g)
  obtain ⟨u0, u1⟩ := hx.get2
  obtain ⟨qv, hq⟩ : ∃ qv, what % 3 = qv := ⟨_, rfl⟩
  have hpick := fun X => pick_any what 3 X (by omega) (by omega)
  rw [hq] at hpick
  have HQ := Lib.hid hq
  clear hx h hq hP
  go_enter Tryz.func17, Tryz.ntmps17
  go_wp2_with fail
  refine (hpick _).mono ?_
  rintro e w2 ⟨rfl, rfl⟩
  clear hpick
  by_cases hq2 : qv = 2
  · subst hq2
    have hS := X.seek t h1 hP1
    go_wp2_with fail
    refine hS.mono ?_
    rintro e w4 ⟨ok, a', rfl, hr, hi, hg⟩
    have HF : Hid (StepQ xs what t a d ok a') := Lib.hid (.inl ⟨HQ.out, hr⟩)
    clear hS hr
    go_wp2
    go_ret
    exact ⟨ok, a', rfl, HF.out, hi, hgr.trans hg⟩
  · have hq3 : (qv == 2) = false := by simp [hq2]
    have hS := X.next h1 hP1
    go_wp2_with fail
    refine hS.mono ?_
    rintro e w4 ⟨ok, a', rfl, hr, hi, hg⟩
    have HF : Hid (StepQ xs what t a d ok a') := Lib.hid (.inr ⟨by rw [HQ.out]; exact hq2, hr⟩)
    clear hS hr
    go_wp2
    go_ret
    exact ⟨ok, a', rfl, HF.out, hi, hgr.trans hg⟩

end Go.Proofs.YtaebljoacffghaaGreatDoor
