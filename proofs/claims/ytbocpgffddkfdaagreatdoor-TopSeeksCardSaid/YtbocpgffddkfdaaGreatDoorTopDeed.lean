/-
  A deed of one of both iterators: what it comes to.
-/
import Derived.Test.YtbocpgffddkfdaaGreatDoorTopDuo
import Derived.Test.YtbocpgffddkfdaaGreatDoorDeedA
namespace Go.Proofs.YtbocpgffddkfdaaGreatDoor
open Go.RowKit

/-- what a deed comes to -/
def StepQ (xs : List (Int × Nat)) (what t a : Int) (d ok : Bool) (b : Int) : Prop := (what % 3 = 2 ∧ SeekR xs t a d ok b) ∨ (¬ what % 3 = 2 ∧ NextR xs.length a d ok b)
theorem StepQ.one {xs : List (Int × Nat)} {what t a : Int} {d ok ok' : Bool} {b b' : Int} (h : StepQ xs what t a d ok b) (g : StepQ xs what t a d ok' b') : ok = ok' ∧ b = b' := by
  rcases h with ⟨h1, h⟩ | ⟨h1, h⟩ <;> rcases g with ⟨g1, g⟩ | ⟨g1, g⟩
  · exact h.one g
  · exact absurd h1 g1
  · exact absurd g1 h1
  · exact h.one g
theorem StepQ.stands {xs : List (Int × Nat)} {what t a b : Int} {d ok : Bool} (h : StepQ xs what t a d ok b) (ha : StandsAt xs.length a) : StandsAt xs.length b := by
  rcases h with ⟨_, h⟩ | ⟨_, h⟩
  · exact h.stands ha
  · exact h.stands ha

section
variable {w0 w : World} {W : JW} {g1 g2 : Nat} {a1 a2 : Int} {d1 d2 : Bool}
set_option maxRecDepth 20000 in
set_option maxHeartbeats 2000000 in
theorem quickly_any (f : DuoFix w0 W g1 g2) (what t : Int) (h : AtDuo w0 w W g1 g2 a1 d1 a2 d2) :
    Calls Tryz.prog 29 #[.pointer (some ⟨g2, 0, none⟩), .agg #[.int .i64 what, .int .i64 t]] w fun e w' => ∃ ok a', e = .returned (.bool ok) ∧ StepQ W.xs what t a2 d2 ok a' ∧ AtDuo w0 w' W g1 g2 a1 d1 a' (!ok) ∧ w.grownBy w' (some g2) := by
  have hb : Below w.heap.size w (w.alloc (.cells #[.int .i64 what, .int .i64 t] 35)) := (Below.refl _ _).alloc (Nat.le_refl _) _
  have hx := BoxL.new w [.int .i64 what, .int .i64 t] 35
  have h1 := h.go f hb
  have hgr := grown_below hb (some g2)
  obtain ⟨u0, u1⟩ := hx.get2
  obtain ⟨qv, hq⟩ : ∃ qv, what % 3 = qv := ⟨_, rfl⟩
  have hpick := fun X => pick_any what 3 X (by omega) (by omega)
  rw [hq] at hpick
  have HQ := Lib.hid hq
  clear hx h hq
  go_enter Tryz.func29, Tryz.ntmps29
  go_wp2_with fail
  refine (hpick _).mono ?_
  rintro e w2 ⟨rfl, rfl⟩
  clear hpick
  by_cases hq2 : qv = 2
  · subst hq2
    have hS := f.xj.seek t h1.jp (h1.inP f)
    go_wp2_with fail
    refine hS.mono ?_
    rintro e w4 ⟨ok, a', rfl, hr, hi, hg⟩
    have HF : Hid (StepQ W.xs what t a2 d2 ok a') := Lib.hid (.inl ⟨HQ.out, hr⟩)
    clear hS hr
    go_wp2
    go_ret
    exact ⟨ok, a', rfl, HF.out, h1.step2 f hg hi, hgr.trans hg⟩
  · have hq3 : (qv == 2) = false := by simp [hq2]
    have hS := f.xj.next h1.jp (h1.inP f)
    go_wp2_with fail
    refine hS.mono ?_
    rintro e w4 ⟨ok, a', rfl, hr, hi, hg⟩
    have HF : Hid (StepQ W.xs what t a2 d2 ok a') := Lib.hid (.inr ⟨by rw [HQ.out]; exact hq2, hr⟩)
    clear hS hr
    go_wp2
    go_ret
    exact ⟨ok, a', rfl, HF.out, h1.step2 f hg hi, hgr.trans hg⟩
set_option maxRecDepth 20000 in
set_option maxHeartbeats 2000000 in
theorem slowly_any (f : DuoFix w0 W g1 g2) (what t : Int) (h : AtDuo w0 w W g1 g2 a1 d1 a2 d2) :
    Calls Tryz.prog 13 #[.pointer (some ⟨g1, 0, none⟩), .agg #[.int .i64 what, .int .i64 t]] w fun e w' => ∃ ok a', e = .returned (.bool ok) ∧ StepQ W.xs what t a1 d1 ok a' ∧ AtDuo w0 w' W g1 g2 a' (!ok) a2 d2 ∧ w.grownBy w' (some g1) := by
  have hb : Below w.heap.size w (w.alloc (.cells #[.int .i64 what, .int .i64 t] 35)) := (Below.refl _ _).alloc (Nat.le_refl _) _
  have hx := BoxL.new w [.int .i64 what, .int .i64 t] 35
  have h1 := h.go f hb
  have hgr := grown_below hb (some g1)
  obtain ⟨u0, u1⟩ := hx.get2
  obtain ⟨qv, hq⟩ : ∃ qv, what % 3 = qv := ⟨_, rfl⟩
  have hpick := fun X => pick_any what 3 X (by omega) (by omega)
  rw [hq] at hpick
  have HQ := Lib.hid hq
  clear hx h hq
  go_enter Tryz.func13, Tryz.ntmps13
  go_wp2_with fail
  refine (hpick _).mono ?_
  rintro e w2 ⟨rfl, rfl⟩
  clear hpick
  by_cases hq2 : qv = 2
  · subst hq2
    have hS := f.xs.seek t h1.sc (h1.inP f)
    go_wp2_with fail
    refine hS.mono ?_
    rintro e w4 ⟨ok, a', rfl, hr, hi, hg⟩
    have HF : Hid (StepQ W.xs what t a1 d1 ok a') := Lib.hid (.inl ⟨HQ.out, hr⟩)
    clear hS hr
    go_wp2
    go_ret
    exact ⟨ok, a', rfl, HF.out, h1.step1 f hg hi, hgr.trans hg⟩
  · have hq3 : (qv == 2) = false := by simp [hq2]
    have hS := f.xs.next h1.sc (h1.inP f)
    go_wp2_with fail
    refine hS.mono ?_
    rintro e w4 ⟨ok, a', rfl, hr, hi, hg⟩
    have HF : Hid (StepQ W.xs what t a1 d1 ok a') := Lib.hid (.inr ⟨by rw [HQ.out]; exact hq2, hr⟩)
    clear hS hr
    go_wp2
    go_ret
    exact ⟨ok, a', rfl, HF.out, h1.step1 f hg hi, hgr.trans hg⟩
end

end Go.Proofs.YtbocpgffddkfdaaGreatDoor
