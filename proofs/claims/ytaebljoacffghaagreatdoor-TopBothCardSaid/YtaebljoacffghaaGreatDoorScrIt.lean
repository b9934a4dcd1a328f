/-
  A step of a script, whichever layer made the iterator.
-/
import Derived.Test.YtaebljoacffghaaGreatDoorScrRep
import Derived.Test.YtaebljoacffghaaGreatDoorSeqIt
import Derived.Test.YtaebljoacffghaaGreatDoorCurA
import Derived.Deep.CutBlock
namespace Go.Proofs.YtaebljoacffghaaGreatDoor
open Go.RowKit

/-- an iterator as a value tells its error, too -/
structure ItEr (T : TypeId) (fE g er : Nat) (In : (Nat → Prop) → World → Int → Bool → Prop) : Prop where
  mE : ∀ w, Sem.run Tryz.prog (method (Tryz.prog.types.size + 100) T (.pointer (some ⟨g, 0, none⟩)) "Err") w = .ok (fE, .pointer (some ⟨g, 0, none⟩)) w
  eE : ∀ args w, Sem.run Tryz.prog (callFunc fE args) w = .ok (.enter fE args) w
  err : ∀ {P a d w}, In P w a d → Calls Tryz.prog fE #[.pointer (some ⟨g, 0, none⟩)] w fun e w' => e = .returned (bif d then errV er else .nilIface) ∧ Below w.heap.size w w'
set_option maxRecDepth 20000 in
theorem er_scan (W : JW) (B g : Nat) : ItEr 48 21 g W.er (InS W B g) where
  mE := fun w => by kernel_rfl
  eE := enters_of Tryz.func21 (by kernel_rfl) rfl
  err := fun {P a d w} h => by
    obtain ⟨A, c, hx, _⟩ := h
    exact sc_err g A W.xs.length c _ a d w hx (isErr_v _)
set_option maxRecDepth 20000 in
theorem er_jump (W : JW) (B g : Nat) : ItEr 50 22 g W.er (InJ W B g) where
  mE := fun w => by kernel_rfl
  eE := enters_of Tryz.func22 (by kernel_rfl) rfl
  err := fun {P a d w} h => by
    obtain ⟨⟨s, hj, hat⟩, _⟩ := h
    exact jerr_any P W g s a d w hj hat

theorem as_none (w : World) : (Instr.typeAssert .nilIface 27 59 true).run Tryz.prog w = .ok (.tuple #[.int .i64 0, .bool false]) w := by kernel_rfl
theorem as_code (w : World) (k : Int) : (Instr.typeAssert (.iface 59 (.int .i64 k)) 27 59 true).run Tryz.prog w = .ok (.tuple #[.int .i64 k, .bool true]) w := by kernel_rfl

set_option maxRecDepth 20000 in
set_option maxHeartbeats 400000 in
/-- the program's own number of an error -/
theorem scrnum_nil (w : World) : Calls Tryz.prog 39 #[.nilIface] w fun e w' => e = .returned (.int .i64 0) ∧ Below w.heap.size w w' := by
  have h0 := as_none
  go_enter Tryz.func39, Tryz.ntmps39
  go_wp2
  go_ret
  exact ⟨rfl, by repeat (first | with_reducible exact Below.refl _ _ | assumption | with_reducible refine Below.drew ?_ | with_reducible refine Below.alloc ?_ (by (first | assumption | omega | (simp; done) | (simp; omega))) _)⟩
set_option maxRecDepth 20000 in
set_option maxHeartbeats 400000 in
theorem scrnum_some (k : Int) (w : World) : Calls Tryz.prog 39 #[.iface 59 (.int .i64 k)] w fun e w' => e = .returned (.int .i64 k) ∧ Below w.heap.size w w' := by
  have h0 := as_code
  go_enter Tryz.func39, Tryz.ntmps39
  go_wp2
  go_ret
  exact ⟨rfl, by repeat (first | with_reducible exact Below.refl _ _ | assumption | with_reducible refine Below.drew ?_ | with_reducible refine Below.alloc ?_ (by (first | assumption | omega | (simp; done) | (simp; omega))) _)⟩
theorem scrnum_any (er : Nat) (d : Bool) (w : World) : Calls Tryz.prog 39 #[bif d then errV er else .nilIface] w fun e w' => e = .returned (.int .i64 ((bif d then er else 0 : Nat) : Int)) ∧ Below w.heap.size w w' := by
  cases d
  · exact scrnum_nil w
  · show Calls _ _ #[errV er] _ _
    unfold errV
    split
    · rename_i h
      subst h
      exact scrnum_nil w
    · exact scrnum_some _ w

section
variable {T : TypeId} {fN fS fA fE B g er : Nat} {xs : List (Int × Nat)} {In : (Nat → Prop) → World → Int → Bool → Prop}

set_option maxRecDepth 20000 in
set_option maxHeartbeats 4000000 in
theorem do_any (X : ItOk T fN fS fA B g xs In) (Y : ItEr T fE g er In) (P : Nat → Prop) (a op t : Int) (d : Bool) (w : World) (hi : In P w a d) (hP : ∀ k, P k → k < w.heap.size) :
    Calls Tryz.prog 25 #[.iface T (.pointer (some ⟨g, 0, none⟩)), .agg #[.int .i64 op, .int .i64 t]] w fun e w' => ∃ r a' d', e = .returned (repV r) ∧ RepR xs er (op, t) a d r a' d' ∧ In P w' a' d' ∧ w.grownBy w' (some g) := by
  have mN := X.mN
  have mS := X.mS
  have mA := X.mA
  have mE := Y.mE
  have eN := X.eN
  have eS := X.eS
  have eA := X.eA
  have eE := Y.eE
  simp only [Tryz.types_size, Nat.reduceAdd] at mN mS mA mE
  obtain ⟨V, hV⟩ : ∃ V, V = (w.alloc (.cells #[.int .i64 op, .int .i64 t] 41)).alloc (.cells #[.bool false, .int .i64 0, .int .u64 0, .int .i64 0] 39) := ⟨_, rfl⟩
  have hbV : Below w.heap.size w V := by
    rw [hV]
    exact ((Below.refl _ _).alloc (Nat.le_refl _) _).alloc (by simp) _
  have hxV : BoxL V w.heap.size [.int .i64 op, .int .i64 t] := by
    rw [hV]
    exact (BoxL.new w [.int .i64 op, .int .i64 t] 41).onA _
  have hyV : BoxL V (w.heap.size + 1) [.bool false, .int .i64 0, .int .u64 0, .int .i64 0] := by
    rw [hV]
    exact BoxL.new_at0 [.bool false, .int .i64 0, .int .u64 0, .int .i64 0] 39 (by simp)
  have HI0 := Lib.hid hi
  have hge := X.ge hi
  have hPg := X.at_ hi
  have h1 : In (fun k => P k ∨ k = w.heap.size + 1) V a d := X.below (X.also hi (fun k hk hl => by
    rcases hk with hk | rfl
    · exact hk
    · omega) (.inl hPg) (fun k hk => by
    rcases hk with hk | rfl
    · exact hge k hk
    · have := X.base
      have := X.lt hi
      omega)) hbV
  have hP1 : ∀ k, (P k ∨ k = w.heap.size + 1) → k < V.heap.size := fun k hk => by
    rcases hk with hk | rfl
    · exact Nat.lt_of_lt_of_le (hP k hk) hbV.size
    · exact hyV.lt
  have hlt := X.lt hi
  have HF := Lib.hid (fun (w4 : World) (a' : Int) (d' : Bool) (u0 u1 u2 u3 : Value) (hg : V.grownBy w4 (some g)) (h4 : In (fun k => P k ∨ k = w.heap.size + 1) w4 a' d') => (by
    have hs := grown_set4 w4 (w.heap.size + 1) 0 u0 u1 u2 u3
    have hg0 := (grown_below hbV (some g)).trans hg
    have hy4 := hyV.grown hg (fun e => by injection e with e; omega)
    refine ⟨X.also (X.far h4 hs (.inr rfl) (by omega)) (fun k hk _ => .inl hk) hPg hge, ⟨hs.os.trans hg0.os, hs.tape.trans hg0.tape, hs.output.trans hg0.output, Nat.le_trans hg0.size hs.size, fun j hj hne => ?_⟩, hy4.all4c u0 u1 u2 u3⟩
    exact (hs.block j (Nat.lt_of_lt_of_le hj hg0.size) (fun e => by injection e with e; omega)).trans (hg0.block j hj hne) :
      In P ((((w4.setCell ⟨w.heap.size + 1, 0, none⟩ (u0)).setCell ⟨w.heap.size + 1, 1, none⟩ (u1)).setCell ⟨w.heap.size + 1, 2, none⟩ (u2)).setCell ⟨w.heap.size + 1, 3, none⟩ (u3)) a' d' ∧ w.grownBy ((((w4.setCell ⟨w.heap.size + 1, 0, none⟩ (u0)).setCell ⟨w.heap.size + 1, 1, none⟩ (u1)).setCell ⟨w.heap.size + 1, 2, none⟩ (u2)).setCell ⟨w.heap.size + 1, 3, none⟩ (u3)) (some g) ∧ BoxL ((((w4.setCell ⟨w.heap.size + 1, 0, none⟩ (u0)).setCell ⟨w.heap.size + 1, 1, none⟩ (u1)).setCell ⟨w.heap.size + 1, 2, none⟩ (u2)).setCell ⟨w.heap.size + 1, 3, none⟩ (u3)) (w.heap.size + 1) [u0, u1, u2, u3]))
  have HY := Lib.hid (fun (w4 : World) (hg : V.grownBy w4 (some g)) => (hyV.grown hg (fun e => by injection e with e; omega) : BoxL w4 (w.heap.size + 1) [.bool false, .int .i64 0, .int .u64 0, .int .i64 0]))
  obtain ⟨x0, x1⟩ := hxV.get2
  have HPI := Lib.hid (fun (w4 : World) (hg : V.grownBy w4 (some g)) => hxV.grown hg (fun e => by injection e with e; omega))
  clear hi hP hge hPg hxV
  by_cases e1 : op = 1
  · subst e1
    have hS := X.next h1 hP1
    clear h1 mS mA mE eS eA eE hP1 hyV
    go_enter Tryz.func25, Tryz.ntmps25
    go_wp2_with (rw [← hV])
    refine hS.mono ?_
    rintro e w4 ⟨ok, a', rfl, hr, hi4, hg4⟩
    obtain ⟨u0, u1, u2, u3⟩ := (HY.out w4 hg4).get4c
    obtain ⟨f0, f1, f2, f3⟩ := (HY.out w4 hg4).free4c
    have HR : Hid (RepR xs er (1, t) a d ⟨ok, 0, 0, 0⟩ a' (!ok)) := Lib.hid (.inl ⟨rfl, ok, hr, rfl, rfl⟩)
    obtain ⟨k1, k2, k3⟩ := HF.out w4 a' (!ok) (.bool ok) (.int .i64 0) (.int .u64 0) (.int .i64 0) hg4 hi4
    obtain ⟨v0, v1, v2, v3⟩ := k3.get4c
    clear hS hr hi4 hg4 hbV k3
    go_wp2
    refine bodyPost_ret (v := repV ⟨ok, 0, 0, 0⟩) ?_ rfl ⟨⟨ok, 0, 0, 0⟩, a', (!ok), rfl, HR.out, k1, k2⟩
    simp [results, Tryz.results25, go_sem, v0, v1, v2, v3, repV]
  by_cases e2 : op = 2
  · subst e2
    have hS := X.seek t h1 hP1
    clear h1 mN mA mE eN eA eE hP1 hyV e1
    go_enter Tryz.func25, Tryz.ntmps25
    go_wp2_with (rw [← hV])
    refine hS.mono ?_
    rintro e w4 ⟨ok, a', rfl, hr, hi4, hg4⟩
    obtain ⟨u0, u1, u2, u3⟩ := (HY.out w4 hg4).get4c
    obtain ⟨f0, f1, f2, f3⟩ := (HY.out w4 hg4).free4c
    have HR : Hid (RepR xs er (2, t) a d ⟨ok, 0, 0, 0⟩ a' (!ok)) := Lib.hid (.inr (.inl ⟨rfl, ok, hr, rfl, rfl⟩))
    obtain ⟨k1, k2, k3⟩ := HF.out w4 a' (!ok) (.bool ok) (.int .i64 0) (.int .u64 0) (.int .i64 0) hg4 hi4
    obtain ⟨v0, v1, v2, v3⟩ := k3.get4c
    clear hS hr hi4 hg4 hbV k3
    go_wp2
    refine bodyPost_ret (v := repV ⟨ok, 0, 0, 0⟩) ?_ rfl ⟨⟨ok, 0, 0, 0⟩, a', (!ok), rfl, HR.out, k1, k2⟩
    simp [results, Tryz.results25, go_sem, v0, v1, v2, v3, repV]
  by_cases e3 : op = 3
  · subst e3
    have hS := X.look h1
    obtain ⟨lk, hlk⟩ : ∃ lk, lookQ xs a d = lk := ⟨_, rfl⟩
    rw [hlk] at hS
    have HLK := Lib.hid hlk
    clear hlk
    obtain ⟨t1, z1⟩ := lk
    simp only at hS
    have HI := Lib.hid h1
    clear h1 mN mS mE eN eS eE hP1 hyV e1 e2
    go_enter Tryz.func25, Tryz.ntmps25
    go_wp2_with (rw [← hV])
    refine hS.mono ?_
    rintro e w4 ⟨rfl, hb4⟩
    have hg4 := grown_below hb4 (some g)
    have hi4 := X.below HI.out hb4
    obtain ⟨u0, u1, u2, u3⟩ := (HY.out w4 hg4).get4c
    obtain ⟨f0, f1, f2, f3⟩ := (HY.out w4 hg4).free4c
    have HR : Hid (RepR xs er (3, t) a d ⟨false, t1, z1, 0⟩ a d) := Lib.hid (.inr (.inr (.inl ⟨rfl, rfl, rfl, by rw [HLK.out]⟩)))
    obtain ⟨k1, k2, k3⟩ := HF.out w4 a d (.bool false) (.int .i64 t1) (.int .u64 (z1 : Int)) (.int .i64 0) hg4 hi4
    obtain ⟨v0, v1, v2, v3⟩ := k3.get4c
    clear hS hb4 hi4 hg4 hbV k3
    go_wp2
    refine bodyPost_ret (v := repV ⟨false, t1, z1, 0⟩) ?_ rfl ⟨⟨false, t1, z1, 0⟩, a, d, rfl, HR.out, k1, k2⟩
    simp [results, Tryz.results25, go_sem, v0, v1, v2, v3, repV]
  by_cases e4 : op = 4
  · subst e4
    have hS := Y.err h1
    have hN := fun X => scrnum_any er d X
    have HR0 : Hid (RepR xs er (4, t) a d ⟨false, 0, 0, bif d then er else 0⟩ a d) := Lib.hid (.inr (.inr (.inr (.inl ⟨rfl, rfl, rfl, rfl⟩))))
    obtain ⟨ev, hev⟩ : ∃ ev, (bif d then errV er else .nilIface) = ev := ⟨_, rfl⟩
    rw [hev] at hS hN
    generalize (bif d then er else 0) = en at *
    have HI := Lib.hid h1
    clear h1 mN mS mA eN eS eA hP1 hyV e1 e2 e3 hev
    go_enter Tryz.func25, Tryz.ntmps25
    go_wp2_with (rw [← hV])
    refine hS.mono ?_
    rintro e w3 ⟨rfl, hb3⟩
    go_wp2_with fail
    refine (hN _).mono ?_
    rintro e w4 ⟨rfl, hb4⟩
    have hb5 := hb3.trans (hb4.mono hb3.size)
    have hg4 := grown_below hb5 (some g)
    have hi4 := X.below HI.out hb5
    obtain ⟨u0, u1, u2, u3⟩ := (HY.out w4 hg4).get4c
    obtain ⟨f0, f1, f2, f3⟩ := (HY.out w4 hg4).free4c
    have HR : Hid (RepR xs er (4, t) a d ⟨false, 0, 0, en⟩ a d) := Lib.hid (HR0.out)
    obtain ⟨k1, k2, k3⟩ := HF.out w4 a d (.bool false) (.int .i64 0) (.int .u64 0) (.int .i64 (en : Int)) hg4 hi4
    obtain ⟨v0, v1, v2, v3⟩ := k3.get4c
    clear hS hN hb3 hb4 hb5 hi4 hg4 hbV k3
    go_wp2
    refine bodyPost_ret (v := repV ⟨false, 0, 0, en⟩) ?_ rfl ⟨⟨false, 0, 0, en⟩, a, d, rfl, HR.out, k1, k2⟩
    simp [results, Tryz.results25, go_sem, v0, v1, v2, v3, repV]
  · have HR0 : Hid (RepR xs er (op, t) a d ⟨false, 0, 0, 1⟩ a d) := Lib.hid (.inr (.inr (.inr (.inr ⟨⟨e1, e2, e3, e4⟩, rfl, rfl, rfl⟩))))
    have b1 : (op == 1) = false := by simp [e1]
    have b2 : (op == 2) = false := by simp [e2]
    have b3 : (op == 3) = false := by simp [e3]
    have b4 : (op == 4) = false := by simp [e4]
    have hb2 : Below w.heap.size w ((w.alloc (.cells #[.int .i64 op, .int .i64 t] 41)).alloc (.cells #[.bool false, .int .i64 0, .int .u64 0, .int .i64 1] 39)) := ((Below.refl _ _).alloc (Nat.le_refl _) _).alloc (by simp) _
    have HK := Lib.hid (And.intro (X.below HI0.out hb2) (grown_below hb2 (some g)))
    clear h1 mN mS mA mE eN eS eA eE hP1 hyV e1 e2 e3 e4 hbV hb2 x0 x1 HF HY HPI
    subst hV
    go_enter Tryz.func25, Tryz.ntmps25
    go_wp2
    refine bodyPost_ret (v := repV ⟨false, 0, 0, 1⟩) ?_ rfl ⟨⟨false, 0, 0, 1⟩, a, d, rfl, HR0.out, HK.out.1, HK.out.2⟩
    simp [results, Tryz.results25, go_sem, repV]
end

end Go.Proofs.YtaebljoacffghaaGreatDoor
