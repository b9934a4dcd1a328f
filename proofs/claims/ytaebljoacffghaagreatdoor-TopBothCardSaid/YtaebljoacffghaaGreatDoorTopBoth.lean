/-
  TopBoth, walked: it returns true, whatever the arguments.
-/
import Derived.Test.YtaebljoacffghaaGreatDoorTopA
import Derived.Test.YtaebljoacffghaaGreatDoorScrRun
import Derived.Test.YtaebljoacffghaaGreatDoorWords
import Derived.Deep.CutBlock
import Derived.Deep.RegionWith
namespace Go.Proofs.YtaebljoacffghaaGreatDoor
open Go.RowKit

set_option maxRecDepth 20000 in
set_option maxHeartbeats 2000000 in
/-- a deed of layer 19's iterator, wherever else anything is written -/
theorem quickly_in {B g : Nat} {xs : List (Int × Nat)} {In : (Nat → Prop) → World → Int → Bool → Prop} {P : Nat → Prop} {a : Int} {d : Bool} {w : World} (X : ItOk 50 36 30 20 B g xs In) (what t : Int) (h : In P w a d) (hP : ∀ k, P k → k < w.heap.size) :
    Calls Tryz.prog 18 #[.pointer (some ⟨g, 0, none⟩), .agg #[.int .i64 what, .int .i64 t]] w fun e w' => ∃ ok a', e = .returned (.bool ok) ∧ StepQ xs what t a d ok a' ∧ In P w' a' (!ok) ∧ w.grownBy w' (some g) := by
  have hb : Below w.heap.size w (w.alloc (.cells #[.int .i64 what, .int .i64 t] 54)) := (Below.refl _ _).alloc (Nat.le_refl _) _
  have hx := BoxL.new w [.int .i64 what, .int .i64 t] 54
  have h1 := X.below h hb
  have hP1 : ∀ k, P k → k < (w.alloc (.cells #[.int .i64 what, .int .i64 t] 54)).heap.size := fun k hk => Nat.lt_of_lt_of_le (hP k hk) hb.size
  have hgr := grown_below hb (some g)
  obtain ⟨u0, u1⟩ := hx.get2
  obtain ⟨qv, hq⟩ : ∃ qv, what % 3 = qv := ⟨_, rfl⟩
  have hpick := fun X => pick_any what 3 X (by omega) (by omega)
  rw [hq] at hpick
  have HQ := Lib.hid hq
  clear hx h hq hP
  go_enter Tryz.func18, Tryz.ntmps18
  go_wp2_with fail
  refine (hpick _).mono ?_
  rintro e w2 ⟨rfl, rfl⟩
  clear hpick
  by_cases hq2 : qv = 2
  · subst hq2
    have hS := X.seek t h1 hP1
    go_wp2_with fail
    refine hS.mono ?_
    rintro e w4 ⟨ok, a', rfl, hr, hi, hg⟩
    have HF : Hid (StepQ xs what t a d ok a') := Lib.hid (.inl ⟨HQ.out, hr⟩)
    clear hS hr
    go_wp2
    go_ret
    exact ⟨ok, a', rfl, HF.out, hi, hgr.trans hg⟩
  · have hq3 : (qv == 2) = false := by simp [hq2]
    have hS := X.next h1 hP1
    go_wp2_with fail
    refine hS.mono ?_
    rintro e w4 ⟨ok, a', rfl, hr, hi, hg⟩
    have HF : Hid (StepQ xs what t a d ok a') := Lib.hid (.inr ⟨by rw [HQ.out]; exact hq2, hr⟩)
    clear hS hr
    go_wp2
    go_ret
    exact ⟨ok, a', rfl, HF.out, hi, hgr.trans hg⟩

theorem rpy_fields : Tryz.prog.underlying 39 = some (.struct (Tryz.prog.fieldsOf 39)) := by kernel_rfl
theorem rpy_held : Tryz.prog.stoodInHeld 39 = false := by kernel_rfl
theorem rpy_guard : Tryz.prog.eqGuardType Tryz.prog.depth 39 = false := by kernel_rfl
theorem run_neq_rpy (w : World) (o : Bool) (t v c : Int) : (binOp .neq 39 (.agg #[.bool o, .int .i64 t, .int .u64 v, .int .i64 c]) (.agg #[.bool o, .int .i64 t, .int .u64 v, .int .i64 c])).run Tryz.prog w = .ok (.bool false) w := by
  rw [run_neq_struct, run_equalIn_agg _ _ _ _ _ rpy_fields rpy_held]
  simp [Op.eqFields, go_sem]

/-- layer 18's iterator in block g1, layer 19's in block g2, both at one place; the steps, which lie beyond block B1 -/
structure AtTwin (w0 wr : World) (W : JW) (g1 g2 B1 : Nat) (P : Nat → Prop) (v : Value) (ss : List (Int × Int)) (a : Int) (d : Bool) : Prop where
  bel : Below w0.heap.size w0 wr
  sc : InS W w0.heap.size g1 P wr a d
  jp : InJ W w0.heap.size g2 P wr a d
  row : RowS B1 wr v ss
  rowP : ∀ k, v.ownBlock = some k → P k
  inP : ∀ k, P k → k < wr.heap.size
section
variable {w0 w w' : World} {W : JW} {g1 g2 B1 : Nat} {P : Nat → Prop} {v v' : Value} {ss tt : List (Int × Int)} {a a' : Int} {d d' : Bool}
theorem AtTwin.go (f : DuoFix w0 W g1 g2) (h : AtTwin w0 w W g1 g2 B1 P v ss a d) (hb : Below w.heap.size w w') : AtTwin w0 w' W g1 g2 B1 P v ss a d :=
  ⟨h.bel.trans (hb.mono h.bel.size), f.xs.below h.sc hb, f.xj.below h.jp hb, h.row.below hb, h.rowP, fun k hk => Nat.lt_of_lt_of_le (h.inP k hk) hb.size⟩
/-- both have made one step -/
theorem AtTwin.step (f : DuoFix w0 W g1 g2) (hB : g2 < B1) (h : AtTwin w0 w W g1 g2 B1 P v ss a d) (hg : w.grownBy w' (some g1)) (hi : InS W w0.heap.size g1 P w' a' d') :
    InJ W w0.heap.size g2 P w' a d ∧ (∀ k, P k → k < w'.heap.size) ∧ ∀ w2, w'.grownBy w2 (some g2) → InJ W w0.heap.size g2 P w2 a' d' → AtTwin w0 w2 W g1 g2 B1 P v ss a' d' := by
  have f1 := f.l1
  have f2 := f.l2
  have p1 := f.xs.at_ h.sc
  have p2 := f.xj.at_ h.jp
  have r1 : RowS B1 w' v ss := h.row.kept hg (fun k e e' => by
    injection e' with e'
    have := (h.row.lt e).1
    omega)
  have q1 : ∀ k, P k → k < w'.heap.size := fun k hk => Nat.lt_of_lt_of_le (h.inP k hk) hg.size
  refine ⟨f.xj.far h.jp hg p1 (by omega), q1, fun w2 hg2 hi2 => ⟨below_far (below_far h.bel hg f1) hg2 (by omega), f.xs.far hi hg2 p2 (by omega), hi2, r1.kept hg2 (fun k e e' => by
    injection e' with e'
    have := (r1.lt e).1
    omega), h.rowP, fun k hk => Nat.lt_of_lt_of_le (q1 k hk) hg2.size⟩⟩
/-- more steps are laid -/
theorem AtTwin.laid (f : DuoFix w0 W g1 g2) (hB : g2 < B1) (h : AtTwin w0 w W g1 g2 B1 P v ss a d) (hr : RowS B1 w' v' tt) (hg : w.grownBy w' v.ownBlock) (hat : v'.ownBlock = v.ownBlock ∨ v'.ownBlock = some w.heap.size) :
    AtTwin w0 w' W g1 g2 B1 (fun k => P k ∨ v'.ownBlock = some k) v' tt a d := by
  have f1 := f.l1
  have f2 := f.l2
  have hv1 : ∀ k, v.ownBlock = some k → P k ∧ g1 ≠ k := fun k e => ⟨h.rowP k e, by have := (h.row.lt e).1; omega⟩
  have hv2 : ∀ k, v.ownBlock = some k → P k ∧ g2 ≠ k := fun k e => ⟨h.rowP k e, by have := (h.row.lt e).1; omega⟩
  refine ⟨h.bel.grown hg h.bel.size (fun k e => by have := (h.row.lt e).1; omega), f.xs.appended h.sc hg hv1 hat, f.xj.appended h.jp hg hv2 hat, hr, fun k e => .inr e, fun k hk => ?_⟩
  rcases hk with hk | hk
  · exact Nat.lt_of_lt_of_le (h.inP k hk) hg.size
  · exact (hr.lt hk).2
end

/-- three steps in a new block -/
theorem RdS.three (w : World) (p t : Int) : RdS (w.alloc (.cells #[.int .i64 p, .int .i64 t, .int .i64 3, .int .i64 0, .int .i64 4, .int .i64 0] 41)) (w.heap.size + 1) (some ⟨w.heap.size, 0, none⟩) 3 [(p, t), (3, 0), (4, 0)] :=
  ⟨rfl, fun _ => ⟨_, rfl, by simp, fun j hj => by
    rcases (by omega : j = 0 ∨ j = 1 ∨ j = 2) with rfl | rfl | rfl
    · exact ⟨by simp [Addr.add], by simp [Addr.add]⟩
    · exact ⟨by simp [Addr.add], by simp [Addr.add]⟩
    · exact ⟨by simp [Addr.add], by simp [Addr.add]⟩⟩⟩

set_option maxRecDepth 20000 in
set_option maxHeartbeats 1000000 in
theorem tboth_big (A1 A2 : Option Addr) (m1 c1 m2 c2 : Nat) (bs : List Nat) (w : World) (h1 : Rd w w.heap.size A1 m1 c1 bs) (hb : ∀ u ∈ bs, u < 256) (hl : m1 ≤ 140737488355328 ∧ m2 ≤ 9223372036854775807) (h : 1500 < m1 ∨ (m1 ≤ 1500 ∧ 100 < m2)) (hT : TabsW w) :
    Calls Tryz.prog 4 #[.slice A1 m1 c1, .slice A2 m2 c2] w (RetTrue w) := by
  have hu := up_top w hT
  unfold RetTrue at hu
  have hN := fun (X : World) (hX : Below w.heap.size w X) => sc_newG A1 m1 c1 w.heap.size bs X (h1.below hX) hX.size hb hl.1 (hT.bel hX).room (hT.bel hX).tz
  have hM := fun (X : World) (hX : Below w.heap.size w X) => jnew_any A1 m1 c1 w.heap.size bs X (h1.below hX) hX.size hb hl.1
  obtain ⟨r, hr⟩ : ∃ r, wholeF bs = r := ⟨_, rfl⟩
  rw [hr] at hN
  generalize jnewF bs = s0 at *
  unfold RetItG at hN
  clear hr h1 hb
  rcases h with h | h
  all_goals
    go_enter Tryz.func4, Tryz.ntmps4
    go_wp2_with fail
    refine hu.mono ?_
    rintro e w1 ⟨rfl, hb1⟩
    have hN1 := hN w1 hb1
    clear hu hN
    go_wp2_with fail
    refine hN1.mono ?_
    rintro e w2 ⟨g1, A5, c5, rfl, _, _, _, hb2, _⟩
    replace hb2 := hb1.trans (hb2.mono hb1.size)
    have hM1 := hM w2 hb2
    clear hN1 hM
    go_wp2_with fail
    refine hM1.mono ?_
    rintro e w3 ⟨g2, rfl, _, _, hb3⟩
    clear hM1
    go_wp2
    go_ret
    exact ⟨rfl, hb2.trans (hb3.mono hb2.size)⟩

set_option maxRecDepth 20000 in
set_option maxHeartbeats 8000000 in
theorem tboth_in (A1 A2 : Option Addr) (m1 c1 m2 c2 : Nat) (bs : List Nat) (w : World) (h1 : Rd w w.heap.size A1 m1 c1 bs) (hb : ∀ u ∈ bs, u < 256) (h2 : RdP w w.heap.size A2 m2) (hm1 : m1 ≤ 1500) (hm2 : m2 ≤ 100) (hT : TabsW w) :
    Calls Tryz.prog 4 #[.slice A1 m1 c1, .slice A2 m2 c2] w (RetTrue w) := by
  have hu := up_top w hT
  unfold RetTrue at hu
  have hfew := wholeF_few hb
  have hye := wholeF_le (bs := bs)
  have hri := wholeF_rises hb
  have hlen := h1.len
  have hcn := chunks_few hb (by omega)
  have hat := jnew_at hb (by omega)
  rw [h1.len] at hfew
  go_enter Tryz.func4, Tryz.ntmps4
  go_wp2_with fail
  refine hu.mono ?_
  rintro e w1 ⟨rfl, hb1⟩
  clear hu
  have hT1 := hT.bel hb1
  have hN := sc_newG A1 m1 c1 w.heap.size bs w1 (h1.below hb1) hb1.size hb (by omega) hT1.room hT1.tz
  have hM := fun (X : World) (hX : Below w.heap.size w X) => jnew_anyG A1 m1 c1 w.heap.size bs X (h1.below hX) hX.size hb (by omega)
  have HO1 := Lib.hid (fun (X : World) (hX : Below w.heap.size w X) => open_quick A1 m1 c1 w.heap.size bs X (h1.below hX) hX.size hb (by omega) (hT.bel hX))
  have HO2 := Lib.hid (fun (X : World) (hX : Below w.heap.size w X) => open_slow A1 m1 c1 w.heap.size bs X (h1.below hX) hX.size hb (by omega) (hT.bel hX))
  rw [show wholeF bs = ((jwF bs).xs, (jwF bs).er) from rfl] at hN hfew hye hri
  rw [show chunksN bs = (jwF bs).cn from rfl] at hcn
  generalize jwF bs = W at *
  generalize jnewF bs = s0 at *
  unfold RetItG at hN
  simp only at hN hfew hye hri
  have HFX : Hid (JFix W) := Lib.hid ⟨by omega, hye⟩
  have HRI : Hid (RiseQ W.xs) := Lib.hid hri
  have HXN : Hid (W.xs.length ≤ 100000) := Lib.hid (by omega)
  have HAT := Lib.hid hat
  have HT := Lib.hid hT
  clear hri hat hT hT1 hlen hcn hfew h1 hb
  go_wp2_with fail
  refine hN.mono ?_
  rintro e w2 ⟨g1, A3, c3, rfl, hg1, x1, q1, hb2, _⟩
  have hM2 := hM w2 (hb1.trans (hb2.mono hb1.size))
  clear hN hM
  go_wp2_with fail
  refine hM2.mono ?_
  rintro e w3 ⟨g2, rfl, hg2, hj3, hb3⟩
  have hD := duo_new HT.out hb1 hg1 x1 q1 hb2 (Nat.le_trans hb1.size hg1) hg2 hj3 HAT.out hb3
  have hf : DuoFix w W g1 g2 := ⟨Nat.le_trans hb1.size hg1, Nat.lt_of_lt_of_le x1.lt hg2, isErr_v _, HFX.out, HRI.out, HXN.out, q1.fit, HT.out.lt⟩
  have HFT := Lib.hid q1.fit
  have hB1 : g2 < g2 + 1 := Nat.lt_succ_self _
  have hS : AtTwin w w3 W g1 g2 (g2 + 1) (Duo g1 g2) (.slice none 0 0) [] (-1) false := ⟨hD.bel, hD.sc, hD.jp, RowS.nil_ _ _, (fun k e => by cases e), hD.inP hf⟩
  clear hM2 hD x1 q1 hb2 hg2 hj3 hb3 hb1 hg1 HAT
  obtain ⟨B1, hBB⟩ : ∃ B1, g2 + 1 = B1 := ⟨_, rfl⟩
  rw [hBB] at hB1 hS
  have HBB := Lib.hid hBB
  clear hBB
  go_wp2_with fail
  go_loopw [8, 9] (fun x8 x9 wr => ∃ (j : Nat) (P : Nat → Prop) (ss : List (Int × Int)) (a : Int) (d : Bool), j ≤ m2 ∧ x9 = .int .i64 j ∧ ss.length = 3 * j ∧ AtTwin w wr W g1 g2 B1 P x8 ss a d) (fun _ x9 _ => m2 - (intOf x9).toNat)
  case atStart => exact ⟨0, _, [], -1, false, Nat.zero_le _, rfl, rfl, hS⟩
  case round =>
    clear hS
    obtain ⟨j, P, ss, a, d, hj, rfl, hsl, hS⟩ := hrel
    have HSL := Lib.hid hsl
    clear hsl
    by_cases hlt : j < m2
    · obtain ⟨ad, what, t, rfl, hdc, hd1, _⟩ := h2.at_ hlt
      have hki2 : (j : Int) < (m2 : Int) := by omega
      have hdb : ad.block < w.heap.size := by
        obtain ⟨ad', e, hb, _⟩ := h2 (by omega)
        injection e with e
        rw [e]
        exact hb
      have HD0 := Lib.hid (fun (X : World) (hX : Below w.heap.size w X) => (hX.cell (p := ad.add (j * 2)) (by rw [add_block]; exact hdb)).trans hdc)
      have HDT := Lib.hid (fun (X : World) (hX : Below w.heap.size w X) => (hX.cell (p := ⟨(ad.add (j * 2)).block, (ad.add (j * 2)).off + 1, none⟩) (by show (ad.add (j * 2)).block < _; rw [add_block]; exact hdb)).trans hd1)
      clear hdc hd1 hdb
      have hd0 := HD0.out wr hS.bel
      have hdT := HDT.out wr hS.bel
      have hQ1 := slowly_in hf.xs what t hS.sc hS.inP
      go_wp2_with fail
      refine hQ1.mono ?_
      rintro e w4 ⟨ok, a1, rfl, hr1, hi4, hg4⟩
      have hb4 := below_far hS.bel hg4 hf.l1
      obtain ⟨k1, k2, k3⟩ := hS.step hf hB1 hg4 hi4
      have HK := Lib.hid k3
      have HR1 := Lib.hid hr1
      clear hQ1 hd0 hdT hr1 k3
      have hd0 := HD0.out w4 hb4
      have hdT := HDT.out w4 hb4
      have hQ2 := quickly_in hf.xj what t k1 k2
      clear hS hi4 hg4 hb4
      go_wp2_with fail
      refine hQ2.mono ?_
      rintro e w5 ⟨ok2, a2, rfl, hr2, hi5, hg5⟩
      obtain ⟨rfl, rfl⟩ := hr2.one HR1.out
      have hS5 := HK.out _ hg5 hi5
      clear hQ2 hr2 hi5 hg5 hd0 hdT HK HR1 k1 k2
      generalize (!ok2) = dd at *
      obtain ⟨lk, hlk⟩ : ∃ lk, lookQ W.xs a2 dd = lk := ⟨_, rfl⟩
      have hL1 := hf.xs.look hS5.sc
      rw [hlk] at hL1
      go_wp2_with fail
      refine hL1.mono ?_
      rintro e w6 ⟨rfl, hb6⟩
      have hS6 := hS5.go hf hb6
      have hL2 := hf.xj.look hS6.jp
      rw [hlk] at hL2
      clear hS5 hL1 hlk hb6
      go_wp2_with fail
      refine hL2.mono ?_
      rintro e w7 ⟨rfl, hb7⟩
      have hS7 := hS6.go hf hb7
      clear hS6 hL2 hb7
      obtain ⟨t1, v1⟩ := lk
      dsimp only
      go_upto_region 16 with fail
      go_cut [91] (fun x91 wx => x91 = .bool false ∧ AtTwin w wx W g1 g2 B1 P u8 ss a2 dd)
      case first =>
        -- DONE
        have hE1 := (er_scan W w.heap.size g1).err hS7.sc
        have hE2 := fun X (hX : AtTwin w X W g1 g2 B1 P u8 ss a2 dd) => (er_jump W w.heap.size g2).err hX.jp
        have hC := fun X => code_ev hye dd X
        obtain ⟨ev, hev⟩ : ∃ ev, (bif dd then errV W.er else .nilIface) = ev := ⟨_, rfl⟩
        obtain ⟨en, hen⟩ : ∃ en : Int, (bif dd then (W.er : Int) else 0) = en := ⟨_, rfl⟩
        rw [hev] at hE1 hE2 hC
        rw [hen] at hC
        clear hev hen
        go_wp2_with fail
        refine hE1.mono ?_
        rintro e w11 ⟨rfl, hb11⟩
        have hS11 := hS7.go hf hb11
        clear hE1 hS7 hb11
        go_wp2_with fail
        refine (hC _).mono ?_
        rintro e w12 ⟨rfl, rfl⟩
        go_wp2_with fail
        refine (hE2 _ hS11).mono ?_
        rintro e w12 ⟨rfl, hb12⟩
        have hS12 := hS11.go hf hb12
        clear hE2 hS11 hb12
        go_wp2_with fail
        refine (hC _).mono ?_
        rintro e w13 ⟨rfl, rfl⟩
        clear hC
        go_wp2
        go_meet
        exact ⟨by first | rfl | simp, hS12⟩
      case rest =>
      obtain ⟨rfl, hSc⟩ := hcut
      clear hS7
      have hd0 := HD0.out wc hSc.bel
      have hdT := HDT.out wc hSc.bel
      obtain ⟨qv, hq⟩ : ∃ qv, what % 3 = qv := ⟨_, rfl⟩
      have hpick := pick_any what 3 wc (by omega) (by omega)
      rw [hq] at hpick
      clear hq
      go_upto_region 19 with fail
      go_upto_if 98 with (go_at_call 23; refine hpick.mono ?_; rintro e w7 ⟨rfl, rfl⟩)
      go_cut [16] (fun x16 wx => (∃ op : Int, x16 = .int .i64 op) ∧ wx = wc)
      case first =>
        -- DONE
        cases (qv == 2)
        all_goals
          go_wp2
          go_meet
          exact ⟨⟨_, rfl⟩, rfl⟩
      case rest =>
      obtain ⟨⟨op, rfl⟩, rfl⟩ := hcut
      have hba : Below wc.heap.size wc (wc.alloc (.cells #[.int .i64 op, .int .i64 t, .int .i64 3, .int .i64 0, .int .i64 4, .int .i64 0] 41)) := (Below.refl _ _).alloc (Nat.le_refl _) _
      have hSa := hSc.go hf hba
      have hrow := hSa.row
      have hlen3 : ss.length + 3 ≤ 1073741824 := by
        rw [HSL.out]
        omega
      have hsz : B1 ≤ (wc.alloc (.cells #[.int .i64 op, .int .i64 t, .int .i64 3, .int .i64 0, .int .i64 4, .int .i64 0] 41)).heap.size := by
        rw [← HBB.out]
        exact hf.xj.lt hSa.jp
      clear hpick hSc
      go_wp2_with (at_builtin; (refine wpList_rowS rfl (.tmp 99) (.tmp 109) rfl rfl rfl hrow hsz (RdS.three wc op t) hlen3 ?_; intro v' w' hrow' hg' hat'))
      have hnx := hSa.laid hf hB1 hrow' hg' hat'
      go_roundw
      case rel => exact ⟨j + 1, _, _, a2, dd, by omega, by go_num, by rw [List.length_append, HSL.out]; simp; omega, hnx⟩
      case measure => simp [intOf]; omega
    · obtain rfl : j = m2 := by omega
      obtain ⟨As, cs, rfl⟩ := hS.row.form
      obtain ⟨n3, hn3⟩ : ∃ n3, ss.length = n3 := ⟨_, rfl⟩
      have hn300 : n3 ≤ 300 := by
        rw [← hn3, HSL.out]
        omega
      have hst := hS.row.rd
      rw [hn3] at hst hS ⊢
      have hR1 := run_any (ss := ss) (.slice A1 m1 c1) true As cs wr (fun g hg => it_jump W wr.heap.size g hg HFX.out (HT.out.lt.le hS.bel.size) HXN.out HFT.out) (fun g => er_jump W wr.heap.size g) hst (by omega) (HO1.out wr hS.bel)
      unfold RetRun at hR1
      have HB := Lib.hid hS.bel
      have HST := Lib.hid hst
      clear hS hst hn3
      go_wp2_with fail
      refine hR1.mono ?_
      rintro e w5 ⟨gp, rs, a5, d5, rfl, hrun1, hrep1, hb5⟩
      have hbw5 := HB.out.trans (hb5.mono HB.out.size)
      have hR2 := run_any (ss := ss) (.slice A1 m1 c1) false As cs w5 (fun g hg => it_scan W w5.heap.size g hg (isErr_v _) HRI.out HXN.out HFT.out) (fun g => er_scan W w5.heap.size g) ((HST.out.below hb5).more hb5.size) (by omega) (HO2.out w5 hbw5)
      unfold RetRun at hR2
      have HRUN := Lib.hid hrun1
      clear hR1 hrun1
      go_wp2_with fail
      refine hR2.mono ?_
      rintro e w6 ⟨gq, rs2, a6, d6, rfl, hrun2, hrep2, hb6⟩
      obtain ⟨rfl, _, _⟩ := hrun2.one HRUN.out
      have HRL : Hid (rs2.length = n3) := Lib.hid (by rw [hrun2.len, HST.out.len])
      have hrep3 := hrep1.below hb6
      have HBW := Lib.hid (hbw5.trans (hb6.mono hbw5.size))
      clear hR2 hrun2 hrep1 hb6 hb5 hbw5
      clear hf hB1 hye HO1 HO2 HFX HRI HXN HT HFT HB HRUN HST h2
      go_wp2_with fail
      go_loopw [21] (fun x21 wr => ∃ k : Nat, k ≤ n3 ∧ x21 = .int .i64 (k : Int) ∧ RepAt wr gp n3 rs2 ∧ RepAt wr gq n3 rs2 ∧ Below w.heap.size w wr) (fun x21 _ => n3 - (intOf x21).toNat)
      case atStart => exact ⟨0, Nat.zero_le _, rfl, hrep3, hrep2, HBW.out⟩
      case round =>
        clear hrep3 hrep2
        obtain ⟨k, hk, rfl, hp, hq, hbw⟩ := hrel
        by_cases hlt2 : k < n3
        · have hkr : k < rs2.length := by
            rw [HRL.out]
            exact hlt2
          have p0 := hp.c0 k hkr
          have p1 := hp.c1 k hkr
          have p2 := hp.c2 k hkr
          have p3 := hp.c3 k hkr
          have q0 := hq.c0 k hkr
          have q1 := hq.c1 k hkr
          have q2 := hq.c2 k hkr
          have q3 := hq.c3 k hkr
          generalize rs2.getD k rep0 = r at *
          obtain ⟨ok, t, v, c⟩ := r
          simp only at p0 p1 p2 p3 q0 q1 q2 q3
          have hki : (k : Int) < (n3 : Int) := by omega
          have qm := fun w => run_neq_rpy w ok t (v : Int) (c : Int)
          have mg := rpy_guard
          have HP := Lib.hid (And.intro hp (And.intro hq hbw))
          clear hp hq hbw hkr
          go_upto_region 29 with fail
          go_cut [157] (fun x157 wx => x157 = .bool false ∧ Below wr.heap.size wr wx)
          case first =>
            go_quiet (fail)
            go_wp2
            go_meet
            exact ⟨by rfl, by repeat (first | with_reducible exact Below.refl _ _ | with_reducible assumption | with_reducible refine Below.drew ?_ | with_reducible refine below_drewN ?_ _ | with_reducible refine Below.alloc ?_ (by (first | assumption | omega | (simp; done) | (simp; omega))) _ | with_reducible refine below_set ?_ (by (first | assumption | omega | (simp; done) | (simp; omega))) _ _)⟩
          case rest =>
          obtain ⟨rfl, hb⟩ := hcut
          obtain ⟨hp, hq, hbw⟩ := HP.out
          have HN := Lib.hid (And.intro (hp.below hb) (And.intro (hq.below hb) (hbw.trans (hb.mono hbw.size))))
          clear p0 p1 p2 p3 q0 q1 q2 q3 qm mg hp hq hbw hb
          go_wp2_with fail
          go_roundw
          case rel => exact ⟨k + 1, by omega, by go_num, HN.out.1, HN.out.2.1, HN.out.2.2⟩
          case measure => simp [intOf]; omega
        · obtain rfl : k = n3 := by omega
          go_wp2
          go_ret
          exact ⟨rfl, hbw⟩

theorem tboth_all (A1 A2 : Option Addr) (m1 c1 m2 c2 : Nat) (bs : List Nat) (w : World) (h1 : Rd w w.heap.size A1 m1 c1 bs) (hb : ∀ u ∈ bs, u < 256) (h2 : RdP w w.heap.size A2 m2) (hl : m1 ≤ 140737488355328 ∧ m2 ≤ 9223372036854775807) (hR : RoomW w) (hZ : RowsW w) (hT : TzW w) :
    Calls Tryz.prog 4 #[.slice A1 m1 c1, .slice A2 m2 c2] w (RetTrue w) := by
  by_cases hs : m1 ≤ 1500 ∧ m2 ≤ 100
  · exact tboth_in A1 A2 m1 c1 m2 c2 bs w h1 hb h2 hs.1 hs.2 ⟨hR, hZ, hT⟩
  · exact tboth_big A1 A2 m1 c1 m2 c2 bs w h1 hb hl (by omega) ⟨hR, hZ, hT⟩

end Go.Proofs.YtaebljoacffghaaGreatDoor
