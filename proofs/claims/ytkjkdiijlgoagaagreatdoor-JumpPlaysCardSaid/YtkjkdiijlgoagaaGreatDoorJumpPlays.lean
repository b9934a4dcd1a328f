/-
  JumpPlays, walked: it returns true, whatever the arguments.
-/
import Derived.Test.YtkjkdiijlgoagaaGreatDoorJmpUp
import Derived.Test.YtkjkdiijlgoagaaGreatDoorJmpA
import Derived.Test.YtkjkdiijlgoagaaGreatDoorJmpR
import Derived.Test.YtkjkdiijlgoagaaGreatDoorCurA
import Derived.Test.YtkjkdiijlgoagaaGreatDoorDeedA
import Derived.Deep.CutBlock
import Derived.Deep.RegionWith
namespace Go.Proofs.YtkjkdiijlgoagaaGreatDoor
open Go.RowKit

set_option maxRecDepth 20000 in
set_option maxHeartbeats 400000 in
theorem jplays_big (A1 A2 : Option Addr) (m1 c1 m2 c2 : Nat) (w : World) (hl : m1 ≤ 9223372036854775807 ∧ m2 ≤ 9223372036854775807) (h : 1500 < m1 ∨ (m1 ≤ 1500 ∧ 100 < m2)) (hT : TabsW w) :
    Calls Tryz.prog 3 #[.slice A1 m1 c1, .slice A2 m2 c2] w (RetTrue w) := by
  have hu := up19_any w hT
  unfold RetTrue at hu
  rcases h with h | h
  all_goals
    go_enter Tryz.func3, Tryz.ntmps3
    go_wp2_with (go_at_call 5; refine hu.mono ?_; rintro e w1 ⟨rfl, hb1⟩)
    go_ret
    exact ⟨rfl, hb1⟩

/-- both boxes' blocks -/
def P2 (g1 g2 : Nat) : Nat → Prop := fun k => k = g1 ∨ k = g2
/-- the iterator and the reference's cursor, both at one place of what the bytes mean -/
structure AtJump (w0 wr : World) (W : JW) (g1 g2 : Nat) (A2 A5 : Option Addr) (N c2 M c5 : Nat) (s : JS) (a : Int) (d : Bool) : Prop where
  bel : Below w0.heap.size w0 wr
  at_ : StandsAt N a
  jat : JAt W s a d
  it : JIn (P2 g1 g2) wr g1 s
  ref : BoxL wr g2 [.slice A2 N c2, .int .i64 (W.er : Int), .int .i64 a, .bool d]
  q2 : RdQ wr g2 A2 N c2 W.xs
  z5 : RdZ wr g2 A5 M c5 W.ends
section
variable {w0 w w' : World} {W : JW} {g1 g2 N c2 M c5 : Nat} {A2 A5 : Option Addr} {s s' : JS} {a a' : Int} {d d' : Bool}
theorem AtJump.lt1 (h : AtJump w0 w W g1 g2 A2 A5 N c2 M c5 s a d) : g1 < w.heap.size := by
  obtain ⟨_, _, _, _, _, _, h1⟩ := h.it
  exact h1.box.lt
theorem AtJump.p2 (h : AtJump w0 w W g1 g2 A2 A5 N c2 M c5 s a d) : ∀ k, P2 g1 g2 k → k < w.heap.size := by
  have h1 := h.lt1
  have h2 := h.ref.lt
  rintro k (rfl | rfl)
  · exact h1
  · exact h2
theorem AtJump.go (h : AtJump w0 w W g1 g2 A2 A5 N c2 M c5 s a d) (hb : Below w.heap.size w w') : AtJump w0 w' W g1 g2 A2 A5 N c2 M c5 s a d :=
  ⟨h.bel.trans (hb.mono h.bel.size), h.at_, h.jat, h.it.below hb, h.ref.below hb, h.q2.below (hb.mono (Nat.le_of_lt h.ref.lt)), h.z5.below (hb.mono (Nat.le_of_lt h.ref.lt))⟩
/-- a step of the iterator: what the reference's step wants, and what it leaves behind it -/
theorem AtJump.step (h : AtJump w0 w W g1 g2 A2 A5 N c2 M c5 s a d) (hg : w0.heap.size ≤ g1) (h12 : g1 < g2) (hP : (∀ ad, A2 = some ad → ad.block ≠ g1) ∧ (∀ ad, A5 = some ad → ad.block ≠ g1)) (hg1 : w.grownBy w' (some g1)) (hj : JIn (P2 g1 g2) w' g1 s') (ha : JAt W s' a' d') :
    Below w0.heap.size w0 w' ∧ BoxL w' g2 [.slice A2 N c2, .int .i64 (W.er : Int), .int .i64 a, .bool d] ∧ RdQ w' g2 A2 N c2 W.xs ∧
    (∀ w2, Below g2 w' w2 → w'.grownBy w2 (some g2) → BoxL w2 g2 [.slice A2 N c2, .int .i64 (W.er : Int), .int .i64 a', .bool d'] → StandsAt N a' → AtJump w0 w2 W g1 g2 A2 A5 N c2 M c5 s' a' d') := by
  have hb0 := below_far h.bel hg1 hg
  have y2 := h.ref.grown hg1 (fun e => by injection e with e; omega)
  have z2 := h.q2.farN hg1 (fun ad e e' => hP.1 ad e (by injection e' with e'; exact e'.symm))
  have z5 := h.z5.farN hg1 (fun ad e e' => hP.2 ad e (by injection e' with e'; exact e'.symm))
  exact ⟨hb0, y2, z2, fun w2 hb2 hg2 x2 hs => ⟨hb0.trans (hb2.mono (by omega)), hs, ha, hj.far hg2 (.inr rfl) (by omega), x2, z2.below hb2, z5.below hb2⟩⟩
end

/-- how far the law's own count comes, ahead of the last step -/
def gone (s : JS) (a : Int) (d : Bool) : Nat := if d = true ∨ a < 0 then 0 else s.ck - 1
theorem JAt.gone_ {W : JW} {s : JS} {a : Int} {d : Bool} (h : JAt W s a d) (hd : d = false) (h0 : 0 ≤ a) : gone s a d + 1 = s.ck ∧ gone s a d < W.ends.length ∧ (∀ i, i < gone s a d → (W.ends.getD i 0 : Int) ≤ a) ∧ a < (W.ends.getD (gone s a d) 0 : Int) := by
  obtain ⟨h1, h2, h3, h4⟩ := (h.count.2 hd).2 h0
  have e : gone s a d = s.ck - 1 := by unfold gone; rw [if_neg (by rw [hd]; simp; omega)]
  rw [e]
  exact ⟨by omega, by omega, fun i hi => h3 i (by omega), h4⟩

set_option maxRecDepth 20000 in
set_option maxHeartbeats 4000000 in
theorem jplays_in (A1 A2 : Option Addr) (m1 c1 m2 c2 : Nat) (bs : List Nat) (w : World) (h1 : Rd w w.heap.size A1 m1 c1 bs) (hb : ∀ u ∈ bs, u < 256) (h2 : RdP w w.heap.size A2 m2) (hm1 : m1 ≤ 1500) (hm2 : m2 ≤ 100) (hT : TabsW w) :
    Calls Tryz.prog 3 #[.slice A1 m1 c1, .slice A2 m2 c2] w (RetTrue w) := by
  have hu := up19_any w hT
  unfold RetTrue at hu
  have hfew := wholeF_few hb
  have hye := wholeF_le (bs := bs)
  have hri := wholeF_rises hb
  have hlen := h1.len
  have hcn := chunks_few hb (by omega)
  have hef := ends_few bs
  have hat := jnew_at hb (by omega)
  rw [h1.len] at hfew
  go_enter Tryz.func3, Tryz.ntmps3
  go_wp2_with fail
  refine hu.mono ?_
  rintro e w1 ⟨rfl, hb1⟩
  clear hu
  have hN := jnew_any A1 m1 c1 w.heap.size bs w1 (h1.below hb1) hb1.size hb (by omega)
  have hV := fun (X : World) (hX : Below w.heap.size w X) => rwhole_any A1 m1 c1 w.heap.size bs X (h1.below hX) hX.size hb (by omega)
  have hCh := fun (X : World) (hX : Below w.heap.size w X) => rchunks_any A1 m1 c1 w.heap.size bs X (h1.below hX) hX.size hb (by omega)
  rw [show wholeF bs = ((jwF bs).xs, (jwF bs).er) from rfl] at hV hfew hye hri
  rw [show wholeN bs = (jwF bs).ends from rfl] at hV hef
  rw [show chunksN bs = (jwF bs).cn from rfl] at hef hcn hCh
  generalize jwF bs = W at *
  generalize jnewF bs = s0 at *
  unfold RetRWh at hV
  simp only at hV hfew hye hri
  obtain ⟨N, hNL⟩ : ∃ N, W.xs.length = N := ⟨_, rfl⟩
  obtain ⟨M, hML⟩ : ∃ M, W.ends.length = M := ⟨_, rfl⟩
  rw [hNL] at hV hfew
  rw [hML] at hV hef
  have HL := Lib.hid hNL
  have HM := Lib.hid hML
  have HRI : Hid (RiseQ W.xs) := Lib.hid hri
  have HFX : Hid (JFix W) := Lib.hid ⟨by omega, hye⟩
  have HAT := Lib.hid hat
  have HCH := Lib.hid hCh
  have HCN := Lib.hid (And.intro hef hcn)
  have HT := Lib.hid hT
  clear hNL hML hri hat hCh hT hlen
  have hn100 : N ≤ 100000 := by omega
  have hm100 : M ≤ 100000 := by omega
  clear hef hcn
  go_wp2_with fail
  refine hN.mono ?_
  rintro e w2 ⟨g1, rfl, hg1, j1, hb2⟩
  replace hb2 := hb1.trans (hb2.mono hb1.size)
  have hgw : w.heap.size ≤ g1 := Nat.le_trans hb1.size hg1
  have hlt1 : g1 < w2.heap.size := by
    obtain ⟨_, _, _, _, _, _, h⟩ := j1
    exact h.box.lt
  clear hN hb1 hg1
  go_wp2_with fail
  refine (hV w2 hb2).mono ?_
  rintro e w3 ⟨A4, c4, A5, c5, rfl, ho3, hz3⟩
  have q2 := ho3.rd
  have hpast := ho3.past
  obtain ⟨z5, hpast5⟩ := hz3.rd
  have hb3 := ho3.bel
  clear hV ho3 hz3
  replace j1 := j1.below hb3
  have hb4 := hb2.trans (hb3.mono hb2.size)
  have hs3 := hb3.size
  clear hb3
  go_wp2_with fail
  refine (rcur_new A4 N c4 (W.er : Int) w3).mono ?_
  rintro e w4 ⟨rfl, x2, hb5⟩
  have hgg : g1 < w3.heap.size := by omega
  have hS : AtJump w w4 W g1 w3.heap.size A4 A5 N c4 M c5 s0 (-1) false := ⟨hb4.trans (hb5.mono hb4.size), ⟨by omega, by omega⟩, HAT.out, (j1.also (Q := P2 g1 w3.heap.size) (fun k hk hlt => by
    rcases hk with rfl | rfl
    · rfl
    · omega) (.inl rfl)).below hb5, x2, q2.below hb5, z5.below hb5⟩
  have HP : Hid ((∀ ad, A4 = some ad → ad.block ≠ g1) ∧ (∀ ad, A5 = some ad → ad.block ≠ g1)) := Lib.hid ⟨fun ad e => by have := hpast ad e; omega, fun ad e => by have := hpast5 ad e; omega⟩
  have HTL : Hid (TabsLt g1) := Lib.hid (HT.out.lt.le hgw)
  clear j1 x2 q2 z5 hb5 hb4 hpast hpast5 hb2 hs3 hlt1
  generalize w3.heap.size = g2 at *
  go_wp2_with fail
  go_loopw [11] (fun x11 wr => ∃ (k : Nat) (s : JS) (a : Int) (d : Bool), k ≤ m2 ∧ x11 = .int .i64 k ∧ AtJump w wr W g1 g2 A4 A5 N c4 M c5 s a d) (fun x11 _ => m2 - (intOf x11).toNat)
  case atStart => exact ⟨0, s0, -1, false, Nat.zero_le _, rfl, hS⟩
  case round =>
    clear hS
    obtain ⟨k, s, a, d, hk, rfl, hS⟩ := hrel
    have hki : (k : Int) ≤ (m2 : Int) := by omega
    obtain ⟨lk, hlk⟩ : ∃ lk, lookQ W.xs a d = lk := ⟨_, rfl⟩
    have hL1 := jat_any _ W g1 s a d wr hS.it hS.jat
    rw [hlk] at hL1
    go_wp2_with fail
    refine hL1.mono ?_
    rintro e w5 ⟨rfl, hb5⟩
    have hS5 := hS.go hb5
    have hL2 := rcur_look g2 g2 A4 N c4 W.xs (W.er : Int) a d w5 hS5.ref hS5.at_ hS5.q2
    rw [hlk] at hL2
    clear hS hL1 hlk hb5
    go_wp2_with fail
    refine hL2.mono ?_
    rintro e w6 ⟨rfl, hb6⟩
    have hS6 := hS5.go hb6
    clear hS5 hL2 hb6
    obtain ⟨t1, v1⟩ := lk
    dsimp only
    go_upto_block 2 with fail
    go_cut [16] (fun x16 wx => x16 = .int .i64 ((gone s a d : Nat) : Int) ∧ AtJump w wx W g1 g2 A4 A5 N c4 M c5 s a d)
    case first =>
      have HS6 := Lib.hid hS6
      obtain ⟨u0, u1, u2, u3⟩ := hS6.ref.get4c
      have hz5 := hS6.z5
      have hgn := hS6.jat.gone_
      have hg0 : d = true ∨ a < 0 → gone s a d = 0 := fun h => by unfold gone; rw [if_pos h]
      generalize gone s a d = q at *
      clear hS6
      cases d with
      | true =>
        obtain rfl := hg0 (.inl rfl)
        clear hgn hz5 hg0
        go_wp2_with fail
        go_loopw [16] (fun x16 wx => ∃ n, x16 = .int .i64 0 ∧ wx = w6.drewN n) (fun _ _ => 0)
        case atStart => exact ⟨0, rfl, rfl⟩
        case round =>
          obtain ⟨nn, rfl, rfl⟩ := hrel
          by_cases h0 : 0 ≤ a
          all_goals
            go_upto_region 15 with fail
            go_quiet (fail)
            go_wp2_with fail
            go_meet
            exact ⟨rfl, HS6.out.go (by first | exact below_drewN (Below.refl _ _) _ | exact below_drewN (below_drewN (Below.refl _ _) _) _)⟩
      | false =>
        by_cases h0 : 0 ≤ a
        · obtain ⟨hg1, hg2, hg3, hg4⟩ := hgn rfl h0
          have HG := Lib.hid (And.intro hg3 hg4)
          rw [HM.out] at hg2
          have HC1 := Lib.hid hg1
          clear hg0 hgn hg3 hg4 hg1
          go_wp2_with fail
          go_loopw [16] (fun x16 wx => ∃ (c n : Nat), x16 = .int .i64 (c : Int) ∧ c ≤ q ∧ wx = w6.drewN n) (fun x16 _ => q - (intOf x16).toNat)
          case atStart => exact ⟨0, 0, rfl, Nat.zero_le _, rfl⟩
          case round =>
            obtain ⟨c, nn, rfl, hcq, rfl⟩ := hrel
            have hcM : c < M := by omega
            have hcMi : (c : Int) < (M : Int) := by omega
            obtain ⟨ad5, rfl, _, hcell⟩ := hz5.cell (by omega)
            have hc5 := hcell c hcM
            have HCX := Lib.hid (HG.out.1 c)
            have HCY := Lib.hid HG.out.2
            by_cases hlt : c < q
            · have hle : ((W.ends.getD c 0 : Nat) : Int) ≤ a := HCX.out hlt
              generalize ((W.ends.getD c 0 : Nat) : Int) = x at *
              have hle2 : ¬ a < x := by omega
              clear hcell hz5
              go_upto_region 15 with fail
              go_quiet (fail)
              go_wp2_with fail
              go_roundw
              case rel => exact ⟨c + 1, nn + nq, by go_num, by omega, rfl⟩
              case measure => simp [intOf]; omega
            · obtain rfl : c = q := by omega
              have hle := HCY.out
              generalize ((W.ends.getD c 0 : Nat) : Int) = x at *
              have hle2 : ¬ x ≤ a := by omega
              clear hcell hz5
              go_upto_region 15 with fail
              go_quiet (fail)
              go_wp2_with fail
              go_meet
              exact ⟨rfl, HS6.out.go (by first | exact below_drewN (Below.refl _ _) _ | exact below_drewN (below_drewN (Below.refl _ _) _) _)⟩
        · obtain rfl := hg0 (.inr (by omega))
          clear hgn hz5 hg0
          go_wp2_with fail
          go_loopw [16] (fun x16 wx => ∃ n, x16 = .int .i64 0 ∧ wx = w6.drewN n) (fun _ _ => 0)
          case atStart => exact ⟨0, rfl, rfl⟩
          case round =>
            obtain ⟨nn, rfl, rfl⟩ := hrel
            have h0' : decide ((0 : Int) ≤ a) = false := decide_eq_false (by omega)
            go_upto_region 15 with fail
            go_quiet (fail)
            go_wp2_with fail
            go_meet
            exact ⟨rfl, HS6.out.go (by first | exact below_drewN (Below.refl _ _) _ | exact below_drewN (below_drewN (Below.refl _ _) _) _)⟩
    case rest =>
      obtain ⟨rfl, hS7⟩ := hcut
      clear hS6
      have hck := (hS7.jat.may HFX.out.cn HFX.out.er).ck
      have hgl : gone s a d ≤ 100000 := by unfold gone; split <;> omega
      have HG1 := Lib.hid hS7.jat.gone_
      have HG0 := Lib.hid hS7.jat.count
      obtain ⟨q, hq⟩ : ∃ q, gone s a d = q := ⟨_, rfl⟩
      rw [hq] at hgl HG1 ⊢
      have HQ0 : Hid (a < 0 → q = 0) := Lib.hid (fun h => by rw [← hq]; unfold gone; rw [if_pos (.inr h)])
      clear hck hq
      obtain ⟨u0, u1, u2, u3⟩ := hS7.ref.get4c
      go_upto_region 17 with fail
      go_upto_if 87 with fail
      go_cut [16] (fun x16 wx => ∃ q2 : Nat, x16 = .int .i64 (q2 : Int) ∧ (d = false → q2 = s.ck) ∧ wx = wc)
      case first =>
        by_cases h0 : 0 ≤ a
        · go_wp2_with fail
          go_meet
          exact ⟨q + 1, by go_num, fun hd => (HG1.out hd h0).1, rfl⟩
        · have h0' : a < 0 := by omega
          go_wp2_with fail
          go_meet
          exact ⟨q, rfl, fun hd => by rw [HQ0.out h0', (HG0.out.2 hd).1 h0'], rfl⟩
      case rest =>
        obtain ⟨q2, rfl, hq2, hwc⟩ := hcut
        subst hwc
        clear hgl
        have HQ2 := Lib.hid hq2
        clear hq2
        have hCh := HCH.out wc hS7.bel
        go_upto_region 19 with fail
        go_upto_if 93 with fail
        go_cut [16] (fun x16 wx => x16 = .int .i64 ((s.ck : Nat) : Int) ∧ AtJump w wx W g1 g2 A4 A5 N c4 M c5 s a d)
        case first =>
          have HS7 := Lib.hid hS7
          clear hS7
          cases d
          · have HQ3 : Hid (q2 = s.ck) := Lib.hid (HQ2.out rfl)
            clear hCh HQ2
            go_wp2_with fail
            go_meet
            exact ⟨by rw [HQ3.out], HS7.out⟩
          · have hcM := HCN.out
            have hck := HG0.out.1 rfl
            rw [HM.out] at hck
            have HCK := Lib.hid hck
            clear hck
            generalize W.cn = cn at *
            go_wp2_with fail
            refine hCh.mono ?_
            rintro e w8 ⟨rfl, hb8⟩
            go_wp2_with fail
            all_goals
              go_meet
              exact ⟨congrArg (Value.int .i64) (by have := HCK.out; omega), HS7.out.go hb8⟩
        case rest =>
          obtain ⟨rfl, hS8⟩ := hcut
          clear hS7 hCh u0 u1 u2 u3 HQ2 HQ0 HG1
          go_upto_region 21 with fail
          go_cut [121] (fun x121 wx => x121 = .bool false ∧ AtJump w wx W g1 g2 A4 A5 N c4 M c5 s a d)
          case first =>
            have hE := jerr_any _ W g1 s a d wc hS8.it hS8.jat
            have hC := fun X => code_ev hye d X
            have hM := fun X (hX : AtJump w X W g1 g2 A4 A5 N c4 M c5 s a d) => rcur_err g2 A4 N c4 (W.er : Int) a d X hX.ref
            have hK := fun X (hX : AtJump w X W g1 g2 A4 A5 N c4 M c5 s a d) => jck_any _ g1 s X hX.it
            obtain ⟨ev, hev⟩ : ∃ ev, (bif d then errV W.er else .nilIface) = ev := ⟨_, rfl⟩
            obtain ⟨en, hen⟩ : ∃ en : Int, (bif d then (W.er : Int) else 0) = en := ⟨_, rfl⟩
            rw [hev] at hE hC
            rw [hen] at hM hC
            clear hev hen
            generalize (s.ck : Int) = ck at *
            go_wp2_with fail
            refine hE.mono ?_
            rintro e w7 ⟨rfl, hb7⟩
            have hS9 := hS8.go hb7
            clear hE hS8 hb7
            go_wp2_with fail
            refine (hC _).mono ?_
            rintro e w8 ⟨rfl, rfl⟩
            go_wp2_with fail
            refine (hM _ hS9).mono ?_
            rintro e w8 ⟨rfl, hb8⟩
            have hS10 := hS9.go hb8
            clear hM hC hS9 hb8
            go_wp2_with fail
            refine (hK _ hS10).mono ?_
            rintro e w8 ⟨rfl, hb8⟩
            have hS11 := hS10.go hb8
            clear hK hS10 hb8
            go_wp2
            go_meet
            exact ⟨by first | rfl | simp, hS11⟩
          case rest =>
            obtain ⟨rfl, hSc⟩ := hcut
            clear hS8
            by_cases hlt : k < m2
            · obtain ⟨ad, what, t, rfl, hdc, hd1, _⟩ := h2.at_ hlt
              have hki2 : (k : Int) < (m2 : Int) := by omega
              have hkn : ((k : Int) == (m2 : Int)) = false := by simp; omega
              have hdb : ad.block < w.heap.size := by
                obtain ⟨ad', e, hb, _⟩ := h2 (by omega)
                injection e with e
                rw [e]
                exact hb
              have hd0 := (hSc.bel.cell (p := ad.add (k * 2)) (by rw [add_block]; exact hdb)).trans hdc
              have HDT := Lib.hid (fun (X : World) (hX : Below w.heap.size w X) => (hX.cell (p := ⟨(ad.add (k * 2)).block, (ad.add (k * 2)).off + 1, none⟩) (by show (ad.add (k * 2)).block < _; rw [add_block]; exact hdb)).trans hd1)
              clear hdc hd1 hdb
              have hdT := HDT.out wc hSc.bel
              obtain ⟨qv, hq⟩ : ∃ qv, what % 3 = qv := ⟨_, rfl⟩
              have hpick := pick_any what 3 wc (by omega) (by omega)
              rw [hq] at hpick
              clear hq
              go_upto_region 26 with fail
              go_upto_if 132 with (go_at_call 16; refine hpick.mono ?_; rintro e w7 ⟨rfl, rfl⟩)
              clear hpick
              go_cut [17, 18] (fun x17 x18 wx => ∃ (ok : Bool) (s' : JS) (a' : Int), x17 = .bool ok ∧ x18 = .bool ok ∧ AtJump w wx W g1 g2 A4 A5 N c4 M c5 s' a' (!ok))
              case first =>
                by_cases hq2 : qv = 2
                · subst hq2
                  have hSk := jseek_any _ W g1 s a t d wc hSc.it hSc.p2 (HT.out.bel hSc.bel) HTL.out hSc.jat HFX.out (by rw [HL.out]; exact hSc.at_.2)
                  go_wp2_with fail
                  refine hSk.mono ?_
                  rintro e w8 ⟨ok, a', s', rfl, hr, hj8, hi8, hg8, _⟩
                  obtain ⟨hB8, x8, q8, hS9⟩ := hSc.step hgw hgg HP.out hg8 hi8 hj8
                  have hT8 := HDT.out w8 hB8
                  have hS2 := rcur_seekG g2 g2 A4 N c4 W.xs (W.er : Int) a t d w8 x8 hSc.at_ hn100 q8
                  clear hSk hd0 hdT x8 q8 hB8 hj8 hi8 hg8
                  go_wp2_with fail
                  refine hS2.mono ?_
                  rintro e w10 ⟨ok2, a2, rfl, hr2, x10, hb10, hg10⟩
                  obtain ⟨rfl, rfl⟩ := hr.one hr2
                  have hsa2 : StandsAt N a' := by have := hr.stands (by rw [HL.out]; exact hSc.at_); rwa [HL.out] at this
                  have hS11 := hS9 _ hb10 hg10 x10 hsa2
                  clear hS2 hT8 hS9
                  go_wp2
                  go_meet
                  exact ⟨ok, s', a', rfl, rfl, hS11⟩
                · have hq3 : (qv == 2) = false := by simp [hq2]
                  have hN1 := jnext_any _ W g1 s a d wc hSc.it hSc.p2 (HT.out.bel hSc.bel) hSc.jat HFX.out
                  rw [HL.out] at hN1
                  go_wp2_with fail
                  refine hN1.mono ?_
                  rintro e w8 ⟨ok, a', s', rfl, hr, hj8, hi8, hg8, _⟩
                  obtain ⟨hB8, x8, q8, hS9⟩ := hSc.step hgw hgg HP.out hg8 hi8 hj8
                  have hN2 := rcur_nextG g2 A4 N c4 (W.er : Int) a d w8 x8 hSc.at_ hn100
                  clear hN1 hd0 hdT x8 q8 hB8 hj8 hi8 hg8
                  go_wp2_with fail
                  refine hN2.mono ?_
                  rintro e w10 ⟨ok2, a2, rfl, hr2, x10, hb10, hg10⟩
                  obtain ⟨rfl, rfl⟩ := hr.one hr2
                  have hsa2 : StandsAt N a' := hr.stands hSc.at_
                  have hS11 := hS9 _ hb10 hg10 x10 hsa2
                  clear hN2 hS9
                  go_wp2
                  go_meet
                  exact ⟨ok, s', a', rfl, rfl, hS11⟩
              case rest =>
                obtain ⟨ok, s', a', rfl, rfl, hS11⟩ := hcut
                clear hSc hd0 hdT
                go_wp2
                go_roundw
                case rel => exact ⟨k + 1, s', a', !ok, by omega, by go_num, hS11⟩
                case measure => simp [intOf]; omega
            · obtain rfl : k = m2 := by omega
              go_wp2
              go_ret
              exact ⟨rfl, hSc.bel⟩

theorem jplays_all (A1 A2 : Option Addr) (m1 c1 m2 c2 : Nat) (bs : List Nat) (w : World) (h1 : Rd w w.heap.size A1 m1 c1 bs) (hb : ∀ u ∈ bs, u < 256) (h2 : RdP w w.heap.size A2 m2) (hl : m1 ≤ 9223372036854775807 ∧ m2 ≤ 9223372036854775807) (hR : RoomW w) (hZ : RowsW w) (hT : TzW w) :
    Calls Tryz.prog 3 #[.slice A1 m1 c1, .slice A2 m2 c2] w (RetTrue w) := by
  by_cases hs : m1 ≤ 1500 ∧ m2 ≤ 100
  · exact jplays_in A1 A2 m1 c1 m2 c2 bs w h1 hb h2 hs.1 hs.2 ⟨hR, hZ, hT⟩
  · exact jplays_big A1 A2 m1 c1 m2 c2 w hl (by omega) ⟨hR, hZ, hT⟩

end Go.Proofs.YtkjkdiijlgoagaaGreatDoor
