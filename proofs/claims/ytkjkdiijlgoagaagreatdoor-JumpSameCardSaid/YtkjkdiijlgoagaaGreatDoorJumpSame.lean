/-
  JumpSame, walked: it returns true, whatever the arguments.
-/
import Derived.Test.YtkjkdiijlgoagaaGreatDoorJmpUp
import Derived.Test.YtkjkdiijlgoagaaGreatDoorJmpA
import Derived.Test.YtkjkdiijlgoagaaGreatDoorScanNew
import Derived.Test.YtkjkdiijlgoagaaGreatDoorPackA
import Derived.Test.YtkjkdiijlgoagaaGreatDoorCurA
import Derived.Test.YtkjkdiijlgoagaaGreatDoorDeedA
import Derived.Laws.BitsAllLaws
import Derived.Deep.CutBlock
import Derived.Deep.RegionWith
namespace Go.Proofs.YtkjkdiijlgoagaaGreatDoor
open Go.RowKit

theorem jxor_byte {x y : Nat} (hx : x < 256) (hy : y < 256) : x ^^^ y < 256 := Nat.xor_lt_two_pow (n := 8) hx hy
theorem jset_byte {bs : List Nat} (hb : ∀ x ∈ bs, x < 256) (k : Nat) {v : Nat} (hv : v < 256) : ∀ x ∈ bs.set k v, x < 256 := by
  intro x hx
  rcases List.mem_or_eq_of_mem_set hx with h | rfl
  · exact hb x h
  · exact hv
theorem jblock_pos (k s : Nat) (xs : List (Int × Nat)) : 1 ≤ (blockB k s xs).length := by
  simp only [blockB, idxB, headB, List.length_append, List.length_cons]
  omega

set_option maxRecDepth 20000 in
set_option maxHeartbeats 1000000 in
theorem jsame_big (i : Bool) (A1 A2 : Option Addr) (m1 c1 m2 c2 : Nat) (s t : Int) (by_ : Nat) (w : World) (_hl : m1 ≤ 9223372036854775807 ∧ m2 ≤ 9223372036854775807) (h : 100 < m1 ∨ (m1 ≤ 100 ∧ 100 < m2)) (hT : TabsW w) :
    Calls Tryz.prog 4 #[.bool i, .slice A1 m1 c1, .int .i64 s, .int .i64 t, .int .u8 (by_ : Int), .slice A2 m2 c2] w (RetTrue w) := by
  have hu := up19_any w hT
  unfold RetTrue at hu
  rcases h with h | h
  all_goals
    go_enter Tryz.func4, Tryz.ntmps4
    go_wp2_with (go_at_call 5; refine hu.mono ?_; rintro e w1 ⟨rfl, hb1⟩)
    go_ret
    exact ⟨rfl, hb1⟩

/-- both boxes' blocks -/
def Q2 (g1 g2 : Nat) : Nat → Prop := fun k => k = g1 ∨ k = g2
/-- layer 19's iterator and layer 18's, both at one place of what the bytes mean -/
structure AtBoth (w0 wr : World) (W : JW) (g1 g2 : Nat) (A2 : Option Addr) (N c2 : Nat) (s : JS) (a : Int) (d : Bool) : Prop where
  bel : Below w0.heap.size w0 wr
  at_ : StandsAt N a
  jat : JAt W s a d
  it : JIn (Q2 g1 g2) wr g1 s
  sc : BoxL wr g2 [.slice A2 N c2, errV W.er, .int .i64 a, .bool d]
  q2 : RdQ wr g2 A2 N c2 W.xs
section
variable {w0 w w' : World} {W : JW} {g1 g2 N c2 : Nat} {A2 : Option Addr} {s s' : JS} {a a' : Int} {d d' : Bool}
theorem AtBoth.lt1 (h : AtBoth w0 w W g1 g2 A2 N c2 s a d) : g1 < w.heap.size := by
  obtain ⟨_, _, _, _, _, _, h1⟩ := h.it
  exact h1.box.lt
theorem AtBoth.p2 (h : AtBoth w0 w W g1 g2 A2 N c2 s a d) : ∀ k, Q2 g1 g2 k → k < w.heap.size := by
  have h1 := h.lt1
  have h2 := h.sc.lt
  rintro k (rfl | rfl)
  · exact h1
  · exact h2
theorem AtBoth.go (h : AtBoth w0 w W g1 g2 A2 N c2 s a d) (hb : Below w.heap.size w w') : AtBoth w0 w' W g1 g2 A2 N c2 s a d :=
  ⟨h.bel.trans (hb.mono h.bel.size), h.at_, h.jat, h.it.below hb, h.sc.below hb, h.q2.below (hb.mono (Nat.le_of_lt h.sc.lt))⟩
/-- a step of layer 19's iterator: what the other one's step wants, and what it leaves behind it -/
theorem AtBoth.step (h : AtBoth w0 w W g1 g2 A2 N c2 s a d) (hg : w0.heap.size ≤ g1) (h12 : g1 < g2) (hP : ∀ ad, A2 = some ad → ad.block ≠ g1) (hg1 : w.grownBy w' (some g1)) (hj : JIn (Q2 g1 g2) w' g1 s') (ha : JAt W s' a' d') :
    Below w0.heap.size w0 w' ∧ BoxL w' g2 [.slice A2 N c2, errV W.er, .int .i64 a, .bool d] ∧ RdQ w' g2 A2 N c2 W.xs ∧
    (∀ w2 V, Below w'.heap.size w' V → w2 = ((((V.setCell ⟨g2, 0, none⟩ (.slice A2 N c2)).setCell ⟨g2, 1, none⟩ (errV W.er)).setCell ⟨g2, 2, none⟩ (.int .i64 a')).setCell ⟨g2, 3, none⟩ (.bool d')) → StandsAt N a' → AtBoth w0 w2 W g1 g2 A2 N c2 s' a' d') := by
  have hb0 := below_far h.bel hg1 hg
  have y2 := h.sc.grown hg1 (fun e => by injection e with e; omega)
  have z2 := h.q2.farN hg1 (fun ad e e' => hP ad e (by injection e' with e'; exact e'.symm))
  refine ⟨hb0, y2, z2, fun w2 V hV hw hs => ?_⟩
  have hg2 : w'.grownBy w2 (some g2) := by
    rw [hw]
    exact ((((grown_below hV (some g2)).trans (only_set _ g2 0 _)).trans (only_set _ g2 1 _)).trans (only_set _ g2 2 _)).trans (only_set _ g2 3 _)
  have hb2 : Below g2 w' w2 := by
    rw [hw]
    exact below_set4c (hV.mono (Nat.le_of_lt y2.lt)) (Nat.le_refl _) _ _ _ _
  exact ⟨hb0.trans (hb2.mono (by omega)), hs, ha, hj.far hg2 (.inr rfl) (by omega), by rw [hw]; exact y2.step hV, z2.below hb2⟩
end

set_option maxRecDepth 20000 in
set_option maxHeartbeats 8000000 in
theorem jsame_in (i : Bool) (A1 A2 : Option Addr) (m1 c1 m2 c2 : Nat) (s t : Int) (by_ : Nat) (xs : List (Int × Nat)) (w : World) (hby : by_ ≤ 255) (h1 : RdQ w w.heap.size A1 m1 c1 xs) (h2 : RdP w w.heap.size A2 m2) (hm1 : m1 ≤ 100) (hm2 : m2 ≤ 100) (hT : TabsW w) :
    Calls Tryz.prog 4 #[.bool i, .slice A1 m1 c1, .int .i64 s, .int .i64 t, .int .u8 (by_ : Int), .slice A2 m2 c2] w (RetTrue w) := by
  have hu := up19_any w hT
  unfold RetTrue at hu
  go_enter Tryz.func4, Tryz.ntmps4
  go_wp2_with fail
  refine hu.mono ?_
  rintro e w1 ⟨rfl, hb1⟩
  clear hu
  obtain ⟨k, hkk⟩ : ∃ k : Nat, k = if i then 2 else 1 := ⟨_, rfl⟩
  have hk : k = 1 ∨ k = 2 := by rw [hkk]; cases i <;> simp
  go_upto_if 38 with fail
  go_cut [14] (fun x wx => x = .int .i64 (k : Int) ∧ wx = w1)
  case first =>
    cases i
    all_goals
      subst hkk
      go_wp2_with fail
      go_meet
      exact ⟨rfl, rfl⟩
  case rest =>
  obtain ⟨rfl, rfl⟩ := hcut
  rename World => w1
  clear hkk
  go_wp2_with fail
  refine (rising_any A1 m1 c1 xs w1 ((h1.below hb1).more hb1.size) (by omega)).mono ?_
  rintro e w2 ⟨x, Ax, cx, rfl, hox, hrx, hlx⟩
  have hb2 := hb1.trans (hox.bel.mono hb1.size)
  have hx2 := hox.rd
  clear hox h1 hb1
  have HX := Lib.hid hx2.all
  have HRX : Hid (Rises x) := Lib.hid hrx
  obtain ⟨lx, hlx'⟩ : ∃ l, x.length = l := ⟨_, rfl⟩
  rw [hlx'] at hx2 hlx ⊢
  have HLX := Lib.hid hlx'
  have hlx2 : lx ≤ 100 := by omega
  clear hrx hlx' hlx
  obtain ⟨p, hp⟩ : ∃ p : Nat, s % 120 = (p : Int) := ⟨(s % 120).toNat, by have := Int.emod_nonneg s (show (120 : Int) ≠ 0 by omega); omega⟩
  have hpm : p < 120 := by have := Int.emod_lt_of_pos s (show (0 : Int) < 120 by omega); omega
  have hP := fun X => pick_any s 120 X (by omega) (by omega)
  rw [hp] at hP
  clear hp
  go_wp2_with fail
  refine (hP _).mono ?_
  rintro e w4 ⟨rfl, rfl⟩
  clear hP
  have hT2 := hT.bel hb2
  go_wp2_with fail
  refine (pack_good k (1 + p) _ (by simp) Ax lx cx x _ hx2 (by omega) hk (by omega) (by omega) HRX.out hT2.room hT2.tz).mono ?_
  rintro e w4 ⟨A4, c4, rfl, ho4⟩
  have hb4 := hb2.trans (ho4.bel.mono hb2.size)
  have HO4 := Lib.hid (And.intro hb2 ho4)
  clear hx2 hT2
  have HBY : Hid (∀ u ∈ blockB k (1 + p) x, u < 256) := Lib.hid (block_lt (by omega))
  have HSM : Hid ((blockB k (1 + p) x).length ≤ 7000) := Lib.hid (block_small HX.out (by rw [HLX.out]; omega) (by omega))
  have HPO : Hid (1 ≤ (blockB k (1 + p) x).length) := Lib.hid (jblock_pos _ _ _)
  generalize blockB k (1 + p) x = bl at *
  obtain ⟨L, HL⟩ : ∃ L, Hid (bl.length = L) := ⟨_, Lib.hid rfl⟩
  rw [HL.out] at ho4 HSM HPO ⊢
  have hsm := HSM.out
  have hl1 := HPO.out
  obtain ⟨g, rfl⟩ : ∃ g, A4 = some ⟨g, 0, none⟩ := by
    obtain ⟨g, c, e⟩ := ho4.lenform (m := L - 1) (by rw [HL.out]; omega)
    injection e with e1 e2 e3
    exact ⟨g, e1⟩
  have hLz : (((L : Nat) : Int) == 0) = false := by simp; omega
  have hpk := pick_any t (L : Int) w4 (by omega) (by omega)
  obtain ⟨r, hr, hrL⟩ : ∃ r : Nat, t % (L : Int) = (r : Int) ∧ r < L := by
    have e1 := Int.emod_nonneg t (show (L : Int) ≠ 0 by omega)
    have e2 := Int.emod_lt_of_pos t (show (0 : Int) < (L : Int) by omega)
    exact ⟨(t % (L : Int)).toNat, by omega, by omega⟩
  rw [hr] at hpk
  clear hr HSM HPO HRX HX HLX hlx2 hpm HO4
  go_wp2_with fail
  refine hpk.mono ?_
  rintro e w5 ⟨rfl, rfl⟩
  clear hpk
  have hcell := ho4.cell r hrL
  have hfree := ho4.free r
  have hrLi : (r : Int) < (L : Int) := by omega
  have hx := byte4 HBY.out r
  generalize bl.getD r 0 = y at *
  have hxor := u8_xor_nat y by_ (by omega) (by omega)
  go_upto_region 12 with fail
  have ho5 := ho4.set r (y ^^^ by_)
  have HQB := Lib.hid (jset_byte HBY.out r (jxor_byte hx (by omega : by_ < 256)))
  have HQL : Hid ((bl.set r (y ^^^ by_)).length = L) := Lib.hid (by rw [List.length_set, HL.out])
  clear hcell hfree hxor ho4 hx hrL hrLi HBY HL hb4
  generalize bl.set r (y ^^^ by_) = ql at *
  generalize w4.setCell ⟨g, r, none⟩ (.int .u8 ((y ^^^ by_ : Nat) : Int)) = w5 at *
  have hb5 := hb2.trans (ho5.bel.mono hb2.size)
  have hr5 := ho5.rd
  clear ho5 hb2
  have hfew := wholeF_few HQB.out
  have hye := wholeF_le (bs := ql)
  have hri := wholeF_rises HQB.out
  have hcn := chunks_few HQB.out (by rw [HQL.out]; omega)
  have hat := jnew_at HQB.out (by rw [HQL.out]; omega)
  rw [HQL.out] at hfew
  have hN := jnew_any (some ⟨g, 0, none⟩) L c4 w5.heap.size ql w5 hr5 (Nat.le_refl _) HQB.out (by omega)
  have hT5 := hT.bel hb5
  have hV := fun (X : World) (hX : Below w5.heap.size w5 X) => sc_newG (some ⟨g, 0, none⟩) L c4 w5.heap.size ql X (hr5.below hX) hX.size HQB.out (by omega) (hT5.room.bel hX) (hT5.tz.bel hX)
  rw [show wholeF ql = ((jwF ql).xs, (jwF ql).er) from rfl] at hV hfew hye hri
  rw [show chunksN ql = (jwF ql).cn from rfl] at hcn
  generalize jwF ql = W at *
  generalize jnewF ql = s0 at *
  unfold RetItG at hV
  simp only at hV hfew hye hri
  obtain ⟨N, hNL⟩ : ∃ N, W.xs.length = N := ⟨_, rfl⟩
  rw [hNL] at hV hfew
  have HL := Lib.hid hNL
  have HRI : Hid (RiseQ W.xs) := Lib.hid hri
  have HFX : Hid (JFix W) := Lib.hid ⟨by omega, hye⟩
  have HAT := Lib.hid hat
  have HT := Lib.hid hT
  clear hNL hri hat hT hT5 hcn hr5
  have hn100 : N ≤ 100000 := by omega
  have he := isErr_v W.er
  go_wp2_with fail
  refine hN.mono ?_
  rintro e w6 ⟨g1, rfl, hg1, j1, hb6⟩
  have hb7 := hb5.trans (hb6.mono hb5.size)
  have hgw : w.heap.size ≤ g1 := Nat.le_trans hb5.size hg1
  have hlt1 : g1 < w6.heap.size := by
    obtain ⟨_, _, _, _, _, _, h⟩ := j1
    exact h.box.lt
  have hV6 := hV w6 hb6
  clear hN hV hb5 hg1 hb6
  go_wp2_with fail
  refine hV6.mono ?_
  rintro e w8 ⟨g2, A5, c5, rfl, hg2, x5, q5, hb8, hpast⟩
  have hgg : g1 < g2 := by omega
  have hS : AtBoth w w8 W g1 g2 A5 N c5 s0 (-1) false := ⟨hb7.trans (hb8.mono hb7.size), ⟨by omega, by omega⟩, HAT.out, (j1.also (Q := fun k => k = g1 ∨ w6.heap.size ≤ k) (fun k hk hlt => by
    rcases hk with rfl | hk
    · rfl
    · omega) (.inl rfl) |>.below hb8).also (fun k hk _ => by
    rcases hk with rfl | rfl
    · exact .inl rfl
    · exact .inr hg2) (.inl rfl), x5, q5⟩
  have HP : Hid (∀ ad, A5 = some ad → ad.block ≠ g1) := Lib.hid (fun ad e => by have := hpast ad e; omega)
  have HTL : Hid (TabsLt g1) := Lib.hid (HT.out.lt.le hgw)
  clear hV6 j1 x5 q5 hb8 hpast hb7 hlt1 hg2
  go_wp2_with fail
  go_loopw [20, 21] (fun x20 x21 wr => ∃ (j l : Nat) (s : JS) (a : Int) (d : Bool), j ≤ m2 ∧ x20 = .int .i64 l ∧ x21 = .int .i64 j ∧ l ≤ s.ck ∧ AtBoth w wr W g1 g2 A5 N c5 s a d) (fun _ x21 _ => m2 - (intOf x21).toNat)
  case atStart => exact ⟨0, 0, s0, -1, false, Nat.zero_le _, rfl, rfl, Nat.zero_le _, hS⟩
  case round =>
    clear hS
    obtain ⟨j, l, s, a, d, hj, rfl, rfl, hls, hSc⟩ := hrel
    have HLS := Lib.hid hls
    clear hls
    by_cases hlt : j < m2
    · obtain ⟨ad, what, t, rfl, hdc, hd1, _⟩ := h2.at_ hlt
      have hki2 : (j : Int) < (m2 : Int) := by omega
      have hdb : ad.block < w.heap.size := by
        obtain ⟨ad', e, hb, _⟩ := h2 (by omega)
        injection e with e
        rw [e]
        exact hb
      have hd0 := (hSc.bel.cell (p := ad.add (j * 2)) (by rw [add_block]; exact hdb)).trans hdc
      have HDT := Lib.hid (fun (X : World) (hX : Below w.heap.size w X) => (hX.cell (p := ⟨(ad.add (j * 2)).block, (ad.add (j * 2)).off + 1, none⟩) (by show (ad.add (j * 2)).block < _; rw [add_block]; exact hdb)).trans hd1)
      clear hdc hd1 hdb
      have hdT := HDT.out wr hSc.bel
      obtain ⟨qv, hq⟩ : ∃ qv, what % 3 = qv := ⟨_, rfl⟩
      have hpick := pick_any what 3 wr (by omega) (by omega)
      rw [hq] at hpick
      clear hq
      go_upto_region 22 with fail
      go_upto_if 91 with (go_at_call 16; refine hpick.mono ?_; rintro e w7 ⟨rfl, rfl⟩)
      clear hpick
      go_cut [22, 23] (fun x22 x23 wx => ∃ (ok : Bool) (s' : JS) (a' : Int), x22 = .bool ok ∧ x23 = .bool ok ∧ l ≤ s'.ck ∧ AtBoth w wx W g1 g2 A5 N c5 s' a' (!ok))
      case first =>
        by_cases hq2 : qv = 2
        · subst hq2
          have hSk := jseek_any _ W g1 s a t d wr hSc.it hSc.p2 (HT.out.bel hSc.bel) HTL.out hSc.jat HFX.out (by rw [HL.out]; exact hSc.at_.2)
          go_wp2_with fail
          refine hSk.mono ?_
          rintro e w8 ⟨ok, a', s', rfl, hr, hj8, hi8, hg8, hck⟩
          obtain ⟨hB8, x8, q8, hS9⟩ := hSc.step hgw hgg HP.out hg8 hi8 hj8
          have hT8 := HDT.out w8 hB8
          have hS2 := sc_seek g2 g2 A5 N c5 W.xs _ a t d w8 x8 he hSc.at_ hn100 q8 (Nat.le_of_lt x8.lt) HRI.out
          have HCK := Lib.hid (Nat.le_trans HLS.out hck)
          clear hSk hd0 hdT x8 q8 hB8 hj8 hi8 hg8 hck
          go_wp2_with fail
          refine hS2.mono ?_
          rintro e w10 ⟨ok2, a2, V, rfl, hr2, hb10, hw10⟩
          obtain ⟨rfl, rfl⟩ := hr.one hr2
          have hsa2 : StandsAt N a' := by have := hr.stands (by rw [HL.out]; exact hSc.at_); rwa [HL.out] at this
          have hS11 := hS9 _ _ hb10 hw10 hsa2
          clear hS2 hT8 hS9 hw10
          go_wp2
          go_meet
          exact ⟨ok, s', a', rfl, rfl, HCK.out, hS11⟩
        · have hq3 : (qv == 2) = false := by simp [hq2]
          have hN1 := jnext_any _ W g1 s a d wr hSc.it hSc.p2 (HT.out.bel hSc.bel) hSc.jat HFX.out
          rw [HL.out] at hN1
          go_wp2_with fail
          refine hN1.mono ?_
          rintro e w8 ⟨ok, a', s', rfl, hr, hj8, hi8, hg8, hck⟩
          obtain ⟨hB8, x8, q8, hS9⟩ := hSc.step hgw hgg HP.out hg8 hi8 hj8
          have hN2 := sc_next g2 A5 N c5 _ a d w8 x8 he hSc.at_ hn100
          have HCK := Lib.hid (Nat.le_trans HLS.out hck)
          clear hN1 hd0 hdT x8 q8 hB8 hj8 hi8 hg8 hck
          go_wp2_with fail
          refine hN2.mono ?_
          rintro e w10 ⟨ok2, a2, V, rfl, hr2, hb10, hw10⟩
          obtain ⟨rfl, rfl⟩ := hr.one hr2
          have hsa2 : StandsAt N a' := hr.stands hSc.at_
          have hS11 := hS9 _ _ hb10 hw10 hsa2
          clear hN2 hS9 hw10
          go_wp2
          go_meet
          exact ⟨ok, s', a', rfl, rfl, HCK.out, hS11⟩
      case rest =>
        obtain ⟨ok, s', a', rfl, rfl, hls', hS5⟩ := hcut
        have HLS' := Lib.hid hls'
        clear hSc hd0 hdT hls'
        generalize (!ok) = dd at *
        obtain ⟨lk, hlk⟩ : ∃ lk, lookQ W.xs a' dd = lk := ⟨_, rfl⟩
        have hL1 := jat_any _ W g1 s' a' dd wc hS5.it hS5.jat
        rw [hlk] at hL1
        go_wp2_with fail
        refine hL1.mono ?_
        rintro e w5 ⟨rfl, hb5⟩
        have hS6 := hS5.go hb5
        have hL2 := sc_at g2 g2 A5 N c5 W.xs _ a' dd w5 hS6.sc he hS6.at_ hS6.q2 (Nat.le_of_lt hS6.sc.lt)
        rw [hlk] at hL2
        clear hS5 hL1 hlk hb5
        go_wp2_with fail
        refine hL2.mono ?_
        rintro e w6 ⟨rfl, hb6⟩
        have hS7 := hS6.go hb6
        clear hS6 hL2 hb6
        obtain ⟨t1, v1⟩ := lk
        dsimp only
        have hck : (l : Int) ≤ (s'.ck : Int) := by have := HLS'.out; omega
        go_upto_region 29 with fail
        go_cut [147] (fun x147 wx => x147 = .bool false ∧ AtBoth w wx W g1 g2 A5 N c5 s' a' dd)
        case first =>
          have hE := jerr_any _ W g1 s' a' dd w6 hS7.it hS7.jat
          have hE2 := fun X (hX : AtBoth w X W g1 g2 A5 N c5 s' a' dd) => sc_err g2 A5 N c5 _ a' dd X hX.sc he
          have hC := fun X => code_ev hye dd X
          have hK := fun X (hX : AtBoth w X W g1 g2 A5 N c5 s' a' dd) => jck_any _ g1 s' X hX.it
          obtain ⟨ev, hev⟩ : ∃ ev, (bif dd then errV W.er else .nilIface) = ev := ⟨_, rfl⟩
          obtain ⟨en, hen⟩ : ∃ en : Int, (bif dd then (W.er : Int) else 0) = en := ⟨_, rfl⟩
          rw [hev] at hE hE2 hC
          rw [hen] at hC
          clear hev hen
          generalize (s'.ck : Int) = ck at *
          have HCKI := Lib.hid hck
          go_wp2_with fail
          refine hE.mono ?_
          rintro e w7 ⟨rfl, hb7⟩
          have hS9 := hS7.go hb7
          clear hE hS7 hb7
          go_wp2_with fail
          refine (hC _).mono ?_
          rintro e w8 ⟨rfl, rfl⟩
          go_wp2_with fail
          refine (hE2 _ hS9).mono ?_
          rintro e w8 ⟨rfl, hb8⟩
          have hS10 := hS9.go hb8
          clear hE2 hS9 hb8
          go_wp2_with fail
          refine (hC _).mono ?_
          rintro e w9 ⟨rfl, rfl⟩
          go_wp2_with fail
          refine (hK _ hS10).mono ?_
          rintro e w9 ⟨rfl, hb9⟩
          have hS11 := hS10.go hb9
          clear hK hS10 hb9
          go_wp2
          go_meet
          exact ⟨by simp; exact HCKI.out, hS11⟩
        case rest =>
          obtain ⟨rfl, hS8⟩ := hcut
          clear hS7
          have hK := jck_any _ g1 s' wc hS8.it
          go_wp2_with fail
          refine hK.mono ?_
          rintro e w9 ⟨rfl, hb9⟩
          have hS9 := hS8.go hb9
          clear hK hS8 hb9
          go_wp2
          go_roundw
          case rel => exact ⟨j + 1, s'.ck, s', a', dd, by omega, rfl, by go_num, Nat.le_refl _, hS9⟩
          case measure => simp [intOf]; omega
    · obtain rfl : j = m2 := by omega
      go_wp2
      go_ret
      exact ⟨rfl, hSc.bel⟩

theorem jsame_all (i : Bool) (A1 A2 : Option Addr) (m1 c1 m2 c2 : Nat) (s t : Int) (by_ : Nat) (xs : List (Int × Nat)) (w : World) (hby : by_ ≤ 255) (h1 : RdQ w w.heap.size A1 m1 c1 xs) (h2 : RdP w w.heap.size A2 m2) (hl : m1 ≤ 9223372036854775807 ∧ m2 ≤ 9223372036854775807) (hR : RoomW w) (hZ : RowsW w) (hT : TzW w) :
    Calls Tryz.prog 4 #[.bool i, .slice A1 m1 c1, .int .i64 s, .int .i64 t, .int .u8 (by_ : Int), .slice A2 m2 c2] w (RetTrue w) := by
  by_cases hs : m1 ≤ 100 ∧ m2 ≤ 100
  · exact jsame_in i A1 A2 m1 c1 m2 c2 s t by_ xs w hby h1 h2 hs.1 hs.2 ⟨hR, hZ, hT⟩
  · exact jsame_big i A1 A2 m1 c1 m2 c2 s t by_ w hl (by omega) ⟨hR, hZ, hT⟩

end Go.Proofs.YtkjkdiijlgoagaaGreatDoor
