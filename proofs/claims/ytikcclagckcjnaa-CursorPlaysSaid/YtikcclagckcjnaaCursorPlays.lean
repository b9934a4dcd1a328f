/-
  CursorPlays, walked: it returns true, whatever the arguments.
-/
import Derived.Test.YtikcclagckcjnaaCurUp
import Derived.Test.YtikcclagckcjnaaRefCur
import Derived.Test.YtikcclagckcjnaaPick
import Derived.Test.YtikcclagckcjnaaCurDeeds
import Derived.Deep.CutBlock
import Derived.Deep.RegionWith
namespace Go.Proofs.Ytikcclagckcjnaa
open Go.RowKit

set_option maxRecDepth 20000 in
set_option maxHeartbeats 400000 in
theorem cplays_big (A1 A2 : Option Addr) (m1 c1 m2 c2 : Nat) (bad : Int) (w : World) (hl : m1 ≤ 9223372036854775807 ∧ m2 ≤ 9223372036854775807) (h : 100 < m1 ∨ (m1 ≤ 100 ∧ 100 < m2)) :
    Calls Try.prog 3 #[.slice A1 m1 c1, .int .i64 bad, .slice A2 m2 c2] w (RetTrue w) := by
  have hu := up17_any w
  unfold RetTrue at hu
  rcases h with h | h
  all_goals
    go_enter Try.func3, Try.ntmps3
    go_wp2_with (go_at_call 5; refine hu.mono ?_; rintro e w1 ⟨rfl, hb1⟩)
    go_ret
    exact ⟨rfl, hb1⟩

section
variable {w w' : World} {g : Nat} {A : Option Addr} {n c : Nat} {er : Value}
/-- a box of a cursor, new, and written anew -/
theorem store_err (he : IsErr er) (m : Mode) (a : Addr) (W : World) : (store a er m).run Try.prog W = stored Try.prog W a er m := run_store _ W a er m (by rcases he with rfl | ⟨k, rfl⟩ <;> rfl)
theorem curbox_new (_he : IsErr er) (A : Option Addr) (n c : Nat) (a : Int) (d : Bool) (w : World) : BoxL (w.alloc (.cells #[.slice A n c, er, .int .i64 a, .bool d] 31)) w.heap.size [.slice A n c, er, .int .i64 a, .bool d] := BoxL.new_at0 _ _ rfl
theorem code_ev {no : Nat} (h9 : no ≤ 9) (d : Bool) (w : World) : Calls Try.prog 16 #[bif d then errV no else .nilIface] w fun e w' => e = .returned (.int .i64 (bif d then (no : Int) else 0)) ∧ w = w' := by
  cases d
  · exact code_nil w
  · exact code_any no w h9
end

set_option maxRecDepth 20000 in
set_option maxHeartbeats 4000000 in
theorem cplays_in (A1 A2 : Option Addr) (m1 c1 m2 c2 : Nat) (bad : Int) (ys : List (Int × Nat)) (w : World) (h1 : RdQ w w.heap.size A1 m1 c1 ys) (h2 : RdP w w.heap.size A2 m2) (hm1 : m1 ≤ 100) (hm2 : m2 ≤ 100) :
    Calls Try.prog 3 #[.slice A1 m1 c1, .int .i64 bad, .slice A2 m2 c2] w (RetTrue w) := by
  have hu := up17_any w
  unfold RetTrue at hu
  go_enter Try.func3, Try.ntmps3
  go_wp2_with fail
  refine hu.mono ?_
  rintro e w1 ⟨rfl, hb1⟩
  clear hu
  have hr1 := (h1.below hb1).more hb1.size
  go_wp2_with fail
  refine (rising_any A1 m1 c1 ys w1 hr1 (by omega)).mono ?_
  rintro e w2 ⟨xs, A, c, rfl, ho2, hri, hxm⟩
  clear hr1
  replace hb1 := hb1.trans (ho2.bel.mono hb1.size)
  have hx := ho2.rd
  clear ho2
  have HRI := Lib.hid hri
  clear hri
  obtain ⟨n, hn⟩ : ∃ n, xs.length = n := ⟨_, rfl⟩
  rw [hn] at hx hxm ⊢
  have HL := Lib.hid hn
  clear hn
  have hn100 : n ≤ 100000 := by omega
  go_wp2_with fail
  refine (pick_any bad 10 w2 (by omega) (by omega)).mono ?_
  rintro e w3 ⟨rfl, rfl⟩
  obtain ⟨no, hno⟩ : ∃ no : Nat, bad % 10 = (no : Int) := ⟨(bad % 10).toNat, by omega⟩
  have hno9 : no ≤ 9 := by omega
  rw [hno]
  clear hno
  go_upto_region 7 with fail
  go_upto_if 35 with fail
  go_cut [9] (fun x9 wx => x9 = errV no ∧ w2 = wx)
  case first =>
    by_cases h0 : no = 0
    · subst h0
      go_wp2
      go_meet
      exact ⟨rfl, rfl⟩
    · have hnp : (0 : Int) < (no : Int) := by omega
      go_wp2
      go_meet
      exact ⟨by simp [errV, h0], rfl⟩
  case rest =>
    obtain ⟨hx9, rfl⟩ := hcut
    have he : IsErr u9 := by rw [hx9]; exact isErr_v no
    have HE := Lib.hid hx9
    clear hx9
    have hst := store_err he
    go_wp2_with fail
    refine (cur_new A n c _ w2 he).mono ?_
    rintro e w4 ⟨rfl, hb4⟩
    go_upto_region 10 with fail
    have x1 := curbox_new he A n c (-1) false w4
    have hb5 : Below w2.heap.size w2 (w4.alloc (.cells #[.slice A n c, u9, .int .i64 (-1), .bool false] 31)) := hb4.alloc hb4.size _
    have hs5 : (w4.alloc (.cells #[.slice A n c, u9, .int .i64 (-1), .bool false] 31)).heap.size = w4.heap.size + 1 := by simp
    have hg1 := hb4.size
    clear hb4
    generalize w4.alloc (.cells #[.slice A n c, u9, .int .i64 (-1), .bool false] 31) = w5 at *
    go_wp2_with fail
    refine (rcur_new A n c (no : Int) w5).mono ?_
    rintro e w6 ⟨rfl, x2, hb6⟩
    rw [hs5] at x2 ⊢
    replace x1 := x1.below hb6
    replace hb5 := hb5.trans (hb6.mono hb5.size)
    generalize w4.heap.size = g1 at *
    clear hb6 hs5
    go_wp2_with fail
    go_loopw [13] (fun x13 wr => ∃ (k : Nat) (a : Int) (d : Bool), k ≤ m2 ∧ x13 = .int .i64 k ∧ Below w2.heap.size w2 wr ∧ StandsAt n a ∧ BoxL wr g1 [.slice A n c, u9, .int .i64 a, .bool d] ∧ BoxL wr (g1 + 1) [.slice A n c, .int .i64 (no : Int), .int .i64 a, .bool d]) (fun x13 _ => m2 - (intOf x13).toNat)
    case atStart => exact ⟨0, -1, false, Nat.zero_le _, rfl, hb5, ⟨by omega, by omega⟩, x1, x2⟩
    case round =>
      clear x1 x2 hb5
      obtain ⟨k, a, d, hk, rfl, hwr, hsa, x1, x2⟩ := hrel
      by_cases hlt : k < m2
      · obtain ⟨ad, what, t, rfl, hdc, hd1, _⟩ := (h2.below hb1).at_ hlt
        have hdb : ad.block < w2.heap.size := by
          obtain ⟨ad', e, hb, _⟩ := h2 (by omega)
          injection e with e
          rw [e]
          exact Nat.lt_of_lt_of_le hb hb1.size
        have hd0 := (hwr.cell (p := ad.add (k * 2)) (by rw [add_block]; exact hdb)).trans hdc
        have HDT := Lib.hid (fun (X : World) (hX : Below w2.heap.size w2 X) => (hX.cell (p := ⟨(ad.add (k * 2)).block, (ad.add (k * 2)).off + 1, none⟩) (by show (ad.add (k * 2)).block < _; rw [add_block]; exact hdb)).trans hd1)
        clear hdc hd1
        have hdT := HDT.out wr hwr
        have hki : (k : Int) < (m2 : Int) := by omega
        obtain ⟨qv, hq⟩ : ∃ qv, what % 3 = qv := ⟨_, rfl⟩
        have hpick := pick_any what 3 wr (by omega) (by omega)
        rw [hq] at hpick
        clear hq
        have HXS := Lib.hid (fun (X : World) (hX : Below wr.heap.size wr X) => (((hx.below hwr).below (hX.mono hwr.size)).more (Nat.le_trans hwr.size hX.size) : RdQ X X.heap.size A n c xs))
        go_upto_if 56 with (go_at_call 7; refine hpick.mono ?_; rintro e w7 ⟨rfl, rfl⟩)
        clear hpick
        go_cut [14, 15] (fun x14 x15 wx => ∃ (ok : Bool) (a' : Int), x14 = .bool ok ∧ x15 = .bool ok ∧ StandsAt n a' ∧ Below w2.heap.size w2 wx ∧ BoxL wx g1 [.slice A n c, u9, .int .i64 a', .bool (!ok)] ∧ BoxL wx (g1 + 1) [.slice A n c, .int .i64 (no : Int), .int .i64 a', .bool (!ok)])
        case first =>
          -- DONE
          obtain ⟨u0, u1, u2, u3⟩ := x1.get4
          by_cases hq2 : qv = 2
          · subst hq2
            have hSk := fun (X : World) (hX : Below wr.heap.size wr X) => cur_seek A n c xs u9 a t d X he hsa hn100 (HXS.out X hX) HRI.out
            go_upto_region 17 with fail
            go_region_with (first
              | (go_at_call 10; refine (hSk _ ?_).mono ?_; exact (by repeat (first | with_reducible exact Below.refl _ _ | with_reducible assumption | with_reducible refine Below.drew ?_ | with_reducible refine below_drewN ?_ _ | with_reducible refine Below.alloc ?_ (by (first | assumption | omega | (simp; done) | (simp; omega))) _ | with_reducible refine below_set ?_ (by (first | assumption | omega | (simp; done) | (simp; omega))) _ _)); rintro e w7 ⟨ok, a', rfl, hr, hb7⟩; have x7 := (x1.drew).below hb7; obtain ⟨y0, y1, y2, y3⟩ := x7.get4; obtain ⟨z0, z1, z2, z3⟩ := x7.free4))
            all_goals
              replace hb7 : Below wr.heap.size wr w7 := undrew hb7
              have x8 := x7.all4 (.slice A n c) u9 (.int .i64 a') (.bool (!ok))
              have x9 := (x2.below hb7).oth4 (d := g1) (by omega) (.slice A n c) u9 (.int .i64 a') (.bool (!ok))
              have hb9 := below_set4 (hwr.trans (hb7.mono hwr.size)) hg1 (.slice A n c) u9 (.int .i64 a') (.bool (!ok))
              clear y0 y1 y2 y3 z0 z1 z2 z3 u0 u1 u2 u3 hSk x7 hb7 hd0 hdT
              generalize ((((w7.setCell ⟨g1, 0, none⟩ (.slice A n c)).setCell ⟨g1, 1, none⟩ (u9)).setCell ⟨g1, 2, none⟩ (.int .i64 a')).setCell ⟨g1, 3, none⟩ (.bool (!ok))) = w8 at *
              have hT8 := HDT.out w8 hb9
              have hS2 := rcur_seek (g1 + 1) w2.heap.size A n c xs (no : Int) a t d w8 x9 hsa hn100 (hx.below hb9)
              go_wp2_with fail
              refine hS2.mono ?_
              rintro e w10 ⟨ok2, a2, rfl, hr2, x10, hb10⟩
              obtain ⟨rfl, rfl⟩ := hr.one hr2
              have hsa2 : StandsAt n a' := by have := hr.stands (by rw [HL.out]; exact hsa); rwa [HL.out] at this
              clear hS2
              go_wp2
              go_meet
              exact ⟨ok, a', rfl, rfl, hsa2, hb9.trans (hb10.mono (by omega)), x8.upto hb10 (by omega), x10⟩
          · have hq3 : (qv == 2) = false := by simp [hq2]
            have hN1 := cur_next A n c u9 a d wr he hsa hn100
            go_wp2_with fail
            refine hN1.mono ?_
            rintro e w7 ⟨ok, a', rfl, hr, hb7⟩
            have x7 := x1.below hb7
            obtain ⟨y0, y1, y2, y3⟩ := x7.get4
            obtain ⟨z0, z1, z2, z3⟩ := x7.free4
            clear u0 u1 u2 u3 hN1
            go_upto_region 20 with fail
            have x8 := x7.all4 (.slice A n c) u9 (.int .i64 a') (.bool (!ok))
            have x9 := (x2.below hb7).oth4 (d := g1) (by omega) (.slice A n c) u9 (.int .i64 a') (.bool (!ok))
            have hb9 := below_set4 (hwr.trans (hb7.mono hwr.size)) hg1 (.slice A n c) u9 (.int .i64 a') (.bool (!ok))
            clear y0 y1 y2 y3 z0 z1 z2 z3 x7 hb7
            generalize ((((w7.setCell ⟨g1, 0, none⟩ (.slice A n c)).setCell ⟨g1, 1, none⟩ (u9)).setCell ⟨g1, 2, none⟩ (.int .i64 a')).setCell ⟨g1, 3, none⟩ (.bool (!ok))) = w8 at *
            have hN2 := rcur_next (g1 + 1) A n c (no : Int) a d w8 x9 hsa hn100
            go_wp2_with fail
            refine hN2.mono ?_
            rintro e w10 ⟨ok2, a2, rfl, hr2, x10, hb10⟩
            obtain ⟨rfl, rfl⟩ := hr.one hr2
            have hsa2 : StandsAt n a' := hr.stands hsa
            clear hN2
            go_wp2
            go_meet
            exact ⟨ok, a', rfl, rfl, hsa2, hb9.trans (hb10.mono (by omega)), x8.upto hb10 (by omega), x10⟩
        case rest =>
          obtain ⟨ok, a', rfl, rfl, hsa2, hw2, y1, y2⟩ := hcut
          obtain ⟨dd, hdd⟩ : ∃ dd, (!ok) = dd := ⟨_, rfl⟩
          rw [hdd] at y1 y2
          clear hdd x1 x2 hd0 hdT HXS hsa
          obtain ⟨lk, hlk⟩ : ∃ lk, lookQ xs a' dd = lk := ⟨_, rfl⟩
          have hL1 := cur_look A n c xs u9 a' dd wc he hsa2 ((hx.below hw2).more hw2.size)
          rw [hlk] at hL1
          obtain ⟨p0, p1, p2, p3⟩ := y1.get4
          go_wp2_with fail
          refine hL1.mono ?_
          rintro e w8 ⟨rfl, hb8⟩
          have hw8 := hw2.trans (hb8.mono hw2.size)
          have hL2 := rcur_look (g1 + 1) w2.heap.size A n c xs (no : Int) a' dd w8 (y2.below hb8) hsa2 (hx.below hw8)
          rw [hlk] at hL2
          clear hL1 hlk p0 p1 p2 p3
          go_wp2_with fail
          refine hL2.mono ?_
          rintro e w9 ⟨rfl, hb9⟩
          have hw9 := hw8.trans (hb9.mono hw8.size)
          replace y1 := (y1.below hb8).below hb9
          replace y2 := (y2.below hb8).below hb9
          clear hL2 hw2 hb8 hb9 hw8
          obtain ⟨t1, v1⟩ := lk
          dsimp only
          go_upto_region 23 with fail
          go_cut [129] (fun x129 wx => x129 = .bool false ∧ Below w9.heap.size w9 wx)
          case first =>
            obtain ⟨ev, hev⟩ : ∃ ev, (bif dd then u9 else .nilIface) = ev := ⟨_, rfl⟩
            obtain ⟨en, hen⟩ : ∃ en : Int, (bif dd then (no : Int) else 0) = en := ⟨_, rfl⟩
            have hE := fun X => cur_err A n c u9 a' dd X he
            have hC := fun X => code_ev hno9 dd X
            have hM := fun X (hX : Below w9.heap.size w9 X) => rcur_err (g1 + 1) A n c (no : Int) a' dd X (y2.below hX)
            rw [hev] at hE
            rw [hen] at hM
            rw [← HE.out, hev, hen] at hC
            have k1 := y1.drew.get4
            have k2 := y2.drew.get4
            clear hev hen HE
            go_region_held3 (fun X => (X.cell? ⟨g1, 0, none⟩ = some (.slice A n c) ∧ X.cell? ⟨g1, 1, none⟩ = some (u9) ∧ X.cell? ⟨g1, 2, none⟩ = some (.int .i64 a') ∧ X.cell? ⟨g1, 3, none⟩ = some (.bool dd)) ∧ (X.cell? ⟨g1 + 1, 0, none⟩ = some (.slice A n c) ∧ X.cell? ⟨g1 + 1, 1, none⟩ = some (.int .i64 (no : Int)) ∧ X.cell? ⟨g1 + 1, 2, none⟩ = some (.int .i64 a') ∧ X.cell? ⟨g1 + 1, 3, none⟩ = some (.bool dd))) (with_reducible first | exact ⟨k1, k2⟩ | exact ⟨(y1.below (by repeat (first | with_reducible exact Below.refl _ _ | with_reducible assumption | with_reducible refine Below.drew ?_ | with_reducible refine below_drewN ?_ _ | with_reducible refine Below.alloc ?_ (by (first | assumption | omega | (simp; done) | (simp; omega))) _ | with_reducible refine below_set ?_ (by (first | assumption | omega | (simp; done) | (simp; omega))) _ _))).get4, (y2.below (by repeat (first | with_reducible exact Below.refl _ _ | with_reducible assumption | with_reducible refine Below.drew ?_ | with_reducible refine below_drewN ?_ _ | with_reducible refine Below.alloc ?_ (by (first | assumption | omega | (simp; done) | (simp; omega))) _ | with_reducible refine below_set ?_ (by (first | assumption | omega | (simp; done) | (simp; omega))) _ _))).get4⟩) (first
              | (go_at_call 17; refine (hE _).mono ?_; rintro e w11 ⟨rfl, hb11⟩; have h11 : Below w9.heap.size w9 w11 := (by first | exact undrew hb11 | exact h13.trans (hb11.mono h13.size)))
              | (go_at_call 16; refine (hC _).mono ?_; rintro e w12 ⟨rfl, rfl⟩)
              | (go_at_call 18; refine (hM _ ?_).mono ?_; exact (by repeat (first | with_reducible exact Below.refl _ _ | with_reducible assumption | with_reducible refine Below.drew ?_ | with_reducible refine below_drewN ?_ _ | with_reducible refine Below.alloc ?_ (by (first | assumption | omega | (simp; done) | (simp; omega))) _ | with_reducible refine below_set ?_ (by (first | assumption | omega | (simp; done) | (simp; omega))) _ _)); rintro e w13 ⟨rfl, hb13⟩; have h13 : Below w9.heap.size w9 w13 := (by first | exact undrew hb13 | exact h11.trans (hb13.mono h11.size))))
            all_goals
              go_wp2_with fail
              go_meet
              refine ⟨by first | rfl | simp, ?_⟩
              first | exact h13 | exact h11
          case rest =>
            obtain ⟨rfl, hb9⟩ := hcut
            replace y1 := y1.below hb9
            replace y2 := y2.below hb9
            replace hw9 := hw9.trans (hb9.mono hw9.size)
            go_wp2
            go_roundw
            case rel => exact ⟨k + 1, a', dd, by omega, by go_num, hw9, hsa2, y1, y2⟩
            case measure => simp [intOf]; omega
      · obtain rfl : k = m2 := by omega
        go_wp2
        go_ret
        exact ⟨rfl, hb1.trans (hwr.mono hb1.size)⟩

theorem cplays_all (A1 A2 : Option Addr) (m1 c1 m2 c2 : Nat) (bad : Int) (ys : List (Int × Nat)) (w : World) (h1 : RdQ w w.heap.size A1 m1 c1 ys) (h2 : RdP w w.heap.size A2 m2) (hl : m1 ≤ 9223372036854775807 ∧ m2 ≤ 9223372036854775807) :
    Calls Try.prog 3 #[.slice A1 m1 c1, .int .i64 bad, .slice A2 m2 c2] w (RetTrue w) := by
  by_cases hs : m1 ≤ 100 ∧ m2 ≤ 100
  · exact cplays_in A1 A2 m1 c1 m2 c2 bad ys w h1 h2 hs.1 hs.2
  · exact cplays_big A1 A2 m1 c1 m2 c2 bad w hl (by omega)

end Go.Proofs.Ytikcclagckcjnaa
