/-
  CursorForth, walked: it returns true, whatever the arguments.
-/
import Derived.Test.YtikcclagckcjnaaCurUp
import Derived.Test.YtikcclagckcjnaaPick
import Derived.Test.YtikcclagckcjnaaCurDeeds
import Derived.Deep.CutBlock
import Derived.Deep.RegionWith
namespace Go.Proofs.Ytikcclagckcjnaa
open Go.RowKit

set_option maxRecDepth 20000 in
set_option maxHeartbeats 400000 in
theorem cforth_big (A1 A2 : Option Addr) (m1 c1 m2 c2 : Nat) (w : World) (hl : m1 ≤ 9223372036854775807 ∧ m2 ≤ 9223372036854775807) (h : 100 < m1 ∨ (m1 ≤ 100 ∧ 100 < m2)) :
    Calls Try.prog 4 #[.slice A1 m1 c1, .slice A2 m2 c2] w (RetTrue w) := by
  have hu := up17_any w
  unfold RetTrue at hu
  rcases h with h | h
  all_goals
    go_enter Try.func4, Try.ntmps4
    go_wp2_with (go_at_call 5; refine hu.mono ?_; rintro e w1 ⟨rfl, hb1⟩)
    go_ret
    exact ⟨rfl, hb1⟩

/-- what a step comes to, as the law tells it: Seek, or Next -/
def StepR (sk : Bool) (xs : List (Int × Nat)) (t a : Int) (d ok : Bool) (b : Int) : Prop := bif sk then SeekR xs t a d ok b else NextR xs.length a d ok b

set_option maxRecDepth 20000 in
set_option maxHeartbeats 4000000 in
theorem cforth_in (A1 A2 : Option Addr) (m1 c1 m2 c2 : Nat) (ys : List (Int × Nat)) (w : World) (h1 : RdQ w w.heap.size A1 m1 c1 ys) (h2 : RdP w w.heap.size A2 m2) (hm1 : m1 ≤ 100) (hm2 : m2 ≤ 100) :
    Calls Try.prog 4 #[.slice A1 m1 c1, .slice A2 m2 c2] w (RetTrue w) := by
  have hu := up17_any w
  unfold RetTrue at hu
  go_enter Try.func4, Try.ntmps4
  go_wp2_with fail
  refine hu.mono ?_
  rintro e w1 ⟨rfl, hb1⟩
  clear hu
  have hr1 := (h1.below hb1).more hb1.size
  go_wp2_with fail
  refine (rising_any A1 m1 c1 ys w1 hr1 (by omega)).mono ?_
  rintro e w2 ⟨xs, A, c, rfl, ho2, hri, hxm⟩
  clear hr1
  replace hb1 := hb1.trans (ho2.bel.mono hb1.size)
  have hx := ho2.rd
  clear ho2
  have HRI := Lib.hid hri
  clear hri
  obtain ⟨n, hn⟩ : ∃ n, xs.length = n := ⟨_, rfl⟩
  rw [hn] at hx hxm ⊢
  have HL := Lib.hid hn
  clear hn
  have hn100 : n ≤ 100000 := by omega
  have he : IsErr .nilIface := .inl rfl
  go_wp2_with fail
  refine (cur_new A n c _ w2 he).mono ?_
  rintro e w4 ⟨rfl, hb4⟩
  go_upto_region 6 with fail
  have x1 := BoxL.new_at0 (w := w4) [.slice A n c, .nilIface, .int .i64 (-1), .bool false] 31 rfl
  have hb5 : Below w2.heap.size w2 (w4.alloc (.cells #[.slice A n c, .nilIface, .int .i64 (-1), .bool false] 31)) := hb4.alloc hb4.size _
  have hg1 := hb4.size
  clear hb4
  generalize w4.heap.size = g1 at *
  generalize w4.alloc (.cells #[.slice A n c, .nilIface, .int .i64 (-1), .bool false] 31) = w5 at *
  go_wp2_with fail
  go_loopw [8] (fun x8 wr => ∃ (k : Nat) (a : Int) (d : Bool), k ≤ m2 ∧ x8 = .int .i64 k ∧ Below w2.heap.size w2 wr ∧ StandsAt n a ∧ BoxL wr g1 [.slice A n c, .nilIface, .int .i64 a, .bool d]) (fun x8 _ => m2 - (intOf x8).toNat)
  case atStart => exact ⟨0, -1, false, Nat.zero_le _, rfl, hb5, ⟨by omega, by omega⟩, x1⟩
  case round =>
    clear x1 hb5
    obtain ⟨k, a, d, hk, rfl, hwr, hsa, x1⟩ := hrel
    by_cases hlt : k < m2
    · obtain ⟨ad, what, t, rfl, hdc, hd1, _⟩ := (h2.below hb1).at_ hlt
      have hdb : ad.block < w2.heap.size := by
        obtain ⟨ad', e, hb, _⟩ := h2 (by omega)
        injection e with e
        rw [e]
        exact Nat.lt_of_lt_of_le hb hb1.size
      have hd0 := (hwr.cell (p := ad.add (k * 2)) (by rw [add_block]; exact hdb)).trans hdc
      have HDT := Lib.hid (fun (X : World) (hX : Below w2.heap.size w2 X) => (hX.cell (p := ⟨(ad.add (k * 2)).block, (ad.add (k * 2)).off + 1, none⟩) (by show (ad.add (k * 2)).block < _; rw [add_block]; exact hdb)).trans hd1)
      clear hdc hd1
      have hdT := HDT.out wr hwr
      have hki : (k : Int) < (m2 : Int) := by omega
      obtain ⟨qv, hq⟩ : ∃ qv, what % 3 = qv := ⟨_, rfl⟩
      have hpick := pick_any what 3 wr (by omega) (by omega)
      rw [hq] at hpick
      clear hq
      obtain ⟨sk, hsk⟩ : ∃ sk, (qv == 2) = sk := ⟨_, rfl⟩
      have HXS := Lib.hid (fun (X : World) (hX : Below wr.heap.size wr X) => (((hx.below hwr).below (hX.mono hwr.size)).more (Nat.le_trans hwr.size hX.size) : RdQ X X.heap.size A n c xs))
      obtain ⟨u0, u1, u2, u3⟩ := x1.get4
      go_upto_if 46 with (go_at_call 7; refine hpick.mono ?_; rintro e w7 ⟨rfl, rfl⟩)
      clear hpick
      go_cut [12] (fun x12 wx => ∃ (ok : Bool) (a' : Int), x12 = .bool ok ∧ Hid (StepR sk xs t a d ok a') ∧ Below w2.heap.size w2 wx ∧ BoxL wx g1 [.slice A n c, .nilIface, .int .i64 a', .bool (!ok)])
      case first =>
        -- DONE
        cases sk
        · have hN1 := cur_next A n c .nilIface a d wr he hsa hn100
          go_wp2_with fail
          refine hN1.mono ?_
          rintro e w7 ⟨ok, a', rfl, hr, hb7⟩
          have x7 := x1.below hb7
          obtain ⟨y0, y1, y2, y3⟩ := x7.get4
          obtain ⟨z0, z1, z2, z3⟩ := x7.free4
          clear u0 u1 u2 u3 hN1
          go_wp2_with fail
          go_meet
          refine ⟨ok, a', rfl, Lib.hid (?_ : NextR xs.length a d ok a'), below_set4 (hwr.trans (hb7.mono hwr.size)) hg1 _ _ _ _, x7.all4 _ _ _ _⟩
          rw [HL.out]
          exact hr
        · have hSk := fun (X : World) (hX : Below wr.heap.size wr X) => cur_seek A n c xs .nilIface a t d X he hsa hn100 (HXS.out X hX) HRI.out
          go_upto_region 14 with fail
          go_region_with (first
            | (go_at_call 10; refine (hSk _ ?_).mono ?_; exact (by repeat (first | with_reducible exact Below.refl _ _ | with_reducible assumption | with_reducible refine Below.drew ?_ | with_reducible refine below_drewN ?_ _ | with_reducible refine Below.alloc ?_ (by (first | assumption | omega | (simp; done) | (simp; omega))) _ | with_reducible refine below_set ?_ (by (first | assumption | omega | (simp; done) | (simp; omega))) _ _)); rintro e w7 ⟨ok, a', rfl, hr, hb7⟩; have x7 := (x1.drew).below hb7; obtain ⟨y0, y1, y2, y3⟩ := x7.get4; obtain ⟨z0, z1, z2, z3⟩ := x7.free4))
          all_goals
            replace hb7 : Below wr.heap.size wr w7 := undrew hb7
            go_wp2_with fail
            go_meet
            exact ⟨ok, a', rfl, Lib.hid (hr : SeekR xs t a d ok a'), below_set4 (hwr.trans (hb7.mono hwr.size)) hg1 _ _ _ _, x7.all4 _ _ _ _⟩
      case rest =>
        obtain ⟨ok, a', rfl, HS, hw8, y1⟩ := hcut
        clear x1 u0 u1 u2 u3 hd0 hdT HXS hsk
        obtain ⟨p0, p1, p2, p3⟩ := y1.get4
        obtain ⟨fz, hfz⟩ : ∃ fz, a.toNat = fz := ⟨_, rfl⟩
        have hfn : fz ≤ n := by unfold StandsAt at hsa; omega
        have HF := Lib.hid hfz
        cases sk
        · clear hfz
          have hS : NextR xs.length a d ok a' := HS.out
          clear HS
          rw [HL.out] at hS
          have hsa2 := hS.stands hsa
          have ha'n : ¬ (n : Int) ≤ a' := by unfold StandsAt at hsa2; omega
          have hw : IntKind.i64.wrap (a + 1) = a + 1 := IntWalk.i64_in _ (by unfold StandsAt at hsa; omega)
          rcases hS with ⟨rfl, _, rfl, rfl⟩ | ⟨_, rfl, e1⟩
          · have haa : ¬ a + 1 < a := by omega
            go_upto_region 18 with fail
            go_cut [13] (fun x13 wx => x13 = .int .i64 (fz : Int) ∧ wc = wx)
            case first =>
              have hfa : a = -1 ∨ ∃ f : Nat, a = (f : Int) := by
                unfold StandsAt at hsa
                by_cases h : a = -1
                · exact .inl h
                · exact .inr ⟨a.toNat, by omega⟩
              rcases hfa with rfl | ⟨f, rfl⟩
              · obtain rfl : (0 : Nat) = fz := HF.out
                go_wp2
                go_meet
                exact ⟨rfl, rfl⟩
              · obtain rfl : f = fz := HF.out
                have hmx : max (f : Int) 0 = (f : Int) := by omega
                go_wp2
                go_meet
                exact ⟨rfl, rfl⟩
            case rest =>
              obtain ⟨rfl, rfl⟩ := hcut
              clear p0 p1 p2 p3
              go_wp2_with fail
              go_loopw [13] (fun x13 wx => ∃ j : Nat, x13 = .int .i64 j ∧ fz ≤ j ∧ j ≤ n ∧ Below wc.heap.size wc wx) (fun x13 _ => n - (intOf x13).toNat)
              case atStart => exact ⟨fz, rfl, Nat.le_refl _, hfn, Below.refl _ _⟩
              case round =>
                obtain ⟨j, rfl, hj1, hj2, hwx⟩ := hrel
                have z1 := y1.below hwx
                have hwz := hw8.trans (hwx.mono hw8.size)
                obtain ⟨p0, p1, p2, p3⟩ := z1.get4
                by_cases hjn : j < n
                · have hjni : (j : Int) < (n : Int) := by omega
                  go_wp2
                  go_roundw
                  case rel => exact ⟨k + 1, a + 1, false, by omega, by go_num, hwz, hsa2, z1⟩
                  case measure => simp [intOf]; omega
                · obtain rfl : j = n := by omega
                  go_wp2
                  go_roundw
                  case rel => exact ⟨k + 1, a + 1, false, by omega, by go_num, hwz, hsa2, z1⟩
                  case measure => simp [intOf]; omega
          · have e2 := e1.symm
            subst e2
            clear e1
            have haa : ¬ a < a := by omega
            cases d
            · skip
              go_upto_region 18 with fail
              go_cut [13] (fun x13 wx => x13 = .int .i64 (fz : Int) ∧ wc = wx)
              case first =>
                have hfa : a = -1 ∨ ∃ f : Nat, a = (f : Int) := by
                  unfold StandsAt at hsa
                  by_cases h : a = -1
                  · exact .inl h
                  · exact .inr ⟨a.toNat, by omega⟩
                rcases hfa with rfl | ⟨f, rfl⟩
                · obtain rfl : (0 : Nat) = fz := HF.out
                  go_wp2
                  go_meet
                  exact ⟨rfl, rfl⟩
                · obtain rfl : f = fz := HF.out
                  have hmx : max (f : Int) 0 = (f : Int) := by omega
                  go_wp2
                  go_meet
                  exact ⟨rfl, rfl⟩
              case rest =>
                obtain ⟨rfl, rfl⟩ := hcut
                clear p0 p1 p2 p3
                go_wp2_with fail
                go_loopw [13] (fun x13 wx => ∃ j : Nat, x13 = .int .i64 j ∧ fz ≤ j ∧ j ≤ n ∧ Below wc.heap.size wc wx) (fun x13 _ => n - (intOf x13).toNat)
                case atStart => exact ⟨fz, rfl, Nat.le_refl _, hfn, Below.refl _ _⟩
                case round =>
                  obtain ⟨j, rfl, hj1, hj2, hwx⟩ := hrel
                  have z1 := y1.below hwx
                  have hwz := hw8.trans (hwx.mono hw8.size)
                  obtain ⟨p0, p1, p2, p3⟩ := z1.get4
                  by_cases hjn : j < n
                  · have hjni : (j : Int) < (n : Int) := by omega
                    go_wp2
                    go_roundw
                    case rel => exact ⟨k + 1, a, true, by omega, by go_num, hwz, hsa, z1⟩
                    case measure => simp [intOf]; omega
                  · obtain rfl : j = n := by omega
                    go_wp2
                    go_roundw
                    case rel => exact ⟨k + 1, a, true, by omega, by go_num, hwz, hsa, z1⟩
                    case measure => simp [intOf]; omega
            · skip
              go_upto_region 18 with fail
              go_cut [13] (fun x13 wx => x13 = .int .i64 (fz : Int) ∧ wc = wx)
              case first =>
                have hfa : a = -1 ∨ ∃ f : Nat, a = (f : Int) := by
                  unfold StandsAt at hsa
                  by_cases h : a = -1
                  · exact .inl h
                  · exact .inr ⟨a.toNat, by omega⟩
                rcases hfa with rfl | ⟨f, rfl⟩
                · obtain rfl : (0 : Nat) = fz := HF.out
                  go_wp2
                  go_meet
                  exact ⟨rfl, rfl⟩
                · obtain rfl : f = fz := HF.out
                  have hmx : max (f : Int) 0 = (f : Int) := by omega
                  go_wp2
                  go_meet
                  exact ⟨rfl, rfl⟩
              case rest =>
                obtain ⟨rfl, rfl⟩ := hcut
                clear p0 p1 p2 p3
                go_wp2_with fail
                go_loopw [13] (fun x13 wx => ∃ j : Nat, x13 = .int .i64 j ∧ fz ≤ j ∧ j ≤ n ∧ Below wc.heap.size wc wx) (fun x13 _ => n - (intOf x13).toNat)
                case atStart => exact ⟨fz, rfl, Nat.le_refl _, hfn, Below.refl _ _⟩
                case round =>
                  obtain ⟨j, rfl, hj1, hj2, hwx⟩ := hrel
                  have z1 := y1.below hwx
                  have hwz := hw8.trans (hwx.mono hw8.size)
                  obtain ⟨p0, p1, p2, p3⟩ := z1.get4
                  by_cases hjn : j < n
                  · have hjni : (j : Int) < (n : Int) := by omega
                    go_wp2
                    go_roundw
                    case rel => exact ⟨k + 1, a, true, by omega, by go_num, hwz, hsa, z1⟩
                    case measure => simp [intOf]; omega
                  · obtain rfl : j = n := by omega
                    go_wp2
                    go_roundw
                    case rel => exact ⟨k + 1, a, true, by omega, by go_num, hwz, hsa, z1⟩
                    case measure => simp [intOf]; omega
        · have hS : SeekR xs t a d ok a' := HS.out
          clear HS
          have hsa2 := hS.stands (by rw [HL.out]; exact hsa)
          rw [HL.out] at hsa2
          have ha'n : ¬ (n : Int) ≤ a' := by unfold StandsAt at hsa2; omega
          rcases hS with ⟨rfl, rfl, e1⟩ | ⟨rfl, k5, hk5, hS⟩
          · clear hfz
            have e2 := e1.symm
            subst e2
            clear e1
            have haa : ¬ a < a := by omega
            go_upto_region 18 with fail
            go_cut [13] (fun x13 wx => x13 = .int .i64 (fz : Int) ∧ wc = wx)
            case first =>
              have hfa : a = -1 ∨ ∃ f : Nat, a = (f : Int) := by
                unfold StandsAt at hsa
                by_cases h : a = -1
                · exact .inl h
                · exact .inr ⟨a.toNat, by omega⟩
              rcases hfa with rfl | ⟨f, rfl⟩
              · obtain rfl : (0 : Nat) = fz := HF.out
                go_wp2
                go_meet
                exact ⟨rfl, rfl⟩
              · obtain rfl : f = fz := HF.out
                have hmx : max (f : Int) 0 = (f : Int) := by omega
                go_wp2
                go_meet
                exact ⟨rfl, rfl⟩
            case rest =>
              obtain ⟨rfl, rfl⟩ := hcut
              clear p0 p1 p2 p3
              go_wp2_with fail
              go_loopw [13] (fun x13 wx => ∃ j : Nat, x13 = .int .i64 j ∧ fz ≤ j ∧ j ≤ n ∧ Below wc.heap.size wc wx) (fun x13 _ => n - (intOf x13).toNat)
              case atStart => exact ⟨fz, rfl, Nat.le_refl _, hfn, Below.refl _ _⟩
              case round =>
                obtain ⟨j, rfl, hj1, hj2, hwx⟩ := hrel
                have z1 := y1.below hwx
                have hwz := hw8.trans (hwx.mono hw8.size)
                obtain ⟨p0, p1, p2, p3⟩ := z1.get4
                by_cases hjn : j < n
                · have hjni : (j : Int) < (n : Int) := by omega
                  go_wp2
                  go_roundw
                  case rel => exact ⟨k + 1, a, true, by omega, by go_num, hwz, hsa, z1⟩
                  case measure => simp [intOf]; omega
                · obtain rfl : j = n := by omega
                  go_wp2
                  go_roundw
                  case rel => exact ⟨k + 1, a, true, by omega, by go_num, hwz, hsa, z1⟩
                  case measure => simp [intOf]; omega
          · rw [hfz] at hk5
            have hk5l := hk5.lo
            have HK5 := Lib.hid hk5
            clear hk5
            rcases hS with ⟨h5, rfl, rfl⟩ | ⟨h5, rfl, e1⟩
            · have haa : ¬ (k5 : Int) < a := by omega
              rw [HL.out] at h5
              clear hfz
              go_upto_region 18 with fail
              go_cut [13] (fun x13 wx => x13 = .int .i64 (fz : Int) ∧ wc = wx)
              case first =>
                have hfa : a = -1 ∨ ∃ f : Nat, a = (f : Int) := by
                  unfold StandsAt at hsa
                  by_cases h : a = -1
                  · exact .inl h
                  · exact .inr ⟨a.toNat, by omega⟩
                rcases hfa with rfl | ⟨f, rfl⟩
                · obtain rfl : (0 : Nat) = fz := HF.out
                  go_wp2
                  go_meet
                  exact ⟨rfl, rfl⟩
                · obtain rfl : f = fz := HF.out
                  have hmx : max (f : Int) 0 = (f : Int) := by omega
                  go_wp2
                  go_meet
                  exact ⟨rfl, rfl⟩
              case rest =>
                obtain ⟨rfl, rfl⟩ := hcut
                clear p0 p1 p2 p3
                go_wp2_with fail
                go_loopw [13] (fun x13 wx => ∃ j : Nat, x13 = .int .i64 j ∧ fz ≤ j ∧ j ≤ n ∧ Below wc.heap.size wc wx) (fun x13 _ => n - (intOf x13).toNat)
                case atStart => exact ⟨fz, rfl, Nat.le_refl _, hfn, Below.refl _ _⟩
                case round =>
                  obtain ⟨j, rfl, hj1, hj2, hwx⟩ := hrel
                  have z1 := y1.below hwx
                  have hwz := hw8.trans (hwx.mono hw8.size)
                  obtain ⟨p0, p1, p2, p3⟩ := z1.get4
                  by_cases hjn : j < n
                  · have hjni : (j : Int) < (n : Int) := by omega
                    obtain ⟨bd, hA, hbl, hc0, hc1⟩ := (hx.below hwz).at_ hjn
                    subst hA
                    clear hc1
                    have hT := HDT.out wr hwz
                    obtain ⟨x, hx1⟩ : ∃ x, (xs.getD j (0, 0)).1 = x := ⟨_, rfl⟩
                    rw [hx1] at hc0
                    have HX := Lib.hid hx1
                    clear hx1
                    by_cases hkj : k5 ≤ j
                    · have hkji : (k5 : Int) ≤ (j : Int) := by omega
                      have hxt : t ≤ x := by
                        have h1 := HRI.out.le hkj (by rw [HL.out]; exact hjn)
                        have h2 := HK5.out.here (by rw [HL.out]; omega)
                        rw [HX.out] at h1
                        omega
                      go_upto_region 22 with fail
                      go_cut [119] (fun x119 wx => x119 = .bool false ∧ Below wr.heap.size wr wx)
                      case first =>
                        go_quiet (fail)
                        go_wp2
                        go_meet
                        exact ⟨by simp, by repeat (first | with_reducible exact Below.refl _ _ | with_reducible assumption | with_reducible refine Below.drew ?_ | with_reducible refine below_drewN ?_ _ | with_reducible refine Below.alloc ?_ (by (first | assumption | omega | (simp; done) | (simp; omega))) _ | with_reducible refine below_set ?_ (by (first | assumption | omega | (simp; done) | (simp; omega))) _ _)⟩
                      case rest =>
                        obtain ⟨rfl, hb9⟩ := hcut
                        clear hc0 hT p0 p1 p2 p3
                        go_wp2
                        go_roundw
                        case rel => exact ⟨j + 1, by go_num, by omega, by omega, hwx.trans (hb9.mono hwx.size)⟩
                        case measure => simp [intOf]; omega
                    · have hkji : ¬ (k5 : Int) ≤ (j : Int) := by omega
                      have hxt : ¬ t ≤ x := by
                        have h1 := HK5.out.less j hj1 (by omega)
                        rw [HX.out] at h1
                        omega
                      go_upto_region 22 with fail
                      go_cut [119] (fun x119 wx => x119 = .bool false ∧ Below wr.heap.size wr wx)
                      case first =>
                        go_quiet (fail)
                        go_wp2
                        go_meet
                        exact ⟨by simp, by repeat (first | with_reducible exact Below.refl _ _ | with_reducible assumption | with_reducible refine Below.drew ?_ | with_reducible refine below_drewN ?_ _ | with_reducible refine Below.alloc ?_ (by (first | assumption | omega | (simp; done) | (simp; omega))) _ | with_reducible refine below_set ?_ (by (first | assumption | omega | (simp; done) | (simp; omega))) _ _)⟩
                      case rest =>
                        obtain ⟨rfl, hb9⟩ := hcut
                        clear hc0 hT p0 p1 p2 p3
                        go_wp2
                        go_roundw
                        case rel => exact ⟨j + 1, by go_num, by omega, by omega, hwx.trans (hb9.mono hwx.size)⟩
                        case measure => simp [intOf]; omega
                  · obtain rfl : j = n := by omega
                    go_wp2
                    go_roundw
                    case rel => exact ⟨k + 1, (k5 : Int), false, by omega, by go_num, hwz, hsa2, z1⟩
                    case measure => simp [intOf]; omega
            · rw [HL.out] at h5
              clear hfz
              have e2 := e1.symm
              subst e2
              clear e1
              have haa : ¬ a < a := by omega
              go_upto_region 18 with fail
              go_cut [13] (fun x13 wx => x13 = .int .i64 (fz : Int) ∧ wc = wx)
              case first =>
                have hfa : a = -1 ∨ ∃ f : Nat, a = (f : Int) := by
                  unfold StandsAt at hsa
                  by_cases h : a = -1
                  · exact .inl h
                  · exact .inr ⟨a.toNat, by omega⟩
                rcases hfa with rfl | ⟨f, rfl⟩
                · obtain rfl : (0 : Nat) = fz := HF.out
                  go_wp2
                  go_meet
                  exact ⟨rfl, rfl⟩
                · obtain rfl : f = fz := HF.out
                  have hmx : max (f : Int) 0 = (f : Int) := by omega
                  go_wp2
                  go_meet
                  exact ⟨rfl, rfl⟩
              case rest =>
                obtain ⟨rfl, rfl⟩ := hcut
                clear p0 p1 p2 p3
                go_wp2_with fail
                go_loopw [13] (fun x13 wx => ∃ j : Nat, x13 = .int .i64 j ∧ fz ≤ j ∧ j ≤ n ∧ Below wc.heap.size wc wx) (fun x13 _ => n - (intOf x13).toNat)
                case atStart => exact ⟨fz, rfl, Nat.le_refl _, hfn, Below.refl _ _⟩
                case round =>
                  obtain ⟨j, rfl, hj1, hj2, hwx⟩ := hrel
                  have z1 := y1.below hwx
                  have hwz := hw8.trans (hwx.mono hw8.size)
                  obtain ⟨p0, p1, p2, p3⟩ := z1.get4
                  by_cases hjn : j < n
                  · have hjni : (j : Int) < (n : Int) := by omega
                    obtain ⟨bd, hA, hbl, hc0, hc1⟩ := (hx.below hwz).at_ hjn
                    subst hA
                    clear hc1
                    have hT := HDT.out wr hwz
                    obtain ⟨x, hx1⟩ : ∃ x, (xs.getD j (0, 0)).1 = x := ⟨_, rfl⟩
                    rw [hx1] at hc0
                    have HX := Lib.hid hx1
                    clear hx1
                    have hxt : ¬ t ≤ x := by
                      have h1 := HK5.out.less j hj1 (by omega)
                      rw [HX.out] at h1
                      omega
                    go_upto_region 22 with fail
                    go_cut [119] (fun x119 wx => x119 = .bool false ∧ Below wr.heap.size wr wx)
                    case first =>
                      go_quiet (fail)
                      go_wp2
                      go_meet
                      exact ⟨by simp, by repeat (first | with_reducible exact Below.refl _ _ | with_reducible assumption | with_reducible refine Below.drew ?_ | with_reducible refine below_drewN ?_ _ | with_reducible refine Below.alloc ?_ (by (first | assumption | omega | (simp; done) | (simp; omega))) _ | with_reducible refine below_set ?_ (by (first | assumption | omega | (simp; done) | (simp; omega))) _ _)⟩
                    case rest =>
                      obtain ⟨rfl, hb9⟩ := hcut
                      clear hc0 hT p0 p1 p2 p3
                      go_wp2
                      go_roundw
                      case rel => exact ⟨j + 1, by go_num, by omega, by omega, hwx.trans (hb9.mono hwx.size)⟩
                      case measure => simp [intOf]; omega
                  · obtain rfl : j = n := by omega
                    go_wp2
                    go_roundw
                    case rel => exact ⟨k + 1, a, true, by omega, by go_num, hwz, hsa, z1⟩
                    case measure => simp [intOf]; omega
    · obtain rfl : k = m2 := by omega
      go_wp2
      go_ret
      exact ⟨rfl, hb1.trans (hwr.mono hb1.size)⟩

theorem cforth_all (A1 A2 : Option Addr) (m1 c1 m2 c2 : Nat) (ys : List (Int × Nat)) (w : World) (h1 : RdQ w w.heap.size A1 m1 c1 ys) (h2 : RdP w w.heap.size A2 m2) (hl : m1 ≤ 9223372036854775807 ∧ m2 ≤ 9223372036854775807) :
    Calls Try.prog 4 #[.slice A1 m1 c1, .slice A2 m2 c2] w (RetTrue w) := by
  by_cases hs : m1 ≤ 100 ∧ m2 ≤ 100
  · exact cforth_in A1 A2 m1 c1 m2 c2 ys w h1 h2 hs.1 hs.2
  · exact cforth_big A1 A2 m1 c1 m2 c2 w hl (by omega)

end Go.Proofs.Ytikcclagckcjnaa
