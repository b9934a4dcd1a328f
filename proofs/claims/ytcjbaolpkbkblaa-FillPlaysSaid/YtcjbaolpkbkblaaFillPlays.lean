/-
  FillPlays, walked: it returns true, whatever the arguments.
-/
import Derived.Test.YtcjbaolpkbkblaaFillUp
import Derived.Test.YtcjbaolpkbkblaaPick
import Derived.Test.YtcjbaolpkbkblaaFlat
import Derived.Test.YtcjbaolpkbkblaaNumber
import Derived.Test.YtcjbaolpkbkblaaZeros
import Derived.Test.YtcjbaolpkbkblaaDeeds
namespace Go.Proofs.Ytcjbaolpkbkblaa
open Go.RowKit

set_option maxHeartbeats 400000 in
theorem plays_big (A1 A2 : Option Addr) (m1 c1 m2 c2 : Nat) (w : World) (hl : m1 ≤ 9223372036854775807 ∧ m2 ≤ 9223372036854775807) (h : 500 < m1 ∨ (m1 ≤ 500 ∧ 100 < m2)) :
    Calls Try.prog 3 #[.slice A1 m1 c1, .slice A2 m2 c2] w (RetTrue w) := by
  rcases h with h | h
  all_goals
    go_enter Try.func3, Try.ntmps3
    go_wp2_with (go_at_call 5; refine (up2_any _).mono ?_; rintro e w1 ⟨rfl, hb1⟩)
    go_ret
    exact ⟨rfl, hb1⟩

/-- a slice of bits, apart from the reader's block -/
structure Rest (w : World) (g : Nat) (A : Option Addr) (m c : Nat) (p : List Bool) : Prop where
  rd : Rd w w.heap.size A m c (enc p)
  ne : ∀ ad, A = some ad → ad.block ≠ g
section
variable {w w' : World} {g m c n1 c1 b k : Nat} {A A1 : Option Addr} {p : List Bool} {bs : List Nat}
theorem Rest.len (h : Rest w g A m c p) : p.length = m := by have := h.rd.len; rwa [enc_length] at this
theorem Rest.went (h : Rest w g A m c p) (hw : Went w g A1 n1 c1 bs b w') : Rest w' g A m c p :=
  ⟨(h.rd.far hw.only (Nat.le_refl _) h.ne).more (by rw [hw.size]; exact Nat.le_refl _), h.ne⟩
theorem Rest.drewN (h : Rest w g A m c p) (n : Nat) : Rest (w.drewN n) g A m c p := ⟨h.rd.drewN n, h.ne⟩
theorem Rest.below (h : Rest w g A m c p) (hb : Below w.heap.size w w') : Rest w' g A m c p := ⟨(h.rd.below hb).more hb.size, h.ne⟩
theorem Rest.cut (h : Rest w g A m c p) (hk : k ≤ m) : Rest w g (A.map fun x => x.add k) (m - k) (c - k) (p.drop k) := by
  have h1 := h.rd.cutTo (a := k) (n := m - k) (by omega)
  have e : ((enc p).drop k).take (m - k) = enc (p.drop k) := by
    rw [List.take_of_length_le (by rw [List.length_drop, h.rd.len]; omega)]
    simp [enc]
  rw [e] at h1
  refine ⟨h1, fun ad e => ?_⟩
  cases A with
  | none => cases e
  | some a =>
    injection e with e
    rw [← e, add_block]
    exact h.ne a rfl
theorem Rest.cutEnd (h : Rest w g A m k p) (hk : k ≤ m) : Rest w g A (m - k) 0 (p.drop k) := by
  have h1 := h.rd.cutEnd (n := m - k) (by omega)
  have e : ((enc p).drop k).take (m - k) = enc (p.drop k) := by
    rw [List.take_of_length_le (by rw [List.length_drop, h.rd.len]; omega)]
    simp [enc]
  rw [e] at h1
  exact ⟨h1, h.ne⟩
end
theorem enc_zeros (n : Nat) : enc (List.replicate n false) = List.replicate n 0 := by simp [enc]
theorem zeros_take (p : List Bool) (a n : Nat) (h : n ≤ 56) : (enc (p.drop a) ++ List.replicate 56 0).take n = enc (ext p a n) := by
  rw [← enc_zeros, ← enc_app, enc_take, ext_zeros _ _ _ _ h]
theorem rest_take (p : List Bool) (a n : Nat) (h : a + n ≤ p.length) : (p.drop a).take n = ext p a n := by rw [ext_cut _ _ _ h]; rfl

/-- where the loop of FillPlays stands -/
def AtPlays (w : World) (g : Nat) (A1 : Option Addr) (m1 c1 : Nat) (bs : List Nat) (m2 : Nat) (t7 t8 : Value) (wr : World) : Prop :=
  ∃ (k a m c : Nat) (A : Option Addr), k ≤ m2 ∧ t8 = .int .i64 (k : Int) ∧ t7 = .slice A m c ∧ Rest wr g A m c ((flat bs).drop a) ∧ Rdr wr g A1 m1 c1 bs a ∧ Below g w wr

set_option maxRecDepth 100000 in
set_option maxHeartbeats 4000000 in
theorem plays_in (A1 A2 : Option Addr) (m1 c1 m2 c2 : Nat) (bs : List Nat) (w : World) (h1 : Rd w w.heap.size A1 m1 c1 bs) (hb : ∀ x ∈ bs, x < 256) (h2 : RdP w w.heap.size A2 m2) (hl1 : m1 ≤ 500) (hl2 : m2 ≤ 100) :
    Calls Try.prog 3 #[.slice A1 m1 c1, .slice A2 m2 c2] w (RetTrue w) := by
  have HB := Lib.hid hb
  clear hb
  have HL := Lib.hid h1.len
  go_enter Try.func3, Try.ntmps3
  go_wp2_with fail
  refine (up2_any _).mono ?_
  rintro e w1 ⟨rfl, hu1⟩
  go_wp2_with fail
  have hrd1 := (h1.below hu1).more hu1.size
  refine (new_any _ _ _ bs _ hrd1 HB.out (by omega)).mono ?_
  rintro e w2 ⟨rfl, hr2, hb2, hs2⟩
  have hrd2 := (hrd1.below hb2).more hb2.size
  have hs1 := hu1.size
  generalize w1.heap.size = g at *
  have hw2 : Below w.heap.size w w2 := hu1.trans (hb2.mono hs1)
  have hi2 := h2.below hw2
  have HS2 := Lib.hid hs2
  clear h2 h1 hu1 hs2 hrd1
  go_wp2_with fail
  refine (flat_any _ _ _ bs _ hrd2 HB.out (by omega)).mono ?_
  rintro e w3 ⟨A3, c3, rfl, hown⟩
  have hr3 := hr2.below hown.bel
  have hb3 : Below g w2 w3 := hown.bel.mono (by have := HS2.out; omega)
  have hrest : Rest w3 g A3 (enc (flat bs)).length c3 ((flat bs).drop 0) := ⟨hown.rd, fun ad e => by
    have := (hown.row.lt ad.block (by rw [e]; rfl)).1
    have := HS2.out
    omega⟩
  have hml : (enc (flat bs)).length ≤ 8 * m1 ∧ 8 * m1 ≤ (enc (flat bs)).length := by rw [enc_length, flat_length, HL.out]; omega
  generalize (enc (flat bs)).length = m0 at *
  clear hown hr2
  go_wp2_with fail
  go_loopw [7, 8] (AtPlays w2 g A1 m1 c1 bs m2) (fun _ i _ => m2 - (intOf i).toNat)
  case atStart => exact ⟨0, 0, m0, c3, A3, by omega, rfl, rfl, hrest, hr3, hb3⟩
  case round =>
    clear hml hrest hr3 hb3 hrd2
    obtain ⟨k, a, m, c, A, hk, rfl, rfl, hrest, hr, hbr⟩ := hrel
    have hat := hr.at_
    have HM : Hid (8 * m1 - a = m) := Lib.hid (by have := hrest.len; rw [List.length_drop, flat_length, HL.out] at this; exact this)
    have hma : m + a ≤ 8 * m1 := by have := HM.out; omega
    have ham : 8 * m1 ≤ m + a := by have := HM.out; omega
    have hmc := hrest.rd.cap
    by_cases hlt : k < m2
    · obtain ⟨ad, x, n, rfl, hcx, hcn, hx1, hx2, hn1, hn2⟩ := (hi2.below (hbr.mono hs1)).at_ hlt
      go_wp2_with fail
      refine (pick_any _ _ _ (by omega) (by omega)).mono ?_
      rintro e w4 ⟨rfl, rfl⟩
      have hq0 := Int.emod_nonneg x (by omega : (4 : Int) ≠ 0)
      have hq4 := Int.emod_lt_of_pos x (by omega : (0 : Int) < 4)
      generalize x % 4 = q at *
      by_cases hq : q = 0
      · subst hq
        by_cases hn : 0 ≤ n ∧ n ≤ 56
        · obtain ⟨n, rfl⟩ := Int.eq_ofNat_of_zero_le hn.1
          have hn56 : n ≤ 56 := by omega
          clear hn
          have HZ := Lib.hid (zeros_take (flat bs) a n hn56)
          have HRL := Lib.hid hrest.rd.len
          go_wp2_with (at_builtin; first
            | (refine wpList_app rfl (.tmp 89) (.tmp 90) rfl rfl rfl (Own.lit0 (Below.refl wr.heap.size wr)) (hrest.below ((Below.refl wr.heap.size wr).alloc (Nat.le_refl _) _)).rd (by simp; omega) ?_; intro v5 w5 hown5; rw [List.nil_append] at hown5)
            | (refine wpList_zeros rfl (.tmp 91) (.const (.int .i64 56)) rfl 56 rfl rfl rfl hown5 (by rw [HRL.out]; omega) ?_; intro v6 w6 hown6 _; obtain ⟨A6, c6, rfl, hrd6⟩ := hown6.form; have hl6 : n ≤ (enc (List.drop a (flat bs)) ++ List.replicate 56 0).length := (by simp; omega); have hc6 := hrd6.cap; have hrd7 := hrd6.cutHead (n := n) hl6; rw [HZ.out] at hrd7; have hb6 := hown6.bel; generalize (enc (List.drop a (flat bs)) ++ List.replicate 56 0).length = l6 at *; clear hown6 hown5))
          refine (number_any _ n _ _ _ _ hrd7 (by omega)).mono ?_
          rintro e w7 ⟨rfl, rfl⟩
          have hr7 := hr.below hb6
          have hrest7 := hrest.below hb6
          have hb7 : Below g w2 w6 := hbr.trans (hb6.mono (by have := hr.lt; omega))
          go_wp2_with fail
          refine (peek_yes _ _ _ _ _ a n _ hr7 hn56).mono ?_
          rintro e w8 ⟨rfl, m8, hw8⟩
          have hr8 := hr7.drewN m8
          have hrest8 := hrest7.drewN m8
          have hb8 : Below g w2 (w6.drewN m8) := ⟨hb7.os, hb7.tape, hb7.output, hb7.size, hb7.block⟩
          rw [← hw8] at hr8 hrest8 hb8
          clear hw8
          go_wp2_with fail
          refine (left_any _ _ _ _ _ _ _ hr8).mono ?_
          rintro e w9 ⟨rfl, m9, rfl⟩
          rw [HM.out]
          go_wp2
          go_roundw
          case rel => exact ⟨k + 1, a, _, _, _, by omega, by go_num, rfl, hrest8.drewN _, hr8.drewN _, ⟨hb8.os, hb8.tape, hb8.output, hb8.size, hb8.block⟩⟩
          case measure => simp [intOf]; omega
        · have hno : n < 0 ∨ (0 ≤ n ∧ 56 < n) := by omega
          clear hn
          rcases hno with hn | hn
          all_goals
            go_wp2_with fail
            refine (peek_no _ _ _ (by omega)).mono ?_
            rintro e w5 ⟨rfl, rfl⟩
            go_wp2_with fail
            refine (left_any _ _ _ _ _ _ _ hr).mono ?_
            rintro e w9 ⟨rfl, m9, rfl⟩
            rw [HM.out]
            go_wp2
            go_roundw
            case rel => exact ⟨k + 1, a, _, _, _, by omega, by go_num, rfl, hrest.drewN _, hr.drewN _, ⟨hbr.os, hbr.tape, hbr.output, hbr.size, hbr.block⟩⟩
            case measure => simp [intOf]; omega
      · by_cases hq1 : q = 1
        · subst hq1
          by_cases hn : 0 ≤ n ∧ n ≤ (m : Int)
          · obtain ⟨n, rfl⟩ := Int.eq_ofNat_of_zero_le hn.1
            have hnm : n ≤ m := by omega
            have HM2 : Hid (8 * m1 - (a + n) = m - n) := Lib.hid (by omega)
            go_wp2_with fail
            refine (skip_yes _ _ _ _ _ a n _ hr (by omega)).mono ?_
            rintro e w5 ⟨rfl, hw5⟩
            have hr5 := hw5.rdr
            have hrest5 := hrest.went hw5
            have hb5 : Below g w2 w5 := hbr.grown hw5.only (by have := hr.lt; omega) (fun k hk => by injection hk with hk; omega)
            clear hn
            by_cases hcn' : c = n
            · subst hcn'
              have hrest6 := hrest5.cutEnd hnm
              rw [List.drop_drop, Nat.sub_eq_zero_of_le hmc] at hrest6
              go_wp2_with fail
              refine (left_any _ _ _ _ _ _ _ hr5).mono ?_
              rintro e w9 ⟨rfl, m9, rfl⟩
              rw [HM2.out]
              go_wp2
              go_roundw
              case rel => exact ⟨k + 1, a + c, _, _, _, by omega, by go_num, rfl, hrest6.drewN _, hr5.drewN _, ⟨hb5.os, hb5.tape, hb5.output, hb5.size, hb5.block⟩⟩
              case measure => simp [intOf]; omega
            · have hrest6 := hrest5.cut hnm
              rw [List.drop_drop] at hrest6
              go_wp2_with fail
              refine (left_any _ _ _ _ _ _ _ hr5).mono ?_
              rintro e w9 ⟨rfl, m9, rfl⟩
              rw [HM2.out]
              go_wp2
              go_roundw
              case rel => exact ⟨k + 1, a + n, _, _, _, by omega, by go_num, rfl, hrest6.drewN _, hr5.drewN _, ⟨hb5.os, hb5.tape, hb5.output, hb5.size, hb5.block⟩⟩
              case measure => simp [intOf]; omega
          · have hno : n < 0 ∨ (0 ≤ n ∧ (m : Int) < n) := by omega
            clear hn
            rcases hno with hn | hn
            all_goals
              go_wp2_with fail
              refine (skip_no _ _ _ _ _ a _ _ hr (by rw [HM.out]; omega)).mono ?_
              rintro e w5 ⟨rfl, m5, hw5⟩
              have hr5 := hr.drewN m5
              have hrest5 := hrest.drewN m5
              have hb5 : Below g w2 (wr.drewN m5) := ⟨hbr.os, hbr.tape, hbr.output, hbr.size, hbr.block⟩
              rw [← hw5] at hr5 hrest5 hb5
              clear hw5
              go_wp2_with fail
              refine (left_any _ _ _ _ _ _ _ hr5).mono ?_
              rintro e w9 ⟨rfl, m9, rfl⟩
              rw [HM.out]
              go_wp2
              go_roundw
              case rel => exact ⟨k + 1, a, _, _, _, by omega, by go_num, rfl, hrest5.drewN _, hr5.drewN _, ⟨hb5.os, hb5.tape, hb5.output, hb5.size, hb5.block⟩⟩
              case measure => simp [intOf]; omega
        · by_cases hn : 0 ≤ n ∧ n ≤ 64 ∧ n ≤ (m : Int)
          · obtain ⟨n, rfl⟩ := Int.eq_ofNat_of_zero_le hn.1
            have hnm : n ≤ m := by omega
            have hn64 : n ≤ 64 := by omega
            have HM2 : Hid (8 * m1 - (a + n) = m - n) := Lib.hid (by omega)
            have HE := Lib.hid (rest_take (flat bs) a n (by rw [flat_length, HL.out]; omega))
            go_wp2_with fail
            refine (read_yes _ _ _ _ _ a n _ hr hn64 (by omega)).mono ?_
            rintro e w5 ⟨rfl, hw5⟩
            have hr5 := hw5.rdr
            have hrest5 := hrest.went hw5
            have hb5 : Below g w2 w5 := hbr.grown hw5.only (by have := hr.lt; omega) (fun k hk => by injection hk with hk; omega)
            have hrd5 := hrest5.rd.cutHead (n := n) hnm
            rw [enc_take, HE.out] at hrd5
            clear hn
            go_wp2_with fail
            refine (number_any _ n _ _ _ _ hrd5 hn64).mono ?_
            rintro e w6 ⟨rfl, rfl⟩
            by_cases hcn' : c = n
            · subst hcn'
              have hrest6 := hrest5.cutEnd hnm
              rw [List.drop_drop, Nat.sub_eq_zero_of_le hmc] at hrest6
              go_wp2_with fail
              refine (left_any _ _ _ _ _ _ _ hr5).mono ?_
              rintro e w9 ⟨rfl, m9, rfl⟩
              rw [HM2.out]
              go_wp2
              go_roundw
              case rel => exact ⟨k + 1, a + c, _, _, _, by omega, by go_num, rfl, hrest6.drewN _, hr5.drewN _, ⟨hb5.os, hb5.tape, hb5.output, hb5.size, hb5.block⟩⟩
              case measure => simp [intOf]; omega
            · have hrest6 := hrest5.cut hnm
              rw [List.drop_drop] at hrest6
              go_wp2_with fail
              refine (left_any _ _ _ _ _ _ _ hr5).mono ?_
              rintro e w9 ⟨rfl, m9, rfl⟩
              rw [HM2.out]
              go_wp2
              go_roundw
              case rel => exact ⟨k + 1, a + n, _, _, _, by omega, by go_num, rfl, hrest6.drewN _, hr5.drewN _, ⟨hb5.os, hb5.tape, hb5.output, hb5.size, hb5.block⟩⟩
              case measure => simp [intOf]; omega
          · have hno : n < 0 ∨ (0 ≤ n ∧ 64 < n) ∨ (0 ≤ n ∧ n ≤ 64 ∧ (m : Int) < n) := by omega
            clear hn
            rcases hno with hn | hn | hn
            all_goals
              go_wp2_with fail
              refine (read_no _ _ _ _ _ a _ _ hr (by rw [HM.out]; omega)).mono ?_
              rintro e w5 ⟨rfl, m5, hw5⟩
              have hr5 := hr.drewN m5
              have hrest5 := hrest.drewN m5
              have hb5 : Below g w2 (wr.drewN m5) := ⟨hbr.os, hbr.tape, hbr.output, hbr.size, hbr.block⟩
              rw [← hw5] at hr5 hrest5 hb5
              clear hw5
              go_wp2_with fail
              refine (left_any _ _ _ _ _ _ _ hr5).mono ?_
              rintro e w9 ⟨rfl, m9, rfl⟩
              rw [HM.out]
              go_wp2
              go_roundw
              case rel => exact ⟨k + 1, a, _, _, _, by omega, by go_num, rfl, hrest5.drewN _, hr5.drewN _, ⟨hb5.os, hb5.tape, hb5.output, hb5.size, hb5.block⟩⟩
              case measure => simp [intOf]; omega
    · go_wp2
      go_ret
      exact ⟨rfl, hw2.trans (hbr.mono hs1)⟩

end Go.Proofs.Ytcjbaolpkbkblaa
