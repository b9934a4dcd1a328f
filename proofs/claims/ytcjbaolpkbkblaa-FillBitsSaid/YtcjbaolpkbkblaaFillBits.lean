/-
  FillBits, walked: it returns true, whatever the arguments.
-/
import Derived.Test.YtcjbaolpkbkblaaFillUp
import Derived.Test.YtcjbaolpkbkblaaPick
import Derived.Test.YtcjbaolpkbkblaaLists
namespace Go.Proofs.Ytcjbaolpkbkblaa
open Go.RowKit

set_option maxHeartbeats 400000 in
theorem fillbits_big (A1 A2 : Option Addr) (m1 c1 m2 c2 : Nat) (w : World) (hl : m1 ≤ 9223372036854775807 ∧ m2 ≤ 9223372036854775807) (h : 500 < m1 ∨ (m1 ≤ 500 ∧ 100 < m2)) :
    Calls Try.prog 4 #[.slice A1 m1 c1, .slice A2 m2 c2] w (RetTrue w) := by
  rcases h with h | h
  all_goals
    go_enter Try.func4, Try.ntmps4
    go_wp2_with (go_at_call 5; refine (up2_any _).mono ?_; rintro e w1 ⟨rfl, hb1⟩)
    go_ret
    exact ⟨rfl, hb1⟩

/-- where the loop of FillBits stands -/
def AtBits (w : World) (g : Nat) (A1 : Option Addr) (m1 c1 : Nat) (bs : List Nat) (m2 : Nat) (t7 t8 : Value) (wr : World) : Prop :=
  ∃ k a : Nat, k ≤ m2 ∧ t8 = .int .i64 (k : Int) ∧ t7 = .int .i64 (a : Int) ∧ Rdr wr g A1 m1 c1 bs a ∧ Below g w wr

set_option maxRecDepth 100000 in
set_option maxHeartbeats 1000000 in
theorem fillbits_in (A1 A2 : Option Addr) (m1 c1 m2 c2 : Nat) (bs : List Nat) (xs : List Int) (w : World) (h1 : Rd w w.heap.size A1 m1 c1 bs) (hb : ∀ x ∈ bs, x < 256) (h2 : RdI w w.heap.size A2 m2 xs) (hl1 : m1 ≤ 500) (hl2 : m2 ≤ 100) :
    Calls Try.prog 4 #[.slice A1 m1 c1, .slice A2 m2 c2] w (RetTrue w) := by
  have HB := Lib.hid hb
  clear hb
  go_enter Try.func4, Try.ntmps4
  go_wp2_with fail
  refine (up2_any _).mono ?_
  rintro e w1 ⟨rfl, hu1⟩
  go_wp2_with fail
  refine (new_any _ _ _ bs _ ((h1.below hu1).more hu1.size) HB.out (by omega)).mono ?_
  rintro e w2 ⟨rfl, hr2, hb2, _⟩
  have hs1 := hu1.size
  generalize w1.heap.size = g at *
  have hw2 : Below w.heap.size w w2 := hu1.trans (hb2.mono hs1)
  have hi2 := h2.below hw2
  clear h2 h1 hu1
  go_wp2_with fail
  go_loopw [7, 8] (AtBits w2 g A1 m1 c1 bs m2) (fun _ i _ => m2 - (intOf i).toNat)
  case atStart => exact ⟨0, 0, by omega, rfl, rfl, hr2, Below.refl _ _⟩
  case round =>
    obtain ⟨k, a, hk, rfl, rfl, hr, hbr⟩ := hrel
    by_cases hlt : k < m2
    · obtain ⟨ad, x, rfl, _, hc, hx1, hx2, _⟩ := (hi2.below (hbr.mono hs1)).at_ hlt
      go_wp2_with fail
      refine (pick_any _ _ _ (by omega) (by omega)).mono ?_
      rintro e w3 ⟨rfl, rfl⟩
      obtain ⟨n, hn⟩ := Int.eq_ofNat_of_zero_le (Int.emod_nonneg x (by omega : (65 : Int) ≠ 0))
      have hn64 : n ≤ 64 := by have := Int.emod_lt_of_pos x (by omega : (0 : Int) < 65); omega
      rw [hn]
      clear hn
      have HL := Lib.hid hr.len
      have hat := hr.at_
      by_cases han : a + n ≤ 8 * m1
      · have HT := Lib.hid (takeB_yes (bs := bs) (a := a) (n := n) hn64 (by rw [HL.out]; exact han))
        have HE := Lib.hid (ext_cut (flat bs) a n (by rw [flat_length, HL.out]; exact han))
        go_wp2_with fail
        refine (take_yes _ _ _ _ bs a n _ hr.rd HB.out (by omega) hn64 han).mono ?_
        rintro e w4 ⟨rfl, rfl⟩
        rw [HT.out.1, HT.out.2, ← HE.out]
        go_wp2_with fail
        refine (read_yes _ _ _ _ _ _ _ _ hr hn64 han).mono ?_
        rintro e w5 ⟨rfl, hw5⟩
        go_wp2_with fail
        obtain ⟨b, HA⟩ : ∃ b, Hid (b = a + n) := ⟨_, Lib.hid rfl⟩
        have hab : (a : Int) + (n : Int) = (b : Int) := by have := HA.out; omega
        rw [hab]
        clear hab
        have hr5 := hw5.rdr
        rw [← HA.out] at hr5
        have hb5 : Below g w2 w5 := hbr.grown hw5.only (by have := hr.lt; omega) (fun k hk => by injection hk with hk; omega)
        refine (left_any _ _ _ _ _ _ _ hr5).mono ?_
        rintro e w6 ⟨rfl, m6, rfl⟩
        have hlm : 8 * m1 - b ≤ 8 * m1 := by omega
        have hlb : b + (8 * m1 - b) ≤ 8 * m1 := by have := hr5.at_; omega
        generalize 8 * m1 - b = l at *
        go_wp2_with fail
        all_goals
          first
          |
            (have hf : 56 ≤ 56 := by omega
             have hbf : b + 56 ≤ 8 * m1 := by omega
             have HT2 := Lib.hid (takeB_yes (bs := bs) (a := b) (n := 56) (by omega) (by rw [HL.out]; exact hbf))
             have HE2 := Lib.hid (ext_cut (flat bs) b 56 (by rw [flat_length, HL.out]; exact hbf))
             refine (take_yes _ _ _ _ bs b 56 _ (hr5.drewN m6).rd HB.out (by omega) (by omega) hbf).mono ?_
             rintro e w7 ⟨rfl, rfl⟩
             rw [HT2.out.1, HT2.out.2, ← HE2.out]
             go_wp2_with fail
             refine (peek_yes _ _ _ _ _ b 56 _ (hr5.drewN m6) hf).mono ?_
             rintro e w8 ⟨rfl, m8, rfl⟩)
          |
            (have hf : n ≤ 56 := by omega
             have hbf : b + n ≤ 8 * m1 := by omega
             have HT2 := Lib.hid (takeB_yes (bs := bs) (a := b) (n := n) (by omega) (by rw [HL.out]; exact hbf))
             have HE2 := Lib.hid (ext_cut (flat bs) b n (by rw [flat_length, HL.out]; exact hbf))
             refine (take_yes _ _ _ _ bs b n _ (hr5.drewN m6).rd HB.out (by omega) (by omega) hbf).mono ?_
             rintro e w7 ⟨rfl, rfl⟩
             rw [HT2.out.1, HT2.out.2, ← HE2.out]
             go_wp2_with fail
             refine (peek_yes _ _ _ _ _ b n _ (hr5.drewN m6) hf).mono ?_
             rintro e w8 ⟨rfl, m8, rfl⟩)
          |
            (have hf : l ≤ 56 := by omega
             have hbf : b + l ≤ 8 * m1 := by omega
             have HT2 := Lib.hid (takeB_yes (bs := bs) (a := b) (n := l) (by omega) (by rw [HL.out]; exact hbf))
             have HE2 := Lib.hid (ext_cut (flat bs) b l (by rw [flat_length, HL.out]; exact hbf))
             refine (take_yes _ _ _ _ bs b l _ (hr5.drewN m6).rd HB.out (by omega) (by omega) hbf).mono ?_
             rintro e w7 ⟨rfl, rfl⟩
             rw [HT2.out.1, HT2.out.2, ← HE2.out]
             go_wp2_with fail
             refine (peek_yes _ _ _ _ _ b l _ (hr5.drewN m6) hf).mono ?_
             rintro e w8 ⟨rfl, m8, rfl⟩)
        all_goals
          go_wp2
          go_roundw
          case rel => exact ⟨k + 1, b, by omega, by go_num, rfl, hr5.drewN _, ⟨hb5.os, hb5.tape, hb5.output, hb5.size, hb5.block⟩⟩
          case measure => simp [intOf]; omega
      · have HT := Lib.hid (takeB_no (bs := bs) (a := a) (n := n) (by rw [HL.out]; omega))
        go_wp2_with fail
        refine (take_all _ _ _ _ bs a n _ hr.rd HB.out (by omega) (by omega) (by omega)).mono ?_
        rintro e w4 ⟨rfl, rfl⟩
        rw [HT.out.1, HT.out.2]
        go_wp2_with fail
        refine (read_no _ _ _ _ _ a n _ hr (by omega)).mono ?_
        rintro e w5 ⟨rfl, m5, hw5⟩
        have hr5 := hr.drewN m5
        have hb5 : Below g w2 (wr.drewN m5) := ⟨hbr.os, hbr.tape, hbr.output, hbr.size, hbr.block⟩
        rw [← hw5] at hr5 hb5
        clear hw5
        go_wp2_with fail
        obtain ⟨b, rfl⟩ : ∃ b, b = a := ⟨_, rfl⟩
        refine (left_any _ _ _ _ _ _ _ hr5).mono ?_
        rintro e w6 ⟨rfl, m6, rfl⟩
        have hlm : 8 * m1 - b ≤ 8 * m1 := by omega
        have hlb : b + (8 * m1 - b) ≤ 8 * m1 := by have := hr5.at_; omega
        generalize 8 * m1 - b = l at *
        go_wp2_with fail
        all_goals
          first
          |
            (have hf : 56 ≤ 56 := by omega
             have hbf : b + 56 ≤ 8 * m1 := by omega
             have HT2 := Lib.hid (takeB_yes (bs := bs) (a := b) (n := 56) (by omega) (by rw [HL.out]; exact hbf))
             have HE2 := Lib.hid (ext_cut (flat bs) b 56 (by rw [flat_length, HL.out]; exact hbf))
             refine (take_yes _ _ _ _ bs b 56 _ (hr5.drewN m6).rd HB.out (by omega) (by omega) hbf).mono ?_
             rintro e w7 ⟨rfl, rfl⟩
             rw [HT2.out.1, HT2.out.2, ← HE2.out]
             go_wp2_with fail
             refine (peek_yes _ _ _ _ _ b 56 _ (hr5.drewN m6) hf).mono ?_
             rintro e w8 ⟨rfl, m8, rfl⟩)
          |
            (have hf : n ≤ 56 := by omega
             have hbf : b + n ≤ 8 * m1 := by omega
             have HT2 := Lib.hid (takeB_yes (bs := bs) (a := b) (n := n) (by omega) (by rw [HL.out]; exact hbf))
             have HE2 := Lib.hid (ext_cut (flat bs) b n (by rw [flat_length, HL.out]; exact hbf))
             refine (take_yes _ _ _ _ bs b n _ (hr5.drewN m6).rd HB.out (by omega) (by omega) hbf).mono ?_
             rintro e w7 ⟨rfl, rfl⟩
             rw [HT2.out.1, HT2.out.2, ← HE2.out]
             go_wp2_with fail
             refine (peek_yes _ _ _ _ _ b n _ (hr5.drewN m6) hf).mono ?_
             rintro e w8 ⟨rfl, m8, rfl⟩)
          |
            (have hf : l ≤ 56 := by omega
             have hbf : b + l ≤ 8 * m1 := by omega
             have HT2 := Lib.hid (takeB_yes (bs := bs) (a := b) (n := l) (by omega) (by rw [HL.out]; exact hbf))
             have HE2 := Lib.hid (ext_cut (flat bs) b l (by rw [flat_length, HL.out]; exact hbf))
             refine (take_yes _ _ _ _ bs b l _ (hr5.drewN m6).rd HB.out (by omega) (by omega) hbf).mono ?_
             rintro e w7 ⟨rfl, rfl⟩
             rw [HT2.out.1, HT2.out.2, ← HE2.out]
             go_wp2_with fail
             refine (peek_yes _ _ _ _ _ b l _ (hr5.drewN m6) hf).mono ?_
             rintro e w8 ⟨rfl, m8, rfl⟩)
        all_goals
          go_wp2
          go_roundw
          case rel => exact ⟨k + 1, b, by omega, by go_num, rfl, hr5.drewN _, ⟨hb5.os, hb5.tape, hb5.output, hb5.size, hb5.block⟩⟩
          case measure => simp [intOf]; omega
    · go_wp2_with fail
      refine (left_any _ _ _ _ _ _ _ hr).mono ?_
      rintro e w3 ⟨rfl, m3, rfl⟩
      have hat := hr.at_
      have hle : ((8 * m1 - a : Nat) : Int) = 8 * (m1 : Int) - (a : Int) := by omega
      rw [hle]
      go_wp2
      go_ret
      refine ⟨rfl, ?_⟩
      have := hw2.trans (hbr.mono hs1)
      exact ⟨this.os, this.tape, this.output, this.size, this.block⟩

end Go.Proofs.Ytcjbaolpkbkblaa
