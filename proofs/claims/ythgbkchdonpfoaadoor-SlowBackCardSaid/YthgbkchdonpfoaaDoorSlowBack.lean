/-
  SlowBack, walked: it returns true, whatever the arguments.
-/
import Derived.Test.YthgbkchdonpfoaaDoorSlowUp
import Derived.Test.YthgbkchdonpfoaaDoorSlow3
import Derived.Test.YthgbkchdonpfoaaDoorChunks
import Derived.Test.YthgbkchdonpfoaaDoorRising
import Derived.Test.YthgbkchdonpfoaaDoorWords
namespace Go.Proofs.YthgbkchdonpfoaaDoor
open Go.RowKit

set_option maxRecDepth 20000 in
set_option maxHeartbeats 1000000 in
theorem sback10_big (A1 A2 : Option Addr) (m1 c1 m2 c2 : Nat) (t : Bool) (n : Int) (w : World) (_hl : m1 ≤ 9223372036854775807 ∧ m2 ≤ 9223372036854775807) (h : 100 < m1 ∨ (m1 ≤ 100 ∧ 600 < m2)) (hR : RoomW w) (hT : TzW w) :
    Calls Tryd.prog 4 #[.bool t, .slice A1 m1 c1, .slice A2 m2 c2, .int .i64 n] w (RetTrue w) := by
  rcases h with h | h
  all_goals
    go_enter Tryd.func4, Tryd.ntmps4
    go_wp2_with (go_at_call 5; refine (up10_any _ hR hT).mono ?_; rintro e w1 ⟨rfl, hb1⟩)
    go_ret
    exact ⟨rfl, hb1⟩

theorem zero_more {pl : List Nat} {L : Nat} (hb : ∀ x ∈ pl, x < 256) (hl : pl.length = L) (hL : L ≤ 2000) : (∀ x ∈ pl ++ [0], x < 256) ∧ (pl ++ [0]).length ≤ 10000 := by
  refine ⟨fun x hx => ?_, by rw [List.length_append, hl, List.length_singleton]; omega⟩
  rcases List.mem_append.1 hx with h | h
  · exact hb x h
  · have := List.mem_singleton.1 h
    omega
/-- Decode, where what it comes to is known -/
theorem slowdec_got {z n : Int} {bs : List Nat} {xs : List (Int × Nat)} {er : Nat} (hD : DecA z bs n xs er) {N : Nat} (hN : xs.length = N) (A : Option Addr) (m c : Nat) (w0 X : World) (hn : -9223372036854775808 ≤ n ∧ n ≤ 9223372036854775807) (h : Rd X X.heap.size A m c bs) (hX : Below w0.heap.size w0 X) (hb : ∀ x ∈ bs, x < 256) (hm : m ≤ 10000) (hR : RoomW w0) (hT : TzW w0) :
    Calls Tryd.prog 6 #[.int .i64 z, .slice A m c, .int .i64 n] X fun e w' => ∃ A7 c7, e = .returned (.tuple #[.slice A7 N c7, errV er]) ∧ RdQ w' w'.heap.size A7 N c7 xs ∧ Below w0.heap.size w0 w' := by
  subst hN
  refine (slowdec_any A m c bs z n X hn h hb hm (hR.bel hX) (hT.bel hX)).mono ?_
  rintro e w7 ⟨zs, er, A7, c7, hd, rfl, ho7⟩
  obtain ⟨rfl, rfl⟩ := hD.same hd
  exact ⟨A7, c7, rfl, ho7.rd, hX.trans (ho7.bel.mono hX.size)⟩

set_option maxRecDepth 20000 in
set_option maxHeartbeats 8000000 in
theorem sback10_in (A1 A2 : Option Addr) (m1 c1 m2 c2 : Nat) (t : Bool) (n : Int) (xs : List (Int × Nat)) (bs : List Nat) (w : World) (hn : -9223372036854775808 ≤ n ∧ n ≤ 9223372036854775807) (h1 : RdQ w w.heap.size A1 m1 c1 xs) (h2 : Rd w w.heap.size A2 m2 c2 bs) (hb : ∀ x ∈ bs, x < 256) (hm1 : m1 ≤ 100) (hm2 : m2 ≤ 600) (hR : RoomW w) (hT : TzW w) :
    Calls Tryd.prog 4 #[.bool t, .slice A1 m1 c1, .slice A2 m2 c2, .int .i64 n] w (RetTrue w) := by
  have HB := Lib.hid hb
  have HL : Hid (bs.length = m2) := Lib.hid h2.len
  clear hb
  go_enter Tryd.func4, Tryd.ntmps4
  go_wp2_with fail
  refine (up10_any w hR hT).mono ?_
  rintro e w1 ⟨rfl, hb1⟩
  go_upto_if 32 with fail
  go_cut [10] (fun x10 wx => ∃ k : Nat, (k = 1 ∨ k = 2) ∧ x10 = .int .i64 (k : Int) ∧ Below w.heap.size w wx)
  case first =>
    cases t
    · go_wp2_with fail
      go_meet
      exact ⟨1, .inl rfl, rfl, hb1⟩
    · go_wp2_with fail
      go_meet
      exact ⟨2, .inr rfl, rfl, hb1⟩
  case rest =>
    obtain ⟨k, hk, rfl, hb2⟩ := hcut
    clear hb1
    go_wp2_with fail
    refine (rising_any A1 m1 c1 xs wc ((h1.below hb2).more hb2.size) (by omega)).mono ?_
    rintro e w2 ⟨ys, A3, c3, rfl, ho2, hrq, hyl⟩
    have hb3 := hb2.trans (ho2.bel.mono hb2.size)
    have hr2 := ho2.rd
    clear h1 ho2 hb2
    obtain ⟨N, HN⟩ : ∃ N, Hid (ys.length = N) := ⟨_, Lib.hid rfl⟩
    rw [HN.out] at hr2 hyl ⊢
    have HRQ : Hid (Rises ys) := Lib.hid hrq
    have HA := Lib.hid hr2.all
    clear hrq
    go_wp2_with fail
    refine (encode_any A3 N c3 k ys w2 hr2 (by omega) (hR.bel hb3) (hT.bel hb3)).mono ?_
    rintro e w3 ⟨er, A4, c4, her, rfl, ho3⟩
    have hb4 := hb3.trans (ho3.bel.mono hb3.size)
    replace hr2 := (hr2.below ho3.bel).more ho3.bel.size
    have hr4 := ho3.rd
    clear ho3 hb3
    obtain ⟨L, HLL⟩ : ∃ L, Hid ((pack (encP (k : Int) ys er)).length = L) := ⟨_, Lib.hid rfl⟩
    obtain ⟨ev, HEV⟩ : ∃ ev, Hid (errV er = ev) := ⟨_, Lib.hid rfl⟩
    rw [HLL.out] at hr4 ⊢
    rw [HEV.out]
    go_upto_if 43 with fail
    go_cut [10] (fun x10 wx => x10 = .int .i64 (k : Int) ∧ Below w.heap.size w wx)
    case first =>
      by_cases h0 : N = 0
      · subst h0
        clear hr2 hr4 her
        go_wp2_with fail
        go_meet
        exact ⟨rfl, hb4⟩
      · obtain rfl := her.same (EncE.rises hk (by rw [HN.out]; exact h0) HRQ.out)
        obtain rfl : ev = .nilIface := HEV.out.symm.trans rfl
        have h0i : 0 < (N : Int) := by omega
        have HE := Lib.hid (enc_dec hk HA.out HRQ.out (by rw [HN.out]; omega) (by rw [HN.out]; omega))
        have HM := Lib.hid (enc_more hk HA.out HRQ.out (by rw [HN.out]; omega) (by rw [HN.out]; omega))
        rw [HN.out] at HE HM
        have HPB : Hid (∀ x ∈ pack (encP (k : Int) ys 0), x < 256) := Lib.hid (pack_lt _)
        have hpl : L ≤ 2000 := by
          have := encP_le (z := (k : Int)) HA.out 0
          rw [HN.out] at this
          rw [← HLL.out, pack_length]
          omega
        clear her
        generalize pack (encP (k : Int) ys 0) = pl at *
        go_wp2_with fail
        refine (slowdec_any A4 L c4 pl k N w3 (by omega) hr4 HPB.out (by omega) (hR.bel hb4) (hT.bel hb4)).mono ?_
        rintro e w4 ⟨zs, er, A5, c5, hd, rfl, ho4⟩
        obtain ⟨rfl, rfl⟩ := HE.out.same hd
        rw [show errV 0 = .nilIface from rfl, HN.out]
        rw [HN.out] at ho4
        have hb5 := hb4.trans (ho4.bel.mono hb4.size)
        have hr5 := ho4.rd
        replace hr2 := (hr2.below ho4.bel).more ho4.bel.size
        replace hr4 := (hr4.below ho4.bel).more ho4.bel.size
        clear ho4 hd HE hb4
        have hp0 : ([] : List Nat).length + L ≤ 1073741824 := by simp; omega
        have hp1 : ([] ++ pl : List Nat).length + 1 ≤ 1073741824 := by rw [List.nil_append, HLL.out]; omega
        go_upto_region 13 with fail
        go_cut [16, 17] (fun x16 x17 wx => ∃ A7 c7, x16 = .slice A7 N c7 ∧ x17 = .iface 41 (.int .i64 3) ∧ RdQ wx wx.heap.size A7 N c7 ys ∧ Below w4.heap.size w4 wx)
        case first =>
          have hw4 : Below w4.heap.size w4 (w4.alloc (.cells #[] 5)) := by repeat (first | with_reducible exact Below.refl _ _ | with_reducible assumption | with_reducible refine Below.drew ?_ | with_reducible refine below_drewN ?_ _ | with_reducible refine Below.alloc ?_ (by (first | assumption | omega | (simp; done) | (simp; omega))) _ | with_reducible refine below_set ?_ (by (first | assumption | omega | (simp; done) | (simp; omega))) _ _)
          have hl0 := Own.lit0 (w0 := w4) (w := w4) (Below.refl _ _)
          have hr4a := hr4.below hw4
          have hz : ∀ X : World, Rd (X.alloc (.cells #[.int .u8 0] 5)) (X.heap.size + 1) (some ⟨X.heap.size, 0, none⟩) 1 1 [0] := fun X => Rd.one X 0
          have HZ := Lib.hid (zero_more HPB.out HLL.out hpl)
          have hR5 := hR.bel hb5
          have hT5 := hT.bel hb5
          have hNn : -9223372036854775808 ≤ (N : Int) ∧ (N : Int) ≤ 9223372036854775807 := by omega
          obtain ⟨qz, HQZ⟩ : ∃ qz, Hid (pl ++ [0] = qz) := ⟨_, Lib.hid rfl⟩
          obtain ⟨LZ, HLZ⟩ : ∃ LZ, Hid (qz.length = LZ) := ⟨_, Lib.hid rfl⟩
          rw [HQZ.out, HLZ.out] at HZ
          rw [HQZ.out] at HM
          have hdec : ∀ (A : Option Addr) (c : Nat) (X : World), Own w4 X (.slice A LZ c) qz → Calls Tryd.prog 6 #[.int .i64 (k : Int), .slice A LZ c, .int .i64 (N : Int)] X fun e w' => ∃ A7 c7, e = .returned (.tuple #[.slice A7 N c7, errV 3]) ∧ RdQ w' w'.heap.size A7 N c7 ys ∧ Below w4.heap.size w4 w' :=
            fun A c X hX => slowdec_got HM.out HN.out A LZ c w4 X hNn hX.rd hX.bel HZ.out.1 HZ.out.2 hR5 hT5
          rw [show errV 3 = .iface 41 (.int .i64 3) from rfl] at hdec
          clear hr2 hr4 hr5 hb5 hR5 hT5 hw4 HM HZ h2
          go_wp2_with (at_builtin; first
            | (refine wpList_app rfl (.tmp 56) (.tmp 57) rfl rfl rfl hl0 hr4a hp0 ?_; intro v5 w5 ho5)
            | (refine wpList_app rfl (.tmp 58) (.tmp 59) rfl rfl rfl (ho5.alloc _) (hz _) hp1 ?_; intro v6 w6 ho6; rw [List.nil_append, HQZ.out] at ho6; obtain ⟨A6, c6, rfl, _⟩ := ho6.form; rw [HLZ.out] at ho6 ⊢))
          refine (hdec _ _ _ ho6).mono ?_
          rintro e w7 ⟨A7, c7, rfl, hr7, hb7⟩
          clear hdec ho6 ho5 hl0 hr4a hz
          go_wp2_with fail
          go_meet
          exact ⟨A7, c7, rfl, rfl, hr7, hb7⟩
        case rest =>
          obtain ⟨A7, c7, rfl, rfl, hr7, hb7⟩ := hcut
          have hb8 := hb5.trans (hb7.mono hb5.size)
          have hr8 := (hr5.below hb7).more hb7.size
          have hr9 := (hr2.below hb7).more hb7.size
          clear hr5 hr2 hr4 hb7 hb5
          have hS1 := same_any A5 A3 N c5 N c3 ys ys wc hr8 hr9 (by omega) (by omega)
          go_wp2_with fail
          refine hS1.mono ?_
          rintro e w9 ⟨⟨b, rfl, hb⟩, hb9⟩
          obtain rfl := hb.2 (by first | rfl | trivial)
          clear hS1 hb
          have hS2 := same_any A7 A3 N c7 N c3 ys ys w9 ((hr7.below hb9).more hb9.size) ((hr9.below hb9).more hb9.size) (by omega) (by omega)
          clear hr7 hr8 hr9
          go_wp2_with (go_at_call 9; refine (code_some 3 _ (by omega) (by omega)).mono ?_; rintro e w10 ⟨rfl, rfl⟩)
          refine hS2.mono ?_
          rintro e w11 ⟨⟨b, rfl, hb⟩, hb11⟩
          obtain rfl := hb.2 (by first | rfl | trivial)
          clear hS2 hb
          go_wp2_with fail
          go_meet
          exact ⟨rfl, hb8.trans ((hb9.trans (hb11.mono hb9.size)).mono hb8.size)⟩
    case rest =>
      obtain ⟨rfl, hb5⟩ := hcut
      clear hr2 hr4 hb4 her
      have hdec := slowdec_any A2 m2 c2 bs k n wc hn ((h2.below hb5).more hb5.size) HB.out (by omega) (hR.bel hb5) (hT.bel hb5)
      go_wp2_with fail
      refine hdec.mono ?_
      rintro e w4 ⟨zs, er, A5, c5, hd, rfl, ho4⟩
      have hb6 := hb5.trans (ho4.bel.mono hb5.size)
      have hr5 := ho4.rd
      clear hdec ho4
      by_cases he : er = 0
      · subst he
        rw [show errV 0 = .nilIface from rfl]
        obtain ⟨hd1, hd2, hd3, hd4⟩ := dec_enc hk HB.out hr5.all hd
        rw [HL.out] at hd2
        obtain ⟨M, HM⟩ : ∃ M, Hid (zs.length = M) := ⟨_, Lib.hid rfl⟩
        rw [HM.out] at hd1 hd2 hr5 ⊢
        subst hd1
        have HD3 := Lib.hid hd3
        have HD4 := Lib.hid hd4
        clear hd hd3 hd4
        go_wp2_with fail
        refine (encode_any A5 M c5 k zs w4 hr5 (by omega) (hR.bel hb6) (hT.bel hb6)).mono ?_
        rintro e w5 ⟨er, A6, c6, her, rfl, ho5⟩
        obtain rfl := her.same HD3.out
        rw [HD4.out] at ho5 ⊢
        rw [show errV 0 = .nilIface from rfl]
        have hb7 := hb6.trans (ho5.bel.mono hb6.size)
        have hr6 := ho5.rd
        have hr7 := h2.below hb7
        rw [HL.out] at hr6 ⊢
        have hq1 := run_str hr6
        have hq2 := run_str hr7
        clear ho5 hr6 hr7 hr5 her
        go_wp2
        go_ret
        exact ⟨rfl, hb7⟩
      · have hev : errV er = .iface 41 (.int .i64 (er : Int)) := by unfold errV; rw [if_neg he]
        rw [hev]
        clear hev hr5 hd
        go_wp2
        go_ret
        exact ⟨rfl, hb6⟩

end Go.Proofs.YthgbkchdonpfoaaDoor
