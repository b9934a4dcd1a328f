/-
  WholeTells, walked: it returns true, whatever the arguments.
-/
import Derived.Test.YtlabdhmhflkmbaaDoorWhoUp
import Derived.Test.YtlabdhmhflkmbaaDoorWhoR
import Derived.Test.YtlabdhmhflkmbaaDoorPackA
import Derived.Test.YtlabdhmhflkmbaaDoorSame
import Derived.Test.YtlabdhmhflkmbaaDoorWords
namespace Go.Proofs.YtlabdhmhflkmbaaDoor
open Go.RowKit

theorem RetRCh.res {w w' : World} {r : Except Nat (List (Int × Nat))} {e : Ending} (h : RetRCh w r e w') : ∃ A c, e = .returned (.tuple #[.slice A (chRes r).1.length c, .int .i64 ((chRes r).2 : Int)]) ∧ RdQ w' w'.heap.size A (chRes r).1.length c (chRes r).1 ∧ Below w.heap.size w w' := by
  cases r with
  | ok xs =>
    obtain ⟨A, c, he, ho⟩ := h
    exact ⟨A, c, he, ho.rd, ho.bel⟩
  | error j =>
    obtain ⟨he, hb⟩ := h
    exact ⟨none, 0, he, (OwnQ.nil_ w w' hb).rd, hb⟩
/-- bytes that lie elsewhere than a store -/
theorem Rd.stored {w : World} {B n c : Nat} {A : Option Addr} {bs : List Nat} (h : Rd w B A n c bs) {g k : Nat} {u : Value} (hne : ∀ ad, A = some ad → ad.block ≠ g) : Rd (w.setCell ⟨g, k, none⟩ u) B A n c bs :=
  ⟨h.len, h.cap, h.no, fun hn => by
    obtain ⟨ad, e, hb, hc⟩ := h.cell hn
    refine ⟨ad, e, hb, fun j hj => ?_⟩
    rw [World.cell?_setCell_other w ⟨g, k, none⟩ (ad.add j) u (fun e2 => hne ad e (by rw [← add_block ad j, ← e2]))]
    exact hc j hj⟩

set_option maxRecDepth 20000 in
set_option maxHeartbeats 1000000 in
theorem wtells_big (z m x k l : Int) (A : Option Addr) (n c : Nat) (fr : Bool) (w : World) (_hl : n ≤ 9223372036854775807) (h : 1500 < n) (hR : RoomW w) (hT : TzW w) :
    Calls Tryd.prog 3 #[.int .i64 z, .agg #[.int .i64 m, .int .i64 x, .int .i64 k, .int .i64 l], .slice A n c, .bool fr] w (RetTrue w) := by
  have hb0 : Below w.heap.size w (w.alloc (.cells #[.int .i64 m, .int .i64 x, .int .i64 k, .int .i64 l] 23)) := (Below.refl _ _).alloc (Nat.le_refl _) _
  have hup := up16_any _ (hR.bel hb0) (hT.bel hb0)
  go_enter Tryd.func3, Tryd.ntmps3
  go_wp2_with fail
  refine hup.mono ?_
  rintro e w1 ⟨rfl, hb1⟩
  go_wp2_with fail
  go_ret
  exact ⟨rfl, hb0.trans (hb1.mono hb0.size)⟩

set_option maxRecDepth 20000 in
set_option maxHeartbeats 4000000 in
theorem wtells_in (z m x k l : Int) (A : Option Addr) (n c : Nat) (fr : Bool) (bs : List Nat) (w : World) (hk : -9223372036854775808 ≤ k ∧ k ≤ 9223372036854775807) (h : Rd w w.heap.size A n c bs) (hb : ∀ u ∈ bs, u < 256) (hn : n ≤ 1500) (hR : RoomW w) (hT : TzW w) :
    Calls Tryd.prog 3 #[.int .i64 z, .agg #[.int .i64 m, .int .i64 x, .int .i64 k, .int .i64 l], .slice A n c, .bool fr] w (RetTrue w) := by
  have HL := Lib.hid h.len
  have HBB := Lib.hid hb
  obtain ⟨W, hW⟩ : ∃ W, W = w.alloc (.cells #[.int .i64 m, .int .i64 x, .int .i64 k, .int .i64 l] 23) := ⟨_, rfl⟩
  have hbW : Below w.heap.size w W := by rw [hW]; exact (Below.refl _ _).alloc (Nat.le_refl _) _
  have hbx : BoxL W w.heap.size [.int .i64 m, .int .i64 x, .int .i64 k, .int .i64 l] := by rw [hW]; exact entry_box w m x k l _
  have hup := up16_any W (hR.bel hbW) (hT.bel hbW)
  have HW := Lib.hid hW
  have HH : Hid (∀ X, Below w.heap.size w X → Rd X w.heap.size A n c bs) := Lib.hid (fun X hX => h.below hX)
  clear hW h hb
  go_enter Tryd.func3, Tryd.ntmps3
  go_wp2_with fail
  rw [← HW.out]
  refine hup.mono ?_
  rintro e w1 ⟨rfl, hb1⟩
  have bx1 := hbx.below hb1
  have hbw1 := hbW.trans (hb1.mono hbW.size)
  have HGL := Lib.hid bx1.lt
  clear hup hbx hb1
  obtain ⟨g, HG⟩ : ∃ g, Hid (w.heap.size = g) := ⟨_, Lib.hid rfl⟩
  rw [HG.out] at bx1 HGL ⊢
  have hw2 : Below w1.heap.size w1 (w1.alloc (.cells #[] 5)) := (Below.refl _ _).alloc (Nat.le_refl _) _
  have hl0 := Own.lit0 (w0 := w1) (w := w1) (Below.refl _ _)
  have hra := HH.out _ (hbw1.trans (hw2.mono hbw1.size))
  have hp0 : ([] : List Nat).length + n ≤ 1073741824 := by simp; omega
  go_upto_region 5 with (at_builtin; (refine wpList_app rfl (.tmp 26) (.tmp 27) rfl rfl rfl hl0 hra hp0 ?_; intro v2 w2 ho2; rw [List.nil_append] at ho2))
  clear hl0 hra hp0 hw2
  have hbw2 := hbw1.trans (ho2.bel.mono hbw1.size)
  have bx2 := bx1.below ho2.bel
  obtain ⟨A2, c2, rfl, _⟩ := ho2.form
  rw [HL.out] at ho2 ⊢
  go_upto_if 29 with fail
  go_cut [10] (fun x10 wx => ∃ (A9 : Option Addr) (M c9 : Nat) (cs : List Nat) (l9 : Int), x10 = .slice A9 M c9 ∧ Rd wx wx.heap.size A9 M c9 cs ∧ (∀ u ∈ cs, u < 256) ∧ M ≤ 2000 ∧ BoxL wx g [.int .i64 m, .int .i64 x, .int .i64 k, .int .i64 l9] ∧ Below w.heap.size w wx)
  case first =>
    cases fr
    · go_wp2_with fail
      go_meet
      exact ⟨A2, n, c2, bs, l, rfl, ho2.rd, HBB.out, by omega, bx2, hbw2⟩
    · have hS := rsum_any A n c w.heap.size bs w2 (HH.out _ hbw2) HBB.out (by omega)
      have hlt32 := crcS_lt HBB.out
      have HB4 := Lib.hid (big_four hlt32)
      generalize crcS bs = s at *
      go_wp2_with fail
      refine hS.mono ?_
      rintro e w3 ⟨rfl, hw3⟩
      subst hw3
      clear hS
      have h4 := lit_four (Below.refl w2.heap.size w2) (s / 16777216) (s / 65536 % 256) (s / 256 % 256) (s % 256)
      rw [show ((s / 16777216 : Nat) : Int) = (s : Int) / 16777216 by omega, show ((s / 65536 % 256 : Nat) : Int) = (s : Int) / 65536 % 256 by omega, show ((s / 256 % 256 : Nat) : Int) = (s : Int) / 256 % 256 by omega, show ((s % 256 : Nat) : Int) = (s : Int) % 256 by omega, ← HB4.out] at h4
      have HCB : Hid (∀ u ∈ bs ++ bigB 4 s, u < 256) := Lib.hid (fun u hu => (List.mem_append.1 hu).elim (HBB.out u) (bigB_lt 4 s u))
      have HCL : Hid ((bs ++ bigB 4 s).length = n + 4) := Lib.hid (by rw [List.length_append, bigB_length, HL.out])
      obtain ⟨cs, HCS⟩ : ∃ cs, Hid (bs ++ bigB 4 s = cs) := ⟨_, Lib.hid rfl⟩
      rw [HCS.out] at HCB HCL
      obtain ⟨M, HM⟩ : ∃ M, Hid (M = n + 4) := ⟨_, Lib.hid rfl⟩
      rw [← HM.out] at HCL
      go_upto_region 8 with (at_builtin; (refine wpList_app rfl (.tmp 32) (.tmp 44) rfl rfl rfl (ho2.alloc _) h4.rd (by rw [HL.out]; omega) ?_; intro v3 w3 ho3; rw [HCS.out] at ho3))
      obtain ⟨A3, c3, rfl, _⟩ := ho3.form
      rw [HCL.out] at ho3 ⊢
      have bx3 := bx1.below ho3.bel
      have hbw3 := hbw1.trans (ho3.bel.mono hbw1.size)
      obtain ⟨q0, q1, q2, q3⟩ := bx3.get4e
      have qf := bx3.free 3 _ rfl
      have hrd := ho3.rd.stored (g := g) (k := 3) (u := .int .i64 (M : Int)) (fun ad e => by have := ho3.beyond ad e; have := HGL.out; omega)
      have bx4 := bx3.put 3 (.int .i64 (M : Int))
      have hbw4 := below_set hbw3 (by rw [HG.out]; exact Nat.le_refl _ : w.heap.size ≤ g) 3 (.int .i64 (M : Int))
      clear ho2 h4 bx2
      go_wp2_with fail
      go_meet
      exact ⟨A3, M, c3, cs, _, rfl, by simpa using hrd, HCB.out, by have := HM.out; omega, bx4, hbw4⟩
  case rest =>
    obtain ⟨A9, M, c9, cs, l9, rfl, hrd, hcb, hM, bx9, hbw9⟩ := hcut
    have HCL := Lib.hid hrd.len
    have HCB := Lib.hid hcb
    clear ho2 bx1 bx2 hbw2 hbw1 hcb
    obtain ⟨b0, b1, b2, b3⟩ := bx9.get4e
    have hch := chunk_any z m x k l9 A9 M c9 wc.heap.size cs wc hrd (Nat.le_refl _) HCB.out (by omega) hk (hR.bel hbw9) (hT.bel hbw9)
    have hfew := chRes_few (z := z) (e := ⟨m, x, k, l9⟩) (bs := cs)
    obtain ⟨xs, er, HXE⟩ : ∃ xs er, Hid (chRes (chF z ⟨m, x, k, l9⟩ cs) = (xs, er)) := ⟨_, _, Lib.hid rfl⟩
    obtain ⟨L, HXL⟩ : ∃ L, Hid (xs.length = L) := ⟨_, Lib.hid rfl⟩
    rw [HXE.out] at hfew
    simp only at hfew
    rw [HXL.out, HCL.out] at hfew
    replace hch : Calls Tryd.prog 7 #[.int .i64 z, .agg #[.int .i64 m, .int .i64 x, .int .i64 k, .int .i64 l9], .slice A9 M c9] wc fun e w' => ∃ A c, e = .returned (.tuple #[.slice A L c, errV er]) ∧ RdQ w' w'.heap.size A L c xs ∧ Below wc.heap.size wc w' := hch.mono (by
      rintro e w' h
      have := h.res
      rw [HXE.out] at this
      simp only at this
      rwa [HXL.out] at this)
    go_wp2_with fail
    refine hch.mono ?_
    rintro e w4 ⟨A4, c4, rfl, hq4, hb4⟩
    have hbw4 := hbw9.trans (hb4.mono hbw9.size)
    have bx4 := bx9.below hb4
    replace hrd := (hrd.below hb4).more hb4.size
    clear hch b0 b1 b2 b3 bx9 hbw9 hb4
    obtain ⟨b0, b1, b2, b3⟩ := bx4.get4e
    have hch := rchunk_any z m x k l9 A9 M c9 w4.heap.size cs w4 hrd (Nat.le_refl _) HCB.out (by omega) hk
    replace hch : Calls Tryd.prog 8 #[.int .i64 z, .agg #[.int .i64 m, .int .i64 x, .int .i64 k, .int .i64 l9], .slice A9 M c9] w4 fun e w' => ∃ A c, e = .returned (.tuple #[.slice A L c, .int .i64 (er : Int)]) ∧ RdQ w' w'.heap.size A L c xs ∧ Below w4.heap.size w4 w' := hch.mono (by
      rintro e w' h
      have := h.res
      rw [HXE.out] at this
      simp only at this
      rwa [HXL.out] at this)
    go_wp2_with fail
    refine hch.mono ?_
    rintro e w5 ⟨A5, c5, rfl, hq5, hb5⟩
    have hbw5 := hbw4.trans (hb5.mono hbw4.size)
    replace hq4 := (hq4.below hb5).more hb5.size
    clear hch b0 b1 b2 b3 bx4 hbw4 hb5 hrd
    obtain ⟨ys, er2, HYE⟩ : ∃ ys er2, Hid (wholeF bs = (ys, er2)) := ⟨_, _, Lib.hid rfl⟩
    obtain ⟨N, HYL⟩ : ∃ N, Hid (ys.length = N) := ⟨_, Lib.hid rfl⟩
    have hyf : N ≤ 8 * n := by
      have := wholeF_few HBB.out
      rw [HYE.out, HL.out] at this
      simp only at this
      rwa [HYL.out] at this
    have hye : er2 ≤ 9 := by
      have := wholeF_le (bs := bs)
      rwa [HYE.out] at this
    have hwd := wdec_any A n c w.heap.size bs w5 (HH.out _ hbw5) hbw5.size HBB.out (by omega) (hR.bel hbw5) (hT.bel hbw5)
    replace hwd : Calls Tryd.prog 9 #[.slice A n c] w5 fun e w' => ∃ A c, e = .returned (.tuple #[.slice A N c, errV er2]) ∧ RdQ w' w'.heap.size A N c ys ∧ Below w5.heap.size w5 w' := hwd.mono (by
      rintro e w' ⟨A, c, rfl, ho⟩
      rw [HYE.out] at ho ⊢
      simp only at ho ⊢
      rw [HYL.out] at ho ⊢
      exact ⟨A, c, rfl, ho.rd, ho.bel⟩)
    go_wp2_with fail
    refine hwd.mono ?_
    rintro e w6 ⟨A6, c6, rfl, hq6, hb6⟩
    have hbw6 := hbw5.trans (hb6.mono hbw5.size)
    replace hq4 := (hq4.below hb6).more hb6.size
    replace hq5 := (hq5.below hb6).more hb6.size
    clear hwd hbw5 hb6
    have hwd := rwhole_any A n c w.heap.size bs w6 (HH.out _ hbw6) hbw6.size HBB.out (by omega)
    replace hwd : Calls Tryd.prog 10 #[.slice A n c] w6 fun e w' => ∃ A c v, e = .returned (.tuple #[.slice A N c, .int .i64 (er2 : Int), v]) ∧ RdQ w' w'.heap.size A N c ys ∧ Below w6.heap.size w6 w' := hwd.mono (by
      rintro e w' ⟨A, c, A2, c2, rfl, ho, _⟩
      rw [HYE.out] at ho ⊢
      simp only at ho ⊢
      rw [HYL.out] at ho ⊢
      exact ⟨A, c, _, rfl, ho.rd, ho.bel⟩)
    go_wp2_with fail
    refine hwd.mono ?_
    rintro e w7 ⟨A7, c7, v7, rfl, hq7, hb7⟩
    have hbw7 := hbw6.trans (hb7.mono hbw6.size)
    replace hq4 := (hq4.below hb7).more hb7.size
    replace hq5 := (hq5.below hb7).more hb7.size
    replace hq6 := (hq6.below hb7).more hb7.size
    clear hwd hbw6 hb7
    have hC1 := fun X => code_any er X (by omega)
    have hC2 := fun X => code_any er2 X (by omega)
    have hS1 := same_any A4 A5 L c4 L c5 xs xs w7 hq4 hq5 (by omega) (by omega)
    go_wp2_with fail
    refine hS1.mono ?_
    rintro e w8 ⟨⟨b, rfl, hb⟩, hb8⟩
    obtain rfl := hb.2 (by first | rfl | trivial)
    have hS2 := same_any A6 A7 N c6 N c7 ys ys w8 ((hq6.below hb8).more hb8.size) ((hq7.below hb8).more hb8.size) (by omega) (by omega)
    have hbw8 := hbw7.trans (hb8.mono hbw7.size)
    clear hS1 hb hq4 hq5 hq6 hq7 hb8 hbw7
    go_wp2_with fail
    refine (hC1 _).mono ?_
    rintro e w9 ⟨rfl, rfl⟩
    clear hC1
    go_wp2_with fail
    refine hS2.mono ?_
    rintro e w9 ⟨⟨b, rfl, hb⟩, hb9⟩
    obtain rfl := hb.2 (by first | rfl | trivial)
    clear hS2 hb
    go_wp2_with fail
    refine (hC2 _).mono ?_
    rintro e w10 ⟨rfl, rfl⟩
    clear hC2
    go_wp2
    go_ret
    exact ⟨rfl, hbw8.trans (hb9.mono hbw8.size)⟩

theorem wtells_all (z m x k l : Int) (A : Option Addr) (n c : Nat) (fr : Bool) (bs : List Nat) (w : World) (hk : -9223372036854775808 ≤ k ∧ k ≤ 9223372036854775807) (h : Rd w w.heap.size A n c bs) (hb : ∀ u ∈ bs, u < 256) (hl : n ≤ 9223372036854775807) (hR : RoomW w) (hT : TzW w) :
    Calls Tryd.prog 3 #[.int .i64 z, .agg #[.int .i64 m, .int .i64 x, .int .i64 k, .int .i64 l], .slice A n c, .bool fr] w (RetTrue w) := by
  by_cases hn : 1500 < n
  · exact wtells_big z m x k l A n c fr w hl hn hR hT
  · exact wtells_in z m x k l A n c fr bs w hk h hb (by omega) hR hT

end Go.Proofs.YtlabdhmhflkmbaaDoor
