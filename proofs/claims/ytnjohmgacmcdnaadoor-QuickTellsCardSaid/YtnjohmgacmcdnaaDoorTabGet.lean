/-
  The contract of layer 6's Get: what the bits ahead of a reader begin with, and where it stands then.
-/
import Derived.Test.YtnjohmgacmcdnaaDoorTab
import Derived.Test.YtnjohmgacmcdnaaDoorFill
import Derived.Test.YtnjohmgacmcdnaaDoorDods
import Derived.Test.YtnjohmgacmcdnaaDoorCode
import Derived.Deep.RegionHeld3
namespace Go.Proofs.YtnjohmgacmcdnaaDoor
open Go.RowKit

theorem low_numT (p : List Bool) : low (num p) p.length = p := by
  apply num_inj (low_length _ _)
  rw [num_low]
  exact Nat.mod_eq_of_lt (num_lt p)
theorem drop_getDB (p : List Bool) (a j : Nat) : (p.drop a).getD j false = p.getD (a + j) false := by
  rw [List.getD_eq_getElem?_getD, List.getElem?_drop, List.getD_eq_getElem?_getD]
/-- the next 8 bits, those behind the last one being 0, begin with as many 1s as the bits ahead -/
theorem ones_ext {p : List Bool} {a k : Nat} (h : Ones (p.drop a) k) : Ones (ext p a 8) k := by
  have h4 := h.le4
  refine ⟨h4, by rw [ext_length]; omega, fun j hj => ?_, fun hk => ?_⟩
  · rw [ext_getD _ _ _ _ (by omega), ← drop_getDB]; exact h.all j hj
  · rw [ext_getD _ _ _ _ (by omega), ← drop_getDB]; exact h.stop hk

theorem grown_below {w w' : World} (h : Below w.heap.size w w') (row : Option Nat) : w.grownBy w' row := ⟨h.os, h.tape, h.output, h.size, fun k hk _ => h.block k hk⟩
theorem RoomW.grown {w w' : World} {g : Nat} (h : RoomW w) (hg : w.grownBy w' (some g)) (h1 : 0 < g) : RoomW w' :=
  ⟨by have := hg.size; have := h.1; omega, fun i hi => (World.cell?_of_block (a := ⟨0, i, none⟩) (hg.block 0 h.1 (by simp; omega))).trans (h.2 i hi)⟩
theorem RowsW.grown {w w' : World} {g : Nat} (h : RowsW w) (hg : w.grownBy w' (some g)) (h1 : 1 < g) : RowsW w' := h.keep hg.size (hg.block 1 h.size (by simp; omega))
theorem BoxAt.grown {w w' : World} {g b : Nat} {s n : Value} (h : BoxAt w b s n) (hg : w.grownBy w' (some g)) (h1 : b ≠ g) : BoxAt w' b s n := by
  have hb := hg.block b h.lt (by simpa using h1)
  exact ⟨Nat.lt_of_lt_of_le h.lt hg.size, (World.cell?_of_block (a := ⟨b, 0, none⟩) hb).trans h.c0, (World.cell?_of_block (a := ⟨b, 1, none⟩) hb).trans h.c1, (World.frozen?_of_block (a := ⟨b, 0, none⟩) hb).trans h.f0, (World.frozen?_of_block (a := ⟨b, 1, none⟩) hb).trans h.f1⟩

set_option maxRecDepth 100000 in
theorem run_fieldN (W : World) (A : Option Addr) (m c : Nat) (n : Int) : (Instr.field 60 (.agg #[.slice A m c, .int .i64 n]) 1).run Tryd.prog W = .ok (.int .i64 n) W := by rfl

/-- what Get comes to: what the bits ahead begin with; the reader stands behind it; it alone has turned -/
def RetTG (w : World) (g : Nat) (A : Option Addr) (n c : Nat) (bs : List Nat) (a : Nat) (e : Ending) (w' : World) : Prop :=
  ∃ (v : Int) (m k a' : Nat), DGets (restL bs a) v m k ∧ e = .returned (.tuple #[.int .i64 v, errV k]) ∧ Rdr w' g A n c bs a' ∧ (k = 0 → a' = a + m) ∧ w.grownBy w' (some g)

set_option maxRecDepth 20000 in
set_option maxHeartbeats 1000000 in
theorem tget_any (g : Nat) (A : Option Addr) (n c : Nat) (bs : List Nat) (a : Nat) (w : World) (h : Rdr w g A n c bs a) (hR : RoomW w) (hT : RowsW w) (hg : 0 < g ∧ 1 < g) :
    Calls Tryd.prog 56 #[.pointer (some ⟨g, 0, none⟩)] w (RetTG w g A n c bs a) := by
  have hl := h.len
  have hat := h.at_
  obtain ⟨k, hk⟩ := ones_is (restL bs a)
  have hk4 := hk.le4
  have HL : Hid ((restL bs a).length = 8 * n - a) := Lib.hid (by rw [restL_length (by omega), hl])
  have hk8 : Ones (low (num (ext (flat bs) a 8)) 8) k := by
    have := low_numT (ext (flat bs) a 8)
    rw [ext_length] at this
    rw [this]
    rw [restL_yes (by omega)] at hk
    exact ones_ext hk
  have hx : num (ext (flat bs) a 8) < 256 := by
    have := num_lt (ext (flat bs) a 8)
    rwa [ext_length] at this
  obtain ⟨x, HX⟩ : ∃ x, Hid (num (ext (flat bs) a 8) = x) := ⟨_, Lib.hid rfl⟩
  rw [HX.out] at hk8 hx
  have HK := Lib.hid hk
  clear hk hl
  have h3 := head_le k
  have h2 := room_le k
  go_enter Tryd.func56, Tryd.ntmps56
  go_wp2_with fail
  refine (peek_yes g A n c bs a 8 w h (by omega)).mono ?_
  rintro e w1 ⟨rfl, m1, rfl⟩
  rw [HX.out]
  have h1 := h.drewN m1
  have hR1 := hR.drewN m1
  have hT1 := hT.drewN m1
  have hg1 : w.grownBy (w.drewN m1) (some g) := only_drewN (World.grownBy.refl w _) m1
  generalize w.drewN m1 = w1 at *
  clear h hR hT
  go_wp2_with fail
  refine (rowof_any x k w1 hx hk8 hT1).mono ?_
  rintro e w2 ⟨rfl, hb2⟩
  have hg2 := hg1.trans (grown_below hb2 (some g))
  have h2' := h1.below hb2
  have hR2 := hR1.bel hb2
  have hT2 := hT1.bel hb2
  have hgs : g < w2.heap.size := by have := h1.lt; have := hb2.size; omega
  have hba := (Below.refl w2.heap.size w2).alloc (Nat.le_refl _) (.cells #[.int .i64 ((headN k : Nat) : Int), .int .i64 ((roomN k : Nat) : Int)] 131)
  have hB3 := BoxAt.new w2 (.int .i64 ((headN k : Nat) : Int)) (.int .i64 ((roomN k : Nat) : Int)) 131
  have h3' := h2'.below hba
  have hR3 := hR2.bel hba
  have hg3 := hg2.trans (grown_below hba (some g))
  obtain ⟨b, HB⟩ : ∃ b, Hid (w2.heap.size = b) := ⟨_, Lib.hid rfl⟩
  rw [HB.out] at hB3 hgs
  have hbg : b ≠ g := by omega
  clear h1 hR1 hT1 hg1 hg2 h2' hR2 hT2 hk8 hb2 hba
  obtain ⟨wb, HW⟩ : ∃ wb, Hid (w2.alloc (.cells #[.int .i64 ((headN k : Nat) : Int), .int .i64 ((roomN k : Nat) : Int)] 131) = wb) := ⟨_, Lib.hid rfl⟩
  rw [HW.out] at h3' hR3 hg3 hB3
  have hc0 := hB3.c0
  have hc1 := hB3.c1
  go_wp2_with fail
  rw [HW.out, HB.out]
  clear HW HB hc0 hc1 hx HX
  clear w1 w2
  have hbl := hB3.lt
  by_cases hf1 : headN k ≤ 8 * n - a
  · have hf1' : a + headN k ≤ 8 * n := by omega
    refine (skip_yes g A n c bs a (headN k) wb h3' hf1').mono ?_
    rintro e w4 ⟨rfl, hW4⟩
    have h4 := hW4.rdr
    have hB4 := hB3.grown hW4.only hbg
    have hR4 := hR3.grown hW4.only hg.1
    have hg4 := hg3.trans hW4.only
    clear hW4 h3' hB3 hR3 hg3 hbl
    clear wb
    have hc0 := hB4.c0
    have hc1 := hB4.c1
    go_wp2_with fail
    by_cases hf2 : headN k + roomN k ≤ 8 * n - a
    · have hf2' : a + headN k + roomN k ≤ 8 * n := by omega
      refine (read_yes g A n c bs (a + headN k) (roomN k) w4 h4 h2 hf2').mono ?_
      rintro e w5 ⟨rfl, hW5⟩
      have h5 := hW5.rdr
      have hB5 := hB4.grown hW5.only hbg
      have hR5 := hR4.grown hW5.only hg.1
      have hg5 := hg4.trans hW5.only
      clear hW5 h4 hB4 hR4 hg4 hc0 hc1
      clear w4
      have hc0 := hB5.c0
      have hc1 := hB5.c1
      have hfit : headN k + roomN k ≤ (restL bs a).length := by rw [HL.out]; exact hf2
      have HE : Hid (num (ext (flat bs) (a + headN k) (roomN k)) = num (cut (restL bs a) (headN k) (roomN k))) := Lib.hid (by
        have hl := h5.len
        rw [ext_cut _ _ _ (by rw [flat_length]; omega), restL_yes (by omega), cut_drop])
      rw [HE.out]
      have HY : Hid (bodyD (restL bs a) k = sgnN (num (cut (restL bs a) (headN k) (roomN k))) (roomN k)) := Lib.hid rfl
      have HI := Lib.hid (bodyD_in (restL bs a) hk4)
      have HN : Hid (num (cut (restL bs a) (headN k) (roomN k)) ≤ 18446744073709551615) := Lib.hid (by
        have h5 := num_lt (cut (restL bs a) (headN k) (roomN k))
        rw [cut_length _ _ _ hfit] at h5
        have h6 : 2 ^ roomN k ≤ 2 ^ 64 := Nat.pow_le_pow_right (by omega) h2
        omega)
      have HOK := Lib.hid (fun e => (⟨k, HK.out, .inr (.inr ⟨hfit, e, rfl, rfl, rfl⟩)⟩ : DGets (restL bs a) (bodyD (restL bs a) k) (headN k + roomN k) 0))
      have HNO := Lib.hid (fun e => (⟨k, HK.out, .inr (.inl ⟨hfit, e, rfl, rfl, rfl⟩)⟩ : DGets (restL bs a) 0 0 3))
      clear HE hfit HL HK
      generalize num (cut (restL bs a) (headN k) (roomN k)) = y at *
      generalize bodyD (restL bs a) k = z at *
      go_wp2_with fail
      refine (tsigned_any y k _ HN.out hk4).mono ?_
      rintro e w6 ⟨rfl, rfl⟩
      rw [← HY.out]
      clear HY HN
      go_wp2_with fail
      have HCD := Lib.hid (fun (W : World) (hW : RoomW W) => dcode_any z W HI.out hW)
      have HLe := Lib.hid (fun (e : onesN z = k) => (codeD_length z).trans (by rw [e]))
      have HLn := Lib.hid (fun (e : onesN z ≠ k) => codeD_unlike hk4 e)
      generalize codeD z = q at *
      have hlt := hB5.lt
      have hfn := run_fieldN
      by_cases ho : onesN z = k
      · have hne : (((q.length : Nat) : Int) != IntKind.i64.wrap (((headN k : Nat) : Int) + ((roomN k : Nat) : Int))) = false := by rw [IntWalk.i64_in _ (by omega), HLe.out ho]; simp
        have HO := Lib.hid (HOK.out ho)
        clear ho HOK HNO
        go_region_with (first
          | (go_at_call 51; refine (HCD.out w5.drew hR5).mono ?_; rintro e w7 ⟨A7, c7, rfl, hown7⟩; have hb7 : Below w5.heap.size w5 w7 := undrew hown7.bel; have hd0 := (hB5.below hb7).c0; have hd1 := (hB5.below hb7).c1))
        all_goals
          go_wp2
          go_ret2
          exact ⟨z, _, 0, _, HO.out, rfl, h5.below hb7, fun _ => by omega, hg5.trans (grown_below hb7 _)⟩
      · have hne : (((q.length : Nat) : Int) != IntKind.i64.wrap (((headN k : Nat) : Int) + ((roomN k : Nat) : Int))) = true := by
          have := HLn.out ho
          rw [IntWalk.i64_in _ (by omega)]
          simp; omega
        have HO := Lib.hid (HNO.out ho)
        clear ho HOK HNO
        go_region_with (first
          | (go_at_call 51; refine (HCD.out w5.drew hR5).mono ?_; rintro e w7 ⟨A7, c7, rfl, hown7⟩; have hb7 : Below w5.heap.size w5 w7 := undrew hown7.bel; have hd0 := (hB5.below hb7).c0; have hd1 := (hB5.below hb7).c1))
        all_goals
          go_wp2
          go_ret2
          exact ⟨0, 0, 3, _, HO.out, rfl, h5.below hb7, fun h => (by cases h), hg5.trans (grown_below hb7 _)⟩
    · refine (read_no g A n c bs (a + headN k) (roomN k) w4 h4 (by omega)).mono ?_
      rintro e w5 ⟨rfl, m5, rfl⟩
      go_wp2
      go_ret2
      exact ⟨0, 0, 2, _, ⟨k, HK.out, .inl ⟨by rw [HL.out]; omega, rfl, rfl, rfl⟩⟩, rfl, h4.drewN m5, fun h => (by cases h), only_drewN hg4 m5⟩
  · refine (skip_no g A n c bs a (headN k) wb h3' (by omega)).mono ?_
    rintro e w4 ⟨rfl, m4, rfl⟩
    go_wp2
    go_ret2
    exact ⟨0, 0, 2, _, ⟨k, HK.out, .inl ⟨by rw [HL.out]; omega, rfl, rfl, rfl⟩⟩, rfl, h3'.drewN m4, fun h => (by cases h), only_drewN hg3 m4⟩

end Go.Proofs.YtnjohmgacmcdnaaDoor
