/-
  Texts of this proof, one behind the other: Tab, TabGet, NextC, BatRd, BatXor, BatGet, BatOne.
-/
import Derived.Test.YtaebljoacffghaaGreatDoorDods
import Derived.Test.YtaebljoacffghaaGreatDoorFillA
import Derived.Test.YtaebljoacffghaaGreatDoorWords
import Derived.Test.YtaebljoacffghaaGreatDoorBatA
import Derived.Test.YtaebljoacffghaaGreatDoorKGs
import Derived.Test.YtaebljoacffghaaGreatDoorXorGets
import Derived.Test.YtaebljoacffghaaGreatDoorXorsP
import Derived.Handy
import Derived.Deep.RegionHeld3

/-
  The contracts of layer 6's small functions: the table's rows, rowOf, signed; and of the library's Len8, LeadingZeros8.
-/
namespace Go.Proofs.YtaebljoacffghaaGreatDoor
open Go.RowKit

/-- how many bits a number below 256 has -/
def lenN (x : Nat) : Nat := if x = 0 then 0 else if x < 2 then 1 else if x < 4 then 2 else if x < 8 then 3 else if x < 16 then 4 else if x < 32 then 5 else if x < 64 then 6 else if x < 128 then 7 else 8

set_option maxHeartbeats 400000 in
set_option maxRecDepth 20000 in
theorem len8_any (x : Nat) (w : World) (hx : x < 256) :
    Calls Tryz.prog 155 #[.int .u8 (x : Int)] w fun e w' => e = .returned (.int .i64 ((lenN x : Nat) : Int)) ∧ w = w' := by
  go_enter Tryz.func155, Tryz.ntmps155
  go_wp2
  go_ret
  refine ⟨congrArg (fun z => Ending.returned (Value.int .i64 z)) ?_, rfl⟩
  rename_i h
  clear w
  revert h
  revert x
  decide +kernel

theorem lenN_le (x : Nat) : lenN x ≤ 8 := by
  unfold lenN; split; omega; split; omega; split; omega; split; omega; split; omega; split; omega; split; omega; split <;> omega

set_option maxRecDepth 20000 in
set_option maxHeartbeats 400000 in
theorem lead8_any (x : Nat) (w : World) (hx : x < 256) :
    Calls Tryz.prog 154 #[.int .u8 (x : Int)] w fun e w' => e = .returned (.int .i64 ((8 - lenN x : Nat) : Int)) ∧ w = w' := by
  have h8 := lenN_le x
  go_enter Tryz.func154, Tryz.ntmps154
  go_wp2_with (go_at_call 155; refine (len8_any x _ hx).mono ?_; rintro e w1 ⟨rfl, rfl⟩)
  go_ret
  exact ⟨by go_num, rfl⟩

/-- the table of rows is there: of each number of 1s, of how many bits the head is, and the number behind it -/
structure RowsW (w : World) : Prop where
  size : 2 < w.heap.size
  head : ∀ i, i < 5 → w.cell? ⟨2, i * 2, none⟩ = some (.int .i64 ((headN i : Nat) : Int))
  body : ∀ i, i < 5 → w.cell? ⟨2, i * 2 + 1, none⟩ = some (.int .i64 ((roomN i : Nat) : Int))
theorem RowsW.keep {w w' : World} (h : RowsW w) (hs : w.heap.size ≤ w'.heap.size) (hb : w'.heap[2]? = w.heap[2]?) : RowsW w' :=
  ⟨by have := h.size; omega, fun i hi => (World.cell?_of_block hb).trans (h.head i hi), fun i hi => (World.cell?_of_block hb).trans (h.body i hi)⟩
theorem RowsW.below {w w' : World} {B : Nat} (h : RowsW w) (hb : Below B w w') (hB : 2 < B) : RowsW w' := h.keep hb.size (hb.block 2 hB)
theorem RowsW.bel {w w' : World} (h : RowsW w) (hb : Below w.heap.size w w') : RowsW w' := h.below hb h.size
theorem RowsW.drewN {w : World} (h : RowsW w) (n : Nat) : RowsW (w.drewN n) := ⟨h.size, h.head, h.body⟩

/-- the 8 bits of a number begin with so many 1s -/
theorem ones8 : ∀ x, x < 256 → min (8 - lenN (255 - x)) 4 ≤ 4 ∧ (∀ j, j < min (8 - lenN (255 - x)) 4 → (low x 8).getD j false = true) ∧ (min (8 - lenN (255 - x)) 4 < 4 → (low x 8).getD (min (8 - lenN (255 - x)) 4) false = false) := by
  decide +kernel
theorem ones8_is {x k : Nat} (hx : x < 256) (hk : Ones (low x 8) k) : k = min (8 - lenN (255 - x)) 4 := by
  obtain ⟨h1, h2, h3⟩ := ones8 x hx
  exact hk.same ⟨h1, by rw [low_length]; omega, h2, h3⟩

theorem xor8 : ∀ x : Nat, x < 256 → bits BinOp.xor IntKind.u8 IntKind.u8.max (x : Int) = ((255 - x : Nat) : Int) := by decide +kernel

set_option maxRecDepth 20000 in
set_option maxHeartbeats 400000 in
theorem rowof_any (x k : Nat) (w : World) (hx : x < 256) (hk : Ones (low x 8) k) (hR : RowsW w) :
    Calls Tryz.prog 148 #[.int .u8 (x : Int)] w fun e w' => e = .returned (.agg #[.int .i64 ((headN k : Nat) : Int), .int .i64 ((roomN k : Nat) : Int)]) ∧ Below w.heap.size w w' := by
  have hk4 := hk.le4
  have HK := Lib.hid (ones8_is hx hk)
  clear hk
  have hR1 : RowsW (w.alloc (.cells #[.int .i64 0, .int .i64 0] 223)) := hR.bel ((Below.refl _ _).alloc (Nat.le_refl _) _)
  obtain ⟨n, HN⟩ : ∃ n, Hid (8 - lenN (255 - x) = n) := ⟨_, Lib.hid rfl⟩
  go_enter Tryz.func148, Tryz.ntmps148
  go_wp2_with fail
  rw [xor8 x hx]
  refine (lead8_any (255 - x) _ (by omega)).mono ?_
  rintro e w1 ⟨rfl, rfl⟩
  rw [HN.out]
  have hn : min n 4 = k := by rw [HK.out, HN.out]
  clear HN HK
  by_cases h4 : n ≤ 4
  · obtain rfl : n = k := by omega
    have hc0 := hR1.head n (by omega)
    have hc1 := hR1.body n (by omega)
    go_wp2
    go_returns
    exact ⟨rfl, (Below.refl _ _).alloc (Nat.le_refl _) _⟩
  · obtain rfl : 4 = k := by omega
    have hc0 : (w.alloc (.cells #[.int .i64 0, .int .i64 0] 223)).cell? ⟨2, 8, none⟩ = some (.int .i64 4) := hR1.head 4 (by omega)
    have hc1 : (w.alloc (.cells #[.int .i64 0, .int .i64 0] 223)).cell? ⟨2, 9, none⟩ = some (.int .i64 64) := hR1.body 4 (by omega)
    go_wp2
    go_returns
    exact ⟨rfl, (Below.refl _ _).alloc (Nat.le_refl _) _⟩

theorem tsigned_any (x k : Nat) (w : World) (hx : x ≤ 18446744073709551615) (hk : k ≤ 4) :
    Calls Tryz.prog 150 #[.int .u64 (x : Int), .int .i64 ((roomN k : Nat) : Int)] w fun e w' => e = .returned (.int .i64 (sgnN x (roomN k))) ∧ w = w' := by
  rcases room_cases hk with ⟨rfl, h1, _⟩ | ⟨rfl, h1, _⟩ | ⟨rfl, h1, _⟩ | ⟨rfl, h1, _⟩ | ⟨rfl, h1, _⟩ <;> rw [h1]
  · go_enter Tryz.func150, Tryz.ntmps150
    go_wp2
    go_ret
    rw [← sg_0]
    exact ⟨rfl, rfl⟩
  · go_enter Tryz.func150, Tryz.ntmps150
    go_wp2
    go_ret
    rw [← sg_7]
    exact ⟨rfl, rfl⟩
  · go_enter Tryz.func150, Tryz.ntmps150
    go_wp2
    go_ret
    rw [← sg_9]
    exact ⟨rfl, rfl⟩
  · go_enter Tryz.func150, Tryz.ntmps150
    go_wp2
    go_ret
    rw [← sg_12]
    exact ⟨rfl, rfl⟩
  · go_enter Tryz.func150, Tryz.ntmps150
    go_wp2
    go_ret
    rw [← sg_64]
    exact ⟨rfl, rfl⟩

end Go.Proofs.YtaebljoacffghaaGreatDoor

/-
  The contract of layer 6's Get: what the bits ahead of a reader begin with, and where it stands then.
-/
namespace Go.Proofs.YtaebljoacffghaaGreatDoor
open Go.RowKit

theorem low_numT (p : List Bool) : low (num p) p.length = p := by
  apply num_inj (low_length _ _)
  rw [num_low]
  exact Nat.mod_eq_of_lt (num_lt p)
theorem drop_getDB (p : List Bool) (a j : Nat) : (p.drop a).getD j false = p.getD (a + j) false := by
  rw [List.getD_eq_getElem?_getD, List.getElem?_drop, List.getD_eq_getElem?_getD]
/-- the next 8 bits, those behind the last one being 0, begin with as many 1s as the bits ahead -/
theorem ones_ext {p : List Bool} {a k : Nat} (h : Ones (p.drop a) k) : Ones (ext p a 8) k := by
  have h4 := h.le4
  refine ⟨h4, by rw [ext_length]; omega, fun j hj => ?_, fun hk => ?_⟩
  · rw [ext_getD _ _ _ _ (by omega), ← drop_getDB]; exact h.all j hj
  · rw [ext_getD _ _ _ _ (by omega), ← drop_getDB]; exact h.stop hk

theorem grown_below {w w' : World} (h : Below w.heap.size w w') (row : Option Nat) : w.grownBy w' row := ⟨h.os, h.tape, h.output, h.size, fun k hk _ => h.block k hk⟩
theorem RoomW.grown {w w' : World} {g : Nat} (h : RoomW w) (hg : w.grownBy w' (some g)) (h1 : 0 < g) : RoomW w' :=
  ⟨by have := hg.size; have := h.1; omega, fun i hi => (World.cell?_of_block (a := ⟨0, i, none⟩) (hg.block 0 h.1 (by simp; omega))).trans (h.2 i hi)⟩
theorem RowsW.grown {w w' : World} {g : Nat} (h : RowsW w) (hg : w.grownBy w' (some g)) (h1 : 2 < g) : RowsW w' := h.keep hg.size (hg.block 2 h.size (by simp; omega))
theorem BoxAt.grown {w w' : World} {g b : Nat} {s n : Value} (h : BoxAt w b s n) (hg : w.grownBy w' (some g)) (h1 : b ≠ g) : BoxAt w' b s n := by
  have hb := hg.block b h.lt (by simpa using h1)
  exact ⟨Nat.lt_of_lt_of_le h.lt hg.size, (World.cell?_of_block (a := ⟨b, 0, none⟩) hb).trans h.c0, (World.cell?_of_block (a := ⟨b, 1, none⟩) hb).trans h.c1, (World.frozen?_of_block (a := ⟨b, 0, none⟩) hb).trans h.f0, (World.frozen?_of_block (a := ⟨b, 1, none⟩) hb).trans h.f1⟩

set_option maxRecDepth 100000 in
theorem run_fieldN (W : World) (A : Option Addr) (m c : Nat) (n : Int) : (Instr.field 148 (.agg #[.slice A m c, .int .i64 n]) 1).run Tryz.prog W = .ok (.int .i64 n) W := by rfl

/-- what Get comes to: what the bits ahead begin with; the reader stands behind it; it alone has turned -/
def RetTG (w : World) (g : Nat) (A : Option Addr) (n c : Nat) (bs : List Nat) (a : Nat) (e : Ending) (w' : World) : Prop :=
  ∃ (v : Int) (m k a' : Nat), DGets (restL bs a) v m k ∧ e = .returned (.tuple #[.int .i64 v, errV k]) ∧ Rdr w' g A n c bs a' ∧ (k = 0 → a' = a + m) ∧ w.grownBy w' (some g)

set_option maxRecDepth 20000 in
set_option maxHeartbeats 1000000 in
theorem tget_any (g : Nat) (A : Option Addr) (n c : Nat) (bs : List Nat) (a : Nat) (w : World) (h : Rdr w g A n c bs a) (hR : RoomW w) (hT : RowsW w) (hg : 0 < g ∧ 2 < g) :
    Calls Tryz.prog 142 #[.pointer (some ⟨g, 0, none⟩)] w (RetTG w g A n c bs a) := by
  have hl := h.len
  have hat := h.at_
  obtain ⟨k, hk⟩ := ones_is (restL bs a)
  have hk4 := hk.le4
  have HL : Hid ((restL bs a).length = 8 * n - a) := Lib.hid (by rw [restL_length (by omega), hl])
  have hk8 : Ones (low (num (ext (flat bs) a 8)) 8) k := by
    have := low_numT (ext (flat bs) a 8)
    rw [ext_length] at this
    rw [this]
    rw [restL_yes (by omega)] at hk
    exact ones_ext hk
  have hx : num (ext (flat bs) a 8) < 256 := by
    have := num_lt (ext (flat bs) a 8)
    rwa [ext_length] at this
  obtain ⟨x, HX⟩ : ∃ x, Hid (num (ext (flat bs) a 8) = x) := ⟨_, Lib.hid rfl⟩
  rw [HX.out] at hk8 hx
  have HK := Lib.hid hk
  clear hk hl
  have h3 := head_le k
  have h2 := room_le k
  go_enter Tryz.func142, Tryz.ntmps142
  go_wp2_with fail
  refine (peek_yes g A n c bs a 8 w h (by omega)).mono ?_
  rintro e w1 ⟨rfl, m1, rfl⟩
  rw [HX.out]
  have h1 := h.drewN m1
  have hR1 := hR.drewN m1
  have hT1 := hT.drewN m1
  have hg1 : w.grownBy (w.drewN m1) (some g) := only_drewN (World.grownBy.refl w _) m1
  generalize w.drewN m1 = w1 at *
  clear h hR hT
  go_wp2_with fail
  refine (rowof_any x k w1 hx hk8 hT1).mono ?_
  rintro e w2 ⟨rfl, hb2⟩
  have hg2 := hg1.trans (grown_below hb2 (some g))
  have h2' := h1.below hb2
  have hR2 := hR1.bel hb2
  have hT2 := hT1.bel hb2
  have hgs : g < w2.heap.size := by have := h1.lt; have := hb2.size; omega
  have hba := (Below.refl w2.heap.size w2).alloc (Nat.le_refl _) (.cells #[.int .i64 ((headN k : Nat) : Int), .int .i64 ((roomN k : Nat) : Int)] 223)
  have hB3 := BoxAt.new w2 (.int .i64 ((headN k : Nat) : Int)) (.int .i64 ((roomN k : Nat) : Int)) 223
  have h3' := h2'.below hba
  have hR3 := hR2.bel hba
  have hg3 := hg2.trans (grown_below hba (some g))
  obtain ⟨b, HB⟩ : ∃ b, Hid (w2.heap.size = b) := ⟨_, Lib.hid rfl⟩
  rw [HB.out] at hB3 hgs
  have hbg : b ≠ g := by omega
  clear h1 hR1 hT1 hg1 hg2 h2' hR2 hT2 hk8 hb2 hba
  obtain ⟨wb, HW⟩ : ∃ wb, Hid (w2.alloc (.cells #[.int .i64 ((headN k : Nat) : Int), .int .i64 ((roomN k : Nat) : Int)] 223) = wb) := ⟨_, Lib.hid rfl⟩
  rw [HW.out] at h3' hR3 hg3 hB3
  have hc0 := hB3.c0
  have hc1 := hB3.c1
  go_wp2_with fail
  rw [HW.out, HB.out]
  clear HW HB hc0 hc1 hx HX
  clear w1 w2
  have hbl := hB3.lt
  by_cases hf1 : headN k ≤ 8 * n - a
  · have hf1' : a + headN k ≤ 8 * n := by omega
    refine (skip_yes g A n c bs a (headN k) wb h3' hf1').mono ?_
    rintro e w4 ⟨rfl, hW4⟩
    have h4 := hW4.rdr
    have hB4 := hB3.grown hW4.only hbg
    have hR4 := hR3.grown hW4.only hg.1
    have hg4 := hg3.trans hW4.only
    clear hW4 h3' hB3 hR3 hg3 hbl
    clear wb
    have hc0 := hB4.c0
    have hc1 := hB4.c1
    go_wp2_with fail
    by_cases hf2 : headN k + roomN k ≤ 8 * n - a
    · have hf2' : a + headN k + roomN k ≤ 8 * n := by omega
      refine (read_yes g A n c bs (a + headN k) (roomN k) w4 h4 h2 hf2').mono ?_
      rintro e w5 ⟨rfl, hW5⟩
      have h5 := hW5.rdr
      have hB5 := hB4.grown hW5.only hbg
      have hR5 := hR4.grown hW5.only hg.1
      have hg5 := hg4.trans hW5.only
      clear hW5 h4 hB4 hR4 hg4 hc0 hc1
      clear w4
      have hc0 := hB5.c0
      have hc1 := hB5.c1
      have hfit : headN k + roomN k ≤ (restL bs a).length := by rw [HL.out]; exact hf2
      have HE : Hid (num (ext (flat bs) (a + headN k) (roomN k)) = num (cut (restL bs a) (headN k) (roomN k))) := Lib.hid (by
        have hl := h5.len
        rw [ext_cut _ _ _ (by rw [flat_length]; omega), restL_yes (by omega), cut_drop])
      rw [HE.out]
      have HY : Hid (bodyD (restL bs a) k = sgnN (num (cut (restL bs a) (headN k) (roomN k))) (roomN k)) := Lib.hid rfl
      have HI := Lib.hid (bodyD_in (restL bs a) hk4)
      have HN : Hid (num (cut (restL bs a) (headN k) (roomN k)) ≤ 18446744073709551615) := Lib.hid (by
        have h5 := num_lt (cut (restL bs a) (headN k) (roomN k))
        rw [cut_length _ _ _ hfit] at h5
        have h6 : 2 ^ roomN k ≤ 2 ^ 64 := Nat.pow_le_pow_right (by omega) h2
        omega)
      have HOK := Lib.hid (fun e => (⟨k, HK.out, .inr (.inr ⟨hfit, e, rfl, rfl, rfl⟩)⟩ : DGets (restL bs a) (bodyD (restL bs a) k) (headN k + roomN k) 0))
      have HNO := Lib.hid (fun e => (⟨k, HK.out, .inr (.inl ⟨hfit, e, rfl, rfl, rfl⟩)⟩ : DGets (restL bs a) 0 0 3))
      clear HE hfit HL HK
      generalize num (cut (restL bs a) (headN k) (roomN k)) = y at *
      generalize bodyD (restL bs a) k = z at *
      go_wp2_with fail
      refine (tsigned_any y k _ HN.out hk4).mono ?_
      rintro e w6 ⟨rfl, rfl⟩
      rw [← HY.out]
      clear HY HN
      go_wp2_with fail
      have HCD := Lib.hid (fun (W : World) (hW : RoomW W) => dcode_any z W HI.out hW)
      have HLe := Lib.hid (fun (e : onesN z = k) => (codeD_length z).trans (by rw [e]))
      have HLn := Lib.hid (fun (e : onesN z ≠ k) => codeD_unlike hk4 e)
      generalize codeD z = q at *
      have hlt := hB5.lt
      have hfn := run_fieldN
      by_cases ho : onesN z = k
      · have hne : (((q.length : Nat) : Int) != IntKind.i64.wrap (((headN k : Nat) : Int) + ((roomN k : Nat) : Int))) = false := by rw [IntWalk.i64_in _ (by omega), HLe.out ho]; simp
        have HO := Lib.hid (HOK.out ho)
        clear ho HOK HNO
        go_region_with (first
          | (go_at_call 116; refine (HCD.out w5.drew hR5).mono ?_; rintro e w7 ⟨A7, c7, rfl, hown7⟩; have hb7 : Below w5.heap.size w5 w7 := undrew hown7.bel; have hd0 := (hB5.below hb7).c0; have hd1 := (hB5.below hb7).c1))
        all_goals
          go_wp2
          go_ret2
          exact ⟨z, _, 0, _, HO.out, rfl, h5.below hb7, fun _ => by omega, hg5.trans (grown_below hb7 _)⟩
      · have hne : (((q.length : Nat) : Int) != IntKind.i64.wrap (((headN k : Nat) : Int) + ((roomN k : Nat) : Int))) = true := by
          have := HLn.out ho
          rw [IntWalk.i64_in _ (by omega)]
          simp; omega
        have HO := Lib.hid (HNO.out ho)
        clear ho HOK HNO
        go_region_with (first
          | (go_at_call 116; refine (HCD.out w5.drew hR5).mono ?_; rintro e w7 ⟨A7, c7, rfl, hown7⟩; have hb7 : Below w5.heap.size w5 w7 := undrew hown7.bel; have hd0 := (hB5.below hb7).c0; have hd1 := (hB5.below hb7).c1))
        all_goals
          go_wp2
          go_ret2
          exact ⟨0, 0, 3, _, HO.out, rfl, h5.below hb7, fun h => (by cases h), hg5.trans (grown_below hb7 _)⟩
    · refine (read_no g A n c bs (a + headN k) (roomN k) w4 h4 (by omega)).mono ?_
      rintro e w5 ⟨rfl, m5, rfl⟩
      go_wp2
      go_ret2
      exact ⟨0, 0, 2, _, ⟨k, HK.out, .inl ⟨by rw [HL.out]; omega, rfl, rfl, rfl⟩⟩, rfl, h4.drewN m5, fun h => (by cases h), only_drewN hg4 m5⟩
  · refine (skip_no g A n c bs a (headN k) wb h3' (by omega)).mono ?_
    rintro e w4 ⟨rfl, m4, rfl⟩
    go_wp2
    go_ret2
    exact ⟨0, 0, 2, _, ⟨k, HK.out, .inl ⟨by rw [HL.out]; omega, rfl, rfl, rfl⟩⟩, rfl, h3'.drewN m4, fun h => (by cases h), only_drewN hg3 m4⟩

end Go.Proofs.YtaebljoacffghaaGreatDoor

/-
  What layer 11's Next is to come to: its contract, as the laws use it. The three tables are there, in blocks ahead of the reader's.
-/
namespace Go.Proofs.YtaebljoacffghaaGreatDoor
open Go.RowKit

theorem TzW.grown {w w' : World} {g : Nat} (h : TzW w) (hg : w.grownBy w' (some g)) (h1 : 1 < g) : TzW w' :=
  ⟨by have := hg.size; have := h.size; omega, fun t ht => (World.cell?_of_block (a := ⟨1, 2 ^ t * 285870213051353865 % 18446744073709551616 / 288230376151711744, none⟩) (hg.block _ h.size (by simp; omega))).trans (h.cell t ht)⟩
/-- the three tables -/
structure TabsW (w : World) : Prop where
  room : RoomW w
  rows : RowsW w
  tz : TzW w
/-- they lie ahead of a block -/
def TabsLt (g : Nat) : Prop := 0 < g ∧ 2 < g ∧ 1 < g
section
variable {w w' : World} {g : Nat}
theorem TabsW.bel (h : TabsW w) (hb : Below w.heap.size w w') : TabsW w' := ⟨h.room.bel hb, h.rows.bel hb, h.tz.bel hb⟩
theorem TabsW.grown (h : TabsW w) (hg : w.grownBy w' (some g)) (hl : TabsLt g) : TabsW w' := ⟨h.room.grown hg hl.1, h.rows.grown hg hl.2.1, h.tz.grown hg hl.2.2⟩
theorem TabsW.lt (h : TabsW w) : TabsLt w.heap.size := ⟨h.room.1, h.rows.size, h.tz.size⟩
theorem TabsLt.le {g' : Nat} (h : TabsLt g) (hg : g ≤ g') : TabsLt g' := ⟨Nat.lt_of_lt_of_le h.1 hg, Nat.lt_of_lt_of_le h.2.1 hg, Nat.lt_of_lt_of_le h.2.2 hg⟩
end
/-- what Next comes to -/
def RetNX (w : World) (g : Nat) (A : Option Addr) (m c : Nat) (bs : List Nat) (a : Nat) (z n : Int) (s : KS) (e : Ending) (w' : World) : Prop :=
  ∃ (xs : List (Int × Nat)) (s1 : KS) (p1 : List Bool) (er : Nat) (A' : Option Addr) (c' a' : Nat), BatA z n s ((flat bs).drop a) xs s1 p1 er ∧ e = .returned (.tuple #[.slice A' xs.length c', (.agg #[.int .i64 (s1.n : Int), .int .i64 s1.t, .int .i64 s1.d, .int .u64 (s1.v : Int), .int .u64 (s1.e : Int), .int .u64 (s1.x.prev : Int), .int .i64 (s1.x.lead : Int), .int .i64 (s1.x.len : Int)]), errV er]) ∧
    RdQ w' w'.heap.size A' xs.length c' xs ∧ (∀ ad, A' = some ad → w.heap.size ≤ ad.block) ∧ Rdr w' g A m c bs a' ∧ (er = 0 → p1 = (flat bs).drop a') ∧ w.grownBy w' (some g)
/-- the contract -/
def NextC : Prop := ∀ (g : Nat) (A : Option Addr) (m c : Nat) (bs : List Nat) (a : Nat) (z n : Int) (s : KS) (w : World), Rdr w g A m c bs a → m ≤ 10000 → TabsLt g → TabsW w → -9223372036854775808 ≤ n ∧ n ≤ 9223372036854775807 → s.May → s.n ≤ 900000 →
  Calls Tryz.prog 106 #[.int .i64 z, .pointer (some ⟨g, 0, none⟩), (.agg #[.int .i64 (s.n : Int), .int .i64 s.t, .int .i64 s.d, .int .u64 (s.v : Int), .int .u64 (s.e : Int), .int .u64 (s.x.prev : Int), .int .i64 (s.x.lead : Int), .int .i64 (s.x.len : Int)]), .int .i64 n] w (RetNX w g A m c bs a z n s)

end Go.Proofs.YtaebljoacffghaaGreatDoor

/-
  Where a reader stands behind a call that goes on with it; its Read, as bits from a place on tell; the contracts of layer 11's getWord, getWindow.
-/
namespace Go.Proofs.YtaebljoacffghaaGreatDoor
open Go.RowKit

section
variable {a b c : World} {row : Option Nat}
theorem gr_own {row' : Option Nat} (h : a.grownBy b row) (k : b.grownBy c row') (hr : ∀ j, row' = some j → a.heap.size ≤ j) : a.grownBy c row :=
  ⟨k.os.trans h.os, k.tape.trans h.tape, k.output.trans h.output, Nat.le_trans h.size k.size, fun i hi hne => (k.block i (Nat.lt_of_lt_of_le hi h.size) (fun e => by have := hr i e.symm; omega)).trans (h.block i hi hne)⟩
theorem gr_below (h : a.grownBy b row) (hb : Below b.heap.size b c) : a.grownBy c row := h.trans (grown_below hb row)
theorem gr_put (h : a.grownBy b row) {d : Nat} (hd : a.heap.size ≤ d) (k : Nat) (u : Value) : a.grownBy (b.setCell ⟨d, k, none⟩ u) row := gr_own h (only_set b d k u) (fun j e => by injection e with e; omega)
end
section
variable {w : World} {g m c a : Nat} {A : Option Addr} {bs : List Nat}
theorem Rdr.oth (h : Rdr w g A m c bs a) {d : Nat} (hd : g < d) (k : Nat) (u : Value) : Rdr (w.setCell ⟨d, k, none⟩ u) g A m c bs a := h.keep fun i hi => Below.heap_setCell _ _ _ _ (by dsimp only; omega)
end
/-- where the reader stands then; of what there was, it alone has turned -/
def Wt (w : World) (g : Nat) (A : Option Addr) (m c : Nat) (bs : List Nat) (a : Nat) (w' : World) : Prop := Rdr w' g A m c bs a ∧ w.grownBy w' (some g)
section
variable {w w1 w2 : World} {g m c a a2 : Nat} {A : Option Addr} {bs : List Nat}
theorem Wt.of (h : Rdr w g A m c bs a) : Wt w g A m c bs a w := ⟨h, World.grownBy.refl w _⟩
theorem Wt.went (h : Wt w g A m c bs a w1) (k : Went w1 g A m c bs a2 w2) : Wt w g A m c bs a2 w2 := ⟨k.rdr, h.2.trans k.only⟩
theorem Wt.trans (h : Wt w g A m c bs a w1) (k : Wt w1 g A m c bs a2 w2) : Wt w g A m c bs a2 w2 := ⟨k.1, h.2.trans k.2⟩
theorem Wt.below (h : Wt w g A m c bs a w1) (hb : Below w1.heap.size w1 w2) : Wt w g A m c bs a w2 := ⟨h.1.below hb, gr_below h.2 hb⟩
theorem Wt.drewN (h : Wt w g A m c bs a w1) (k : Nat) : Wt w g A m c bs a (w1.drewN k) := ⟨h.1.drewN k, only_drewN h.2 k⟩
theorem Wt.put (h : Wt w g A m c bs a w1) (hg : g < w.heap.size) {d : Nat} (hd : w.heap.size ≤ d) (k : Nat) (u : Value) : Wt w g A m c bs a (w1.setCell ⟨d, k, none⟩ u) := ⟨h.1.oth (by omega) k u, gr_put h.2 hd k u⟩
theorem Wt.put2 (h : Wt w g A m c bs a w1) (hg : g < w.heap.size) {d : Nat} (hd : w.heap.size ≤ d) (u0 u1 : Value) : Wt w g A m c bs a ((w1.setCell ⟨d, 0, none⟩ u0).setCell ⟨d, 1, none⟩ u1) := (h.put hg hd 0 u0).put hg hd 1 u1
theorem Wt.put3 (h : Wt w g A m c bs a w1) (hg : g < w.heap.size) {d : Nat} (hd : w.heap.size ≤ d) (u0 u1 u2 : Value) : Wt w g A m c bs a (((w1.setCell ⟨d, 0, none⟩ u0).setCell ⟨d, 1, none⟩ u1).setCell ⟨d, 2, none⟩ u2) := (h.put2 hg hd u0 u1).put hg hd 2 u2
theorem Wt.lt (h : Wt w g A m c bs a w1) {d : Nat} (hd : d < w.heap.size) : d < w1.heap.size := Nat.lt_of_lt_of_le hd h.2.size
/-- a box apart from the reader -/
theorem Wt.box (h : Wt w g A m c bs a w1) {d : Nat} {l : List Value} (x : BoxL w d l) (hd : g < d) : BoxL w1 d l := x.grown h.2 (by simp; omega)
end
theorem Went.wt {w w' : World} {g m c a : Nat} {A : Option Addr} {bs : List Nat} (h : Went w g A m c bs a w') : Wt w g A m c bs a w' := ⟨h.rdr, h.only⟩
theorem Went.box {w w' : World} {g m c a : Nat} {A : Option Addr} {bs : List Nat} (h : Went w g A m c bs a w') {d : Nat} {l : List Value} (x : BoxL w d l) (hd : g < d) : BoxL w' d l := h.wt.box x hd

theorem ext_rest {bs : List Nat} {a j n : Nat} (h : a + j + n ≤ 8 * bs.length) : num (ext (flat bs) (a + j) n) = num (cut (restL bs a) j n) := by
  rw [ext_cut _ _ _ (by rw [flat_length]; omega), restL_yes (by omega), cut_drop]
section
variable (g : Nat) (A : Option Addr) (m c : Nat) (bs : List Nat) (a j : Nat) (w : World)
/-- Read's answer by the bits from a place on -/
theorem rnum (n : Nat) (h : Rdr w g A m c bs (a + j)) (hn : n ≤ 64) (hj : j + n ≤ (restL bs a).length) :
    Calls Tryz.prog 147 #[.pointer (some ⟨g, 0, none⟩), .int .i64 (n : Int)] w fun e w' => e = .returned (.tuple #[.int .u64 ((num (cut (restL bs a) j n) : Nat) : Int), .bool true]) ∧ Went w g A m c bs (a + j + n) w' := by
  have h1 := h.len
  have h2 := h.at_
  have h3 := restL_length (bs := bs) (a := a) (by omega)
  have := read_yes g A m c bs (a + j) n w h hn (by omega)
  rwa [ext_rest (by omega)] at this
theorem rno (n : Nat) (h : Rdr w g A m c bs (a + j)) (hn : n ≤ 64) (hj : (restL bs a).length < j + n) :
    Calls Tryz.prog 147 #[.pointer (some ⟨g, 0, none⟩), .int .i64 (n : Int)] w fun e w' => e = .returned (.tuple #[.int .u64 0, .bool false]) ∧ Wt w g A m c bs (a + j) w' := by
  have h1 := h.len
  have h2 := h.at_
  have h3 := restL_length (bs := bs) (a := a) (by omega)
  exact (read_no g A m c bs (a + j) n w h (by omega)).mono fun e w' ⟨h4, k, h5⟩ => ⟨h4, by subst h5; exact (Wt.of h).drewN k⟩
/-- one bit -/
theorem rbit (z : Int) (h : Rdr w g A m c bs (a + j)) (hj : j < (restL bs a).length) (hz : (((restL bs a).getD j false).toNat : Int) = z) :
    Calls Tryz.prog 147 #[.pointer (some ⟨g, 0, none⟩), .int .i64 1] w fun e w' => e = .returned (.tuple #[.int .u64 z, .bool true]) ∧ Went w g A m c bs (a + j + 1) w' := by
  have := rnum g A m c bs a j w 1 h (by omega) (by omega)
  rw [num_cut_one _ _ hj, hz] at this
  exact this
end

set_option maxRecDepth 20000 in
set_option maxHeartbeats 400000 in
theorem bword_yes (g : Nat) (A : Option Addr) (m c : Nat) (bs : List Nat) (a : Nat) (w : World) (h : Rdr w g A m c bs a) (hy : 64 ≤ (restL bs a).length) :
    Calls Tryz.prog 141 #[.pointer (some ⟨g, 0, none⟩)] w fun e w' => e = .returned (.tuple #[.int .u64 ((num (cut (restL bs a) 0 64) : Nat) : Int), .nilIface]) ∧ Wt w g A m c bs (a + 64) w' := by
  have hR := rnum g A m c bs a 0 w 64 h (by omega) (by omega)
  generalize num (cut (restL bs a) 0 64) = x at *
  go_enter Tryz.func141, Tryz.ntmps141
  go_wp2_with fail
  refine hR.mono ?_
  rintro e w1 ⟨rfl, hW⟩
  go_wp2
  go_ret2
  exact ⟨rfl, hW.wt⟩
set_option maxRecDepth 20000 in
set_option maxHeartbeats 400000 in
theorem bword_no (g : Nat) (A : Option Addr) (m c : Nat) (bs : List Nat) (a : Nat) (w : World) (h : Rdr w g A m c bs a) (hy : (restL bs a).length < 64) :
    Calls Tryz.prog 141 #[.pointer (some ⟨g, 0, none⟩)] w fun e w' => e = .returned (.tuple #[.int .u64 0, .iface 59 (.int .i64 2)]) ∧ Wt w g A m c bs a w' := by
  have hR := rno g A m c bs a 0 w 64 h (by omega) (by omega)
  go_enter Tryz.func141, Tryz.ntmps141
  go_wp2_with fail
  refine hR.mono ?_
  rintro e w1 ⟨rfl, hW⟩
  go_wp2
  go_ret2
  exact ⟨rfl, hW⟩

/-- what getWindow comes to -/
def RetWin (w : World) (g : Nat) (A : Option Addr) (m c : Nat) (bs : List Nat) (a : Nat) (s : XS) (e : Ending) (w' : World) : Prop :=
  ((winX s (restL bs a)).e ≠ 0 ∧ e = .returned (.tuple #[.agg #[.int .u64 0, .int .i64 0, .int .i64 0], .int .i64 0, .iface 59 (.int .i64 ((winX s (restL bs a)).e : Int))]) ∧ ∃ a', Wt w g A m c bs a' w') ∨
  ((winX s (restL bs a)).e = 0 ∧ e = .returned (.tuple #[.agg #[.int .u64 (s.prev : Int), .int .i64 ((winX s (restL bs a)).lead : Int), .int .i64 ((winX s (restL bs a)).len : Int)], .int .i64 ((winX s (restL bs a)).head : Int), .nilIface]) ∧
    Wt w g A m c bs (a + (winX s (restL bs a)).head) w')

/-- two boxes of three cells, the second one of 0s -/
theorem two_boxes (w : World) (s : XS) : Below w.heap.size w ((w.alloc (.cells #[.int .u64 (s.prev : Int), .int .i64 (s.lead : Int), .int .i64 (s.len : Int)] 149)).alloc (.cells #[.int .u64 0, .int .i64 0, .int .i64 0] 149)) ∧
    BoxL ((w.alloc (.cells #[.int .u64 (s.prev : Int), .int .i64 (s.lead : Int), .int .i64 (s.len : Int)] 149)).alloc (.cells #[.int .u64 0, .int .i64 0, .int .i64 0] 149)) w.heap.size [.int .u64 (s.prev : Int), .int .i64 (s.lead : Int), .int .i64 (s.len : Int)] ∧
    BoxL ((w.alloc (.cells #[.int .u64 (s.prev : Int), .int .i64 (s.lead : Int), .int .i64 (s.len : Int)] 149)).alloc (.cells #[.int .u64 0, .int .i64 0, .int .i64 0] 149)) (w.heap.size + 1) [.int .u64 0, .int .i64 0, .int .i64 0] := by
  have h2 := BoxL.new (w.alloc (.cells #[.int .u64 (s.prev : Int), .int .i64 (s.lead : Int), .int .i64 (s.len : Int)] 149)) [.int .u64 0, .int .i64 0, .int .i64 0] 149
  simp only [World.size_alloc] at h2
  exact ⟨by repeat (first | with_reducible exact Below.refl _ _ | assumption | with_reducible refine Below.drew ?_ | with_reducible refine Below.alloc ?_ (by (first | assumption | omega | (simp; done) | (simp; omega))) _), (BoxL.new w [.int .u64 (s.prev : Int), .int .i64 (s.lead : Int), .int .i64 (s.len : Int)] 149).onA _, h2⟩

set_option maxRecDepth 20000 in
set_option maxHeartbeats 1000000 in
theorem bwin_short1 (g : Nat) (A : Option Addr) (m c : Nat) (bs : List Nat) (a : Nat) (s : XS) (w : World) (h : Rdr w g A m c bs (a + 1)) (c1 : (restL bs a).length = 1) :
    Calls Tryz.prog 151 #[.pointer (some ⟨g, 0, none⟩), (.agg #[.int .u64 (s.prev : Int), .int .i64 (s.lead : Int), .int .i64 (s.len : Int)])] w (RetWin w g A m c bs a s) := by
  have hg := h.lt
  obtain ⟨hV, x3, x4⟩ := two_boxes w s
  have hb0 := (Wt.of h).below hV
  unfold RetWin
  have e : winX s (restL bs a) = badW 2 := by unfold winX; rw [if_pos c1]
  rw [e]
  have hR := rno g A m c bs a 1 _ 1 hb0.1 (by omega) (by omega)
  clear h c1 e
  go_enter Tryz.func151, Tryz.ntmps151
  go_wp2_with fail
  refine hR.mono ?_
  rintro e w1 ⟨rfl, hW⟩
  replace x3 := hW.box x3 hg
  replace x4 := hW.box x4 (by omega)
  replace hW := hb0.trans hW
  clear hR hV hb0
  have z4 := x4.all3 (.int .u64 0) (.int .i64 0) (.int .i64 0)
  have hZ := hW.put3 hg (Nat.le_succ _) (.int .u64 0) (.int .i64 0) (.int .i64 0)
  obtain ⟨f0, f1, f2⟩ := x4.free3
  obtain ⟨y0, y1, y2⟩ := x4.get3
  clear x4 hW
  clear x3
  go_wp2
  clear f0 f1 f2 y0 y1 y2
  generalize (((w1.setCell ⟨w.heap.size + 1, 0, none⟩ (.int .u64 0)).setCell ⟨w.heap.size + 1, 1, none⟩ (.int .i64 0)).setCell ⟨w.heap.size + 1, 2, none⟩ (.int .i64 0)) = Z at *
  obtain ⟨u0, u1, u2⟩ := z4.get3
  refine bodyPost_ret (v := .tuple #[.agg #[.int .u64 0, .int .i64 0, .int .i64 0], .int .i64 0, .iface 59 (.int .i64 2)]) ?_ rfl (.inl ⟨by simp [badW], rfl, _, hZ⟩)
  simp [results, Tryz.results151, go_sem, u0, u1, u2]

set_option maxRecDepth 20000 in
set_option maxHeartbeats 1000000 in
theorem bwin_none (g : Nat) (A : Option Addr) (m c : Nat) (bs : List Nat) (a : Nat) (s : XS) (w : World) (h : Rdr w g A m c bs (a + 1)) (c1 : 2 ≤ (restL bs a).length) (c2 : (restL bs a).getD 1 false = false) (c3 : s.len = 0) :
    Calls Tryz.prog 151 #[.pointer (some ⟨g, 0, none⟩), (.agg #[.int .u64 (s.prev : Int), .int .i64 (s.lead : Int), .int .i64 (s.len : Int)])] w (RetWin w g A m c bs a s) := by
  have hg := h.lt
  obtain ⟨hV, x3, x4⟩ := two_boxes w s
  have hb0 := (Wt.of h).below hV
  unfold RetWin
  have e : winX s (restL bs a) = badW 3 := by unfold winX; rw [if_neg (by omega), if_pos c2, if_pos c3]
  rw [e]
  have hR := rbit g A m c bs a 1 _ 0 hb0.1 (by omega) (by rw [c2]; rfl)
  have h23 : ((s.len : Int) == 0) = true := by simp [c3]
  clear h c1 c2 c3 e
  go_enter Tryz.func151, Tryz.ntmps151
  go_wp2_with fail
  refine hR.mono ?_
  rintro e w1 ⟨rfl, hW⟩
  replace x3 := hW.box x3 hg
  replace x4 := hW.box x4 (by omega)
  replace hW := hb0.went hW
  clear hR hV hb0
  obtain ⟨q0, q1, q2⟩ := x3.get3
  have z4 := x4.all3 (.int .u64 0) (.int .i64 0) (.int .i64 0)
  have hZ := hW.put3 hg (Nat.le_succ _) (.int .u64 0) (.int .i64 0) (.int .i64 0)
  obtain ⟨f0, f1, f2⟩ := x4.free3
  obtain ⟨y0, y1, y2⟩ := x4.get3
  clear x4 hW
  clear x3
  go_wp2
  clear f0 f1 f2 y0 y1 y2
  generalize (((w1.setCell ⟨w.heap.size + 1, 0, none⟩ (.int .u64 0)).setCell ⟨w.heap.size + 1, 1, none⟩ (.int .i64 0)).setCell ⟨w.heap.size + 1, 2, none⟩ (.int .i64 0)) = Z at *
  obtain ⟨u0, u1, u2⟩ := z4.get3
  refine bodyPost_ret (v := .tuple #[.agg #[.int .u64 0, .int .i64 0, .int .i64 0], .int .i64 0, .iface 59 (.int .i64 3)]) ?_ rfl (.inl ⟨by simp [badW], rfl, _, hZ⟩)
  simp [results, Tryz.results151, go_sem, u0, u1, u2]

set_option maxRecDepth 20000 in
set_option maxHeartbeats 1000000 in
theorem bwin_old (g : Nat) (A : Option Addr) (m c : Nat) (bs : List Nat) (a : Nat) (s : XS) (w : World) (h : Rdr w g A m c bs (a + 1)) (c1 : 2 ≤ (restL bs a).length) (c2 : (restL bs a).getD 1 false = false) (c3 : s.len ≠ 0) :
    Calls Tryz.prog 151 #[.pointer (some ⟨g, 0, none⟩), (.agg #[.int .u64 (s.prev : Int), .int .i64 (s.lead : Int), .int .i64 (s.len : Int)])] w (RetWin w g A m c bs a s) := by
  have hg := h.lt
  obtain ⟨hV, x3, x4⟩ := two_boxes w s
  have hb0 := (Wt.of h).below hV
  unfold RetWin
  have e : winX s (restL bs a) = ⟨s.lead, s.len, 2, 0⟩ := by unfold winX; rw [if_neg (by omega), if_pos c2, if_neg c3]
  rw [e]
  have hR := rbit g A m c bs a 1 _ 0 hb0.1 (by omega) (by rw [c2]; rfl)
  have h23 : ((s.len : Int) == 0) = false := by simp [c3]
  clear h c1 c2 c3 e
  go_enter Tryz.func151, Tryz.ntmps151
  go_wp2_with fail
  refine hR.mono ?_
  rintro e w1 ⟨rfl, hW⟩
  replace x3 := hW.box x3 hg
  replace x4 := hW.box x4 (by omega)
  replace hW := hb0.went hW
  clear hR hV hb0
  obtain ⟨q0, q1, q2⟩ := x3.get3
  have z4 := x4.all3 (.int .u64 (s.prev : Int)) (.int .i64 (s.lead : Int)) (.int .i64 (s.len : Int))
  have hZ := hW.put3 hg (Nat.le_succ _) (.int .u64 (s.prev : Int)) (.int .i64 (s.lead : Int)) (.int .i64 (s.len : Int))
  obtain ⟨f0, f1, f2⟩ := x4.free3
  obtain ⟨y0, y1, y2⟩ := x4.get3
  clear x3 x4 hW
  go_wp2
  clear f0 f1 f2 y0 y1 y2 q0 q1 q2
  generalize (((w1.setCell ⟨w.heap.size + 1, 0, none⟩ (.int .u64 (s.prev : Int))).setCell ⟨w.heap.size + 1, 1, none⟩ (.int .i64 (s.lead : Int))).setCell ⟨w.heap.size + 1, 2, none⟩ (.int .i64 (s.len : Int))) = Z at *
  obtain ⟨u0, u1, u2⟩ := z4.get3
  refine bodyPost_ret (v := .tuple #[(.agg #[.int .u64 (s.prev : Int), .int .i64 (s.lead : Int), .int .i64 (s.len : Int)]), .int .i64 2, .nilIface]) ?_ rfl (.inr ⟨by first | rfl | trivial, rfl, hZ⟩)
  simp [results, Tryz.results151, go_sem, u0, u1, u2]

set_option maxRecDepth 20000 in
set_option maxHeartbeats 1000000 in
theorem bwin_short2 (g : Nat) (A : Option Addr) (m c : Nat) (bs : List Nat) (a : Nat) (s : XS) (w : World) (h : Rdr w g A m c bs (a + 1)) (c1 : 2 ≤ (restL bs a).length) (c2 : (restL bs a).getD 1 false = true) (c3 : (restL bs a).length < 14) :
    Calls Tryz.prog 151 #[.pointer (some ⟨g, 0, none⟩), (.agg #[.int .u64 (s.prev : Int), .int .i64 (s.lead : Int), .int .i64 (s.len : Int)])] w (RetWin w g A m c bs a s) := by
  have hg := h.lt
  obtain ⟨hV, x3, x4⟩ := two_boxes w s
  have hb0 := (Wt.of h).below hV
  unfold RetWin
  have e : winX s (restL bs a) = badW 2 := by unfold winX; rw [if_neg (by omega), c2, if_neg (by simp), if_pos c3]
  rw [e]
  have hR := rbit g A m c bs a 1 _ 1 hb0.1 (by omega) (by rw [c2]; rfl)
  have hR2 := fun X hX => rno g A m c bs a 2 X 12 hX (by omega) (by omega)
  clear h c1 c2 c3 e
  go_enter Tryz.func151, Tryz.ntmps151
  go_wp2_with fail
  refine hR.mono ?_
  rintro e w1 ⟨rfl, hW⟩
  replace x3 := hW.box x3 hg
  replace x4 := hW.box x4 (by omega)
  replace hW := hb0.went hW
  clear hR hV hb0
  go_wp2_with fail
  refine (hR2 _ hW.1).mono ?_
  rintro e w2 ⟨rfl, hW2⟩
  replace x3 := hW2.box x3 hg
  replace x4 := hW2.box x4 (by omega)
  replace hW := hW.trans hW2
  clear hR2 hW2
  clear w1
  obtain ⟨w1, rfl⟩ : ∃ X, X = w2 := ⟨_, rfl⟩
  have z4 := x4.all3 (.int .u64 0) (.int .i64 0) (.int .i64 0)
  have hZ := hW.put3 hg (Nat.le_succ _) (.int .u64 0) (.int .i64 0) (.int .i64 0)
  obtain ⟨f0, f1, f2⟩ := x4.free3
  obtain ⟨y0, y1, y2⟩ := x4.get3
  clear x4 hW
  clear x3
  go_wp2
  clear f0 f1 f2 y0 y1 y2
  generalize (((w1.setCell ⟨w.heap.size + 1, 0, none⟩ (.int .u64 0)).setCell ⟨w.heap.size + 1, 1, none⟩ (.int .i64 0)).setCell ⟨w.heap.size + 1, 2, none⟩ (.int .i64 0)) = Z at *
  obtain ⟨u0, u1, u2⟩ := z4.get3
  refine bodyPost_ret (v := .tuple #[.agg #[.int .u64 0, .int .i64 0, .int .i64 0], .int .i64 0, .iface 59 (.int .i64 2)]) ?_ rfl (.inl ⟨by simp [badW], rfl, _, hZ⟩)
  simp [results, Tryz.results151, go_sem, u0, u1, u2]

set_option maxRecDepth 20000 in
set_option maxHeartbeats 1000000 in
theorem bwin_wide (g : Nat) (A : Option Addr) (m c : Nat) (bs : List Nat) (a : Nat) (s : XS) (w : World) (h : Rdr w g A m c bs (a + 1)) (_c1 : 2 ≤ (restL bs a).length) (c2 : (restL bs a).getD 1 false = true) (c3 : 14 ≤ (restL bs a).length)
    (c4 : 64 < num (cut (restL bs a) 2 6) + (num (cut (restL bs a) 8 6) + 1)) :
    Calls Tryz.prog 151 #[.pointer (some ⟨g, 0, none⟩), (.agg #[.int .u64 (s.prev : Int), .int .i64 (s.lead : Int), .int .i64 (s.len : Int)])] w (RetWin w g A m c bs a s) := by
  have hg := h.lt
  obtain ⟨hV, x3, x4⟩ := two_boxes w s
  have hb0 := (Wt.of h).below hV
  unfold RetWin
  have e : winX s (restL bs a) = badW 3 := by unfold winX; rw [if_neg (by omega), c2, if_neg (by simp), if_neg (by omega), if_pos c4]
  rw [e]
  clear e
  have hR := rbit g A m c bs a 1 _ 1 hb0.1 (by omega) (by rw [c2]; rfl)
  have hR2 := fun X hX => rnum g A m c bs a 2 X 12 hX (by omega) (by omega)
  obtain ⟨g1, g2⟩ := two_six _ c3
  have hl64 := num_cut_lt (restL bs a) 2 6
  have hk64 := num_cut_lt (restL bs a) 8 6
  generalize num (cut (restL bs a) 2 12) = y at *
  generalize num (cut (restL bs a) 2 6) = l at *
  generalize num (cut (restL bs a) 8 6) = b at *
  have q1 : (y : Int) / 64 = (l : Int) := by omega
  have q2 : (y : Int) % 64 = (b : Int) := by omega
  obtain ⟨k, hk⟩ : ∃ k, b + 1 = k := ⟨_, rfl⟩
  have q3 : (b : Int) + 1 = (k : Int) := by omega
  rw [hk] at c4
  try rw [hk]
  have hl0 : l < 64 := by omega
  have hk0 : k ≤ 64 := by omega
  clear h c2 c3 g1 g2 hk64 hl64 hk
  go_enter Tryz.func151, Tryz.ntmps151
  go_wp2_with fail
  refine hR.mono ?_
  rintro e w1 ⟨rfl, hW⟩
  replace x3 := hW.box x3 hg
  replace x4 := hW.box x4 (by omega)
  replace hW := hb0.went hW
  clear hR hV hb0
  go_wp2_with fail
  refine (hR2 _ hW.1).mono ?_
  rintro e w2 ⟨rfl, hW2⟩
  replace x3 := hW2.box x3 hg
  replace x4 := hW2.box x4 (by omega)
  replace hW := hW.went hW2
  clear hR2 hW2
  clear w1
  obtain ⟨w1, rfl⟩ : ∃ X, X = w2 := ⟨_, rfl⟩
  obtain ⟨p0, p1, p2⟩ := x3.get3
  obtain ⟨e0, e1, e2⟩ := x3.free3
  go_upto_region 12 with fail
  clear p0 p1 p2 e0 e1 e2
  replace hW := (hW.put hg (Nat.le_refl _) 1 (.int .i64 (l : Int))).put hg (Nat.le_refl _) 2 (.int .i64 (k : Int))
  replace x4 := (x4.oth (d := w.heap.size) (by omega) 1 (.int .i64 (l : Int))).oth (d := w.heap.size) (by omega) 2 (.int .i64 (k : Int))
  replace x3 : BoxL ((w1.setCell ⟨w.heap.size, 1, none⟩ (.int .i64 (l : Int))).setCell ⟨w.heap.size, 2, none⟩ (.int .i64 (k : Int))) w.heap.size [.int .u64 (s.prev : Int), .int .i64 (l : Int), .int .i64 (k : Int)] := (x3.put 1 _).put 2 _
  generalize (w1.setCell ⟨w.heap.size, 1, none⟩ (.int .i64 (l : Int))).setCell ⟨w.heap.size, 2, none⟩ (.int .i64 (k : Int)) = w2 at *
  clear q1 q2 q3
  clear w1
  obtain ⟨w1, rfl⟩ : ∃ X, X = w2 := ⟨_, rfl⟩
  obtain ⟨p0, p1, p2⟩ := x3.get3
  have z4 := x4.all3 (.int .u64 0) (.int .i64 0) (.int .i64 0)
  have hZ := hW.put3 hg (Nat.le_succ _) (.int .u64 0) (.int .i64 0) (.int .i64 0)
  obtain ⟨f0, f1, f2⟩ := x4.free3
  obtain ⟨y0, y1, y2⟩ := x4.get3
  clear x4 hW
  clear x3
  go_wp2
  clear f0 f1 f2 y0 y1 y2
  generalize (((w1.setCell ⟨w.heap.size + 1, 0, none⟩ (.int .u64 0)).setCell ⟨w.heap.size + 1, 1, none⟩ (.int .i64 0)).setCell ⟨w.heap.size + 1, 2, none⟩ (.int .i64 0)) = Z at *
  obtain ⟨u0, u1, u2⟩ := z4.get3
  refine bodyPost_ret (v := .tuple #[.agg #[.int .u64 0, .int .i64 0, .int .i64 0], .int .i64 0, .iface 59 (.int .i64 3)]) ?_ rfl (.inl ⟨by simp [badW], rfl, _, hZ⟩)
  simp [results, Tryz.results151, go_sem, u0, u1, u2]

set_option maxRecDepth 20000 in
set_option maxHeartbeats 1000000 in
theorem bwin_new (g : Nat) (A : Option Addr) (m c : Nat) (bs : List Nat) (a : Nat) (s : XS) (w : World) (h : Rdr w g A m c bs (a + 1)) (_c1 : 2 ≤ (restL bs a).length) (c2 : (restL bs a).getD 1 false = true) (c3 : 14 ≤ (restL bs a).length)
    (c4 : num (cut (restL bs a) 2 6) + (num (cut (restL bs a) 8 6) + 1) ≤ 64) :
    Calls Tryz.prog 151 #[.pointer (some ⟨g, 0, none⟩), (.agg #[.int .u64 (s.prev : Int), .int .i64 (s.lead : Int), .int .i64 (s.len : Int)])] w (RetWin w g A m c bs a s) := by
  have hg := h.lt
  obtain ⟨hV, x3, x4⟩ := two_boxes w s
  have hb0 := (Wt.of h).below hV
  unfold RetWin
  have e : winX s (restL bs a) = ⟨num (cut (restL bs a) 2 6), num (cut (restL bs a) 8 6) + 1, 14, 0⟩ := by unfold winX; rw [if_neg (by omega), c2, if_neg (by simp), if_neg (by omega), if_neg (by omega)]
  rw [e]
  clear e
  have hR := rbit g A m c bs a 1 _ 1 hb0.1 (by omega) (by rw [c2]; rfl)
  have hR2 := fun X hX => rnum g A m c bs a 2 X 12 hX (by omega) (by omega)
  obtain ⟨g1, g2⟩ := two_six _ c3
  have hl64 := num_cut_lt (restL bs a) 2 6
  have hk64 := num_cut_lt (restL bs a) 8 6
  generalize num (cut (restL bs a) 2 12) = y at *
  generalize num (cut (restL bs a) 2 6) = l at *
  generalize num (cut (restL bs a) 8 6) = b at *
  have q1 : (y : Int) / 64 = (l : Int) := by omega
  have q2 : (y : Int) % 64 = (b : Int) := by omega
  obtain ⟨k, hk⟩ : ∃ k, b + 1 = k := ⟨_, rfl⟩
  have q3 : (b : Int) + 1 = (k : Int) := by omega
  rw [hk] at c4
  try rw [hk]
  have hl0 : l < 64 := by omega
  have hk0 : k ≤ 64 := by omega
  clear h c2 c3 g1 g2 hk64 hl64 hk
  go_enter Tryz.func151, Tryz.ntmps151
  go_wp2_with fail
  refine hR.mono ?_
  rintro e w1 ⟨rfl, hW⟩
  replace x3 := hW.box x3 hg
  replace x4 := hW.box x4 (by omega)
  replace hW := hb0.went hW
  clear hR hV hb0
  go_wp2_with fail
  refine (hR2 _ hW.1).mono ?_
  rintro e w2 ⟨rfl, hW2⟩
  replace x3 := hW2.box x3 hg
  replace x4 := hW2.box x4 (by omega)
  replace hW := hW.went hW2
  clear hR2 hW2
  clear w1
  obtain ⟨w1, rfl⟩ : ∃ X, X = w2 := ⟨_, rfl⟩
  obtain ⟨p0, p1, p2⟩ := x3.get3
  obtain ⟨e0, e1, e2⟩ := x3.free3
  go_upto_region 12 with fail
  clear p0 p1 p2 e0 e1 e2
  replace hW := (hW.put hg (Nat.le_refl _) 1 (.int .i64 (l : Int))).put hg (Nat.le_refl _) 2 (.int .i64 (k : Int))
  replace x4 := (x4.oth (d := w.heap.size) (by omega) 1 (.int .i64 (l : Int))).oth (d := w.heap.size) (by omega) 2 (.int .i64 (k : Int))
  replace x3 : BoxL ((w1.setCell ⟨w.heap.size, 1, none⟩ (.int .i64 (l : Int))).setCell ⟨w.heap.size, 2, none⟩ (.int .i64 (k : Int))) w.heap.size [.int .u64 (s.prev : Int), .int .i64 (l : Int), .int .i64 (k : Int)] := (x3.put 1 _).put 2 _
  generalize (w1.setCell ⟨w.heap.size, 1, none⟩ (.int .i64 (l : Int))).setCell ⟨w.heap.size, 2, none⟩ (.int .i64 (k : Int)) = w2 at *
  clear q1 q2 q3
  clear w1
  obtain ⟨w1, rfl⟩ : ∃ X, X = w2 := ⟨_, rfl⟩
  obtain ⟨p0, p1, p2⟩ := x3.get3
  have z4 := x4.all3 (.int .u64 (s.prev : Int)) (.int .i64 (l : Int)) (.int .i64 (k : Int))
  have hZ := hW.put3 hg (Nat.le_succ _) (.int .u64 (s.prev : Int)) (.int .i64 (l : Int)) (.int .i64 (k : Int))
  obtain ⟨f0, f1, f2⟩ := x4.free3
  obtain ⟨y0, y1, y2⟩ := x4.get3
  clear x3 x4 hW
  go_wp2
  clear f0 f1 f2 y0 y1 y2 p0 p1 p2
  generalize (((w1.setCell ⟨w.heap.size + 1, 0, none⟩ (.int .u64 (s.prev : Int))).setCell ⟨w.heap.size + 1, 1, none⟩ (.int .i64 (l : Int))).setCell ⟨w.heap.size + 1, 2, none⟩ (.int .i64 (k : Int))) = Z at *
  obtain ⟨u0, u1, u2⟩ := z4.get3
  refine bodyPost_ret (v := .tuple #[.agg #[.int .u64 (s.prev : Int), .int .i64 (l : Int), .int .i64 (k : Int)], .int .i64 14, .nilIface]) ?_ rfl (.inr ⟨by first | rfl | trivial, rfl, hZ⟩)
  simp [results, Tryz.results151, go_sem, u0, u1, u2]

theorem bwin_any (g : Nat) (A : Option Addr) (m c : Nat) (bs : List Nat) (a : Nat) (s : XS) (w : World) (h : Rdr w g A m c bs (a + 1)) (c1 : (restL bs a).length ≠ 0) :
    Calls Tryz.prog 151 #[.pointer (some ⟨g, 0, none⟩), (.agg #[.int .u64 (s.prev : Int), .int .i64 (s.lead : Int), .int .i64 (s.len : Int)])] w (RetWin w g A m c bs a s) := by
  by_cases h1 : (restL bs a).length = 1
  · exact bwin_short1 g A m c bs a s w h h1
  by_cases h2 : (restL bs a).getD 1 false = false
  · by_cases h3 : s.len = 0
    · exact bwin_none g A m c bs a s w h (by omega) h2 h3
    · exact bwin_old g A m c bs a s w h (by omega) h2 h3
  have h2' : (restL bs a).getD 1 false = true := by simpa using h2
  by_cases h3 : (restL bs a).length < 14
  · exact bwin_short2 g A m c bs a s w h (by omega) h2' h3
  by_cases h4 : 64 < num (cut (restL bs a) 2 6) + (num (cut (restL bs a) 8 6) + 1)
  · exact bwin_wide g A m c bs a s w h (by omega) h2' (by omega) h4
  · exact bwin_new g A m c bs a s w h (by omega) h2' (by omega) (by omega)

end Go.Proofs.YtaebljoacffghaaGreatDoor

/-
  The contract of layer 11's getXor: what the bits ahead of a reader begin with, as a value's code in a state.
-/
namespace Go.Proofs.YtaebljoacffghaaGreatDoor
open Go.RowKit

theorem TzW.grown' {w w' : World} {g : Nat} (h : TzW w) (hg : w.grownBy w' (some g)) (h1 : 1 < g) : TzW w' :=
  ⟨by have := hg.size; have := h.size; omega, fun t ht => (World.cell?_of_block (a := ⟨1, 2 ^ t * 285870213051353865 % 18446744073709551616 / 288230376151711744, none⟩) (hg.block _ h.size (by simp; omega))).trans (h.cell t ht)⟩
theorem run_neq_stateB (w : World) (a b c a' b' c' : Int) (h : ¬ (a = a' ∧ b = b' ∧ c = c')) : (binOp .neq 149 (.agg #[.int .u64 a, .int .i64 b, .int .i64 c]) (.agg #[.int .u64 a', .int .i64 b', .int .i64 c'])).run Tryz.prog w = .ok (.bool true) w := by
  rw [run_neq_struct, run_equalIn_agg _ _ _ _ _ state_fields state_held]
  have h2 : ¬ ((a = a' ∧ b = b') ∧ c = c') := fun e => h ⟨e.1.1, e.1.2, e.2⟩
  simp [Op.eqFields, go_sem]
  omega

/-- what getXor comes to -/
def RetGX (w : World) (g : Nat) (A : Option Addr) (m c : Nat) (bs : List Nat) (a : Nat) (s : XS) (e : Ending) (w' : World) : Prop :=
  ∃ a', e = .returned (.tuple #[(.agg #[.int .u64 ((getX s (restL bs a)).s.prev : Int), .int .i64 ((getX s (restL bs a)).s.lead : Int), .int .i64 ((getX s (restL bs a)).s.len : Int)]), errV (getX s (restL bs a)).e]) ∧ ((getX s (restL bs a)).e = 0 → a' = a + (getX s (restL bs a)).n) ∧ Wt w g A m c bs a' w'
theorem RetGX.bad {w : World} {g : Nat} {A : Option Addr} {m c : Nat} {bs : List Nat} {a a' : Nat} {s : XS} {w' : World} {k : Nat} (h : getX s (restL bs a) = badX k) (hk : k ≠ 0) (hw : Wt w g A m c bs a' w') :
    RetGX w g A m c bs a s (.returned (.tuple #[.agg #[.int .u64 0, .int .i64 0, .int .i64 0], .iface 59 (.int .i64 (k : Int))])) w' := by
  refine ⟨a', ?_, fun e => ?_, hw⟩
  · have e : errV k = .iface 59 (.int .i64 (k : Int)) := by unfold errV; rw [if_neg hk]
    rw [h]
    show _ = Ending.returned (.tuple #[.agg #[.int .u64 0, .int .i64 0, .int .i64 0], errV k])
    rw [e]
  · rw [h] at e
    exact absurd e hk

set_option maxRecDepth 20000 in
set_option maxHeartbeats 1000000 in
theorem bxor_short (g : Nat) (A : Option Addr) (m c : Nat) (bs : List Nat) (a : Nat) (s : XS) (w : World) (h : Rdr w g A m c bs a) (c1 : (restL bs a).length = 0) :
    Calls Tryz.prog 143 #[.pointer (some ⟨g, 0, none⟩), (.agg #[.int .u64 (s.prev : Int), .int .i64 (s.lead : Int), .int .i64 (s.len : Int)])] w (RetGX w g A m c bs a s) := by
  have hg := h.lt
  obtain ⟨hV, x3, x4⟩ := two_boxes w s
  have hb0 := (Wt.of h).below hV
  have HB : Hid (getX s (restL bs a) = badX 2) := Lib.hid (by unfold getX; rw [if_pos c1])
  have hR := rno g A m c bs a 0 _ 1 hb0.1 (by omega) (by omega)
  clear h c1
  go_enter Tryz.func143, Tryz.ntmps143
  go_wp2_with fail
  refine hR.mono ?_
  rintro e w1 ⟨rfl, hW⟩
  replace x3 := hW.box x3 hg
  replace x4 := hW.box x4 (by omega)
  replace hW := hb0.trans hW
  clear hR hV hb0 x3
  have z4 := x4.all3 (.int .u64 0) (.int .i64 0) (.int .i64 0)
  have hZ := hW.put3 hg (Nat.le_succ _) (.int .u64 0) (.int .i64 0) (.int .i64 0)
  obtain ⟨f0, f1, f2⟩ := x4.free3
  obtain ⟨y0, y1, y2⟩ := x4.get3
  clear x4 hW
  go_wp2
  clear f0 f1 f2 y0 y1 y2
  generalize (((w1.setCell ⟨w.heap.size + 1, 0, none⟩ (.int .u64 0)).setCell ⟨w.heap.size + 1, 1, none⟩ (.int .i64 0)).setCell ⟨w.heap.size + 1, 2, none⟩ (.int .i64 0)) = Z at *
  obtain ⟨u0, u1, u2⟩ := z4.get3
  refine bodyPost_ret (v := .tuple #[.agg #[.int .u64 0, .int .i64 0, .int .i64 0], .iface 59 (.int .i64 2)]) ?_ rfl (RetGX.bad (k := 2) HB.out (by omega) hZ)
  simp [results, Tryz.results143, go_sem, u0, u1, u2]

set_option maxRecDepth 20000 in
set_option maxHeartbeats 1000000 in
theorem bxor_same (g : Nat) (A : Option Addr) (m c : Nat) (bs : List Nat) (a : Nat) (s : XS) (w : World) (h : Rdr w g A m c bs a) (c1 : (restL bs a).length ≠ 0) (c2 : (restL bs a).getD 0 false = false) :
    Calls Tryz.prog 143 #[.pointer (some ⟨g, 0, none⟩), (.agg #[.int .u64 (s.prev : Int), .int .i64 (s.lead : Int), .int .i64 (s.len : Int)])] w (RetGX w g A m c bs a s) := by
  have hg := h.lt
  obtain ⟨hV, x3, x4⟩ := two_boxes w s
  have hb0 := (Wt.of h).below hV
  have HB : Hid (getX s (restL bs a) = ⟨s.prev, s, 1, 0⟩) := Lib.hid (by unfold getX; rw [if_neg c1, if_pos c2])
  have hR := rbit g A m c bs a 0 _ 0 hb0.1 (by omega) (by rw [c2]; rfl)
  clear h c1 c2
  go_enter Tryz.func143, Tryz.ntmps143
  go_wp2_with fail
  refine hR.mono ?_
  rintro e w1 ⟨rfl, hW⟩
  replace x3 := hW.box x3 hg
  replace x4 := hW.box x4 (by omega)
  replace hW := hb0.went hW
  clear hR hV hb0
  obtain ⟨q0, q1, q2⟩ := x3.get3
  have z4 := x4.all3 (.int .u64 (s.prev : Int)) (.int .i64 (s.lead : Int)) (.int .i64 (s.len : Int))
  have hZ := hW.put3 hg (Nat.le_succ _) (.int .u64 (s.prev : Int)) (.int .i64 (s.lead : Int)) (.int .i64 (s.len : Int))
  obtain ⟨f0, f1, f2⟩ := x4.free3
  obtain ⟨y0, y1, y2⟩ := x4.get3
  clear x3 x4 hW
  go_wp2
  clear f0 f1 f2 y0 y1 y2 q0 q1 q2
  generalize (((w1.setCell ⟨w.heap.size + 1, 0, none⟩ (.int .u64 (s.prev : Int))).setCell ⟨w.heap.size + 1, 1, none⟩ (.int .i64 (s.lead : Int))).setCell ⟨w.heap.size + 1, 2, none⟩ (.int .i64 (s.len : Int))) = Z at *
  obtain ⟨u0, u1, u2⟩ := z4.get3
  refine bodyPost_ret (v := .tuple #[(.agg #[.int .u64 (s.prev : Int), .int .i64 (s.lead : Int), .int .i64 (s.len : Int)]), .nilIface]) ?_ rfl ⟨_, by rw [HB.out]; rfl, fun _ => by rw [HB.out]; rfl, hZ⟩
  simp [results, Tryz.results143, go_sem, u0, u1, u2]

set_option maxRecDepth 20000 in
set_option maxHeartbeats 1000000 in
theorem bxor_nowin (g : Nat) (A : Option Addr) (m c : Nat) (bs : List Nat) (a : Nat) (s : XS) (w : World) (h : Rdr w g A m c bs a) (hs : s.May) (c1 : (restL bs a).length ≠ 0) (c2 : (restL bs a).getD 0 false = true) (c3 : (winX s (restL bs a)).e ≠ 0) :
    Calls Tryz.prog 143 #[.pointer (some ⟨g, 0, none⟩), (.agg #[.int .u64 (s.prev : Int), .int .i64 (s.lead : Int), .int .i64 (s.len : Int)])] w (RetGX w g A m c bs a s) := by
  have hg := h.lt
  obtain ⟨hV, x3, x4⟩ := two_boxes w s
  have hb0 := (Wt.of h).below hV
  have HB := Lib.hid ((getX_win hs c1 c2).1 c3)
  have HC := Lib.hid c3
  have hR := rbit g A m c bs a 0 _ 1 hb0.1 (by omega) (by rw [c2]; rfl)
  have hR2 := fun X hX => bwin_any g A m c bs a s X hX c1
  unfold RetWin at hR2
  clear h c1 c2
  go_enter Tryz.func143, Tryz.ntmps143
  go_wp2_with fail
  refine hR.mono ?_
  rintro e w1 ⟨rfl, hW⟩
  replace x3 := hW.box x3 hg
  replace x4 := hW.box x4 (by omega)
  replace hW := hb0.went hW
  clear hR hV hb0
  obtain ⟨q0, q1, q2⟩ := x3.get3
  go_wp2_with fail
  refine (hR2 _ hW.1).mono ?_
  clear q0 q1 q2 hR2
  clear c3
  rintro e w2 (⟨_, rfl, a2, hW2⟩ | ⟨h0, _⟩)
  case inr => exact absurd h0 HC.out
  generalize (winX s (restL bs a)).e = k at *
  replace x4 := hW2.box x4 (by omega)
  replace hW := hW.trans hW2
  clear x3 hW2
  clear w1
  go_upto_region 8 with fail
  have hal : Below w2.heap.size w2 (w2.alloc (.cells #[.int .u64 0, .int .i64 0, .int .i64 0] 149)) := by repeat (first | with_reducible exact Below.refl _ _ | assumption | with_reducible refine Below.drew ?_ | with_reducible refine Below.alloc ?_ (by (first | assumption | omega | (simp; done) | (simp; omega))) _)
  replace x4 := x4.below hal
  replace hW := hW.below hal
  generalize w2.alloc (.cells #[.int .u64 0, .int .i64 0, .int .i64 0] 149) = w1 at *
  clear hal
  have z4 := x4.all3 (.int .u64 0) (.int .i64 0) (.int .i64 0)
  have hZ := hW.put3 hg (Nat.le_succ _) (.int .u64 0) (.int .i64 0) (.int .i64 0)
  obtain ⟨f0, f1, f2⟩ := x4.free3
  obtain ⟨y0, y1, y2⟩ := x4.get3
  clear x4 hW
  go_wp2
  clear f0 f1 f2 y0 y1 y2
  generalize (((w1.setCell ⟨w.heap.size + 1, 0, none⟩ (.int .u64 0)).setCell ⟨w.heap.size + 1, 1, none⟩ (.int .i64 0)).setCell ⟨w.heap.size + 1, 2, none⟩ (.int .i64 0)) = Z at *
  obtain ⟨u0, u1, u2⟩ := z4.get3
  refine bodyPost_ret (v := .tuple #[.agg #[.int .u64 0, .int .i64 0, .int .i64 0], .iface 59 (.int .i64 (k : Int))]) ?_ rfl (RetGX.bad (k := k) HB.out HC.out hZ)
  simp [results, Tryz.results143, go_sem, u0, u1, u2]

theorem shl_word {y k x : Nat} (h : x ≤ 18446744073709551615) (e : y * 2 ^ k = x) : IntKind.u64.wrap ((y : Int) * 2 ^ k) = (x : Int) := by
  subst e
  rw [← wrap_u64 _ h]
  simp
set_option maxRecDepth 20000 in
set_option maxHeartbeats 1000000 in
theorem bxor_cut (g : Nat) (A : Option Addr) (m c : Nat) (bs : List Nat) (a : Nat) (s : XS) (w : World) (h : Rdr w g A m c bs a) (hs : s.May) (c1 : (restL bs a).length ≠ 0) (c2 : (restL bs a).getD 0 false = true) (c3 : (winX s (restL bs a)).e = 0)
    (c4 : (restL bs a).length < (winX s (restL bs a)).head + (winX s (restL bs a)).len) :
    Calls Tryz.prog 143 #[.pointer (some ⟨g, 0, none⟩), (.agg #[.int .u64 (s.prev : Int), .int .i64 (s.lead : Int), .int .i64 (s.len : Int)])] w (RetGX w g A m c bs a s) := by
  have hg := h.lt
  obtain ⟨hV, x3, x4⟩ := two_boxes w s
  have hb0 := (Wt.of h).below hV
  have HI := Lib.hid ((getX_win hs c1 c2).2 c3)
  obtain ⟨r1, r2, r3, _⟩ := winX_lead (p := restL bs a) hs
  have HC := Lib.hid c3
  clear c3
  have hR := rbit g A m c bs a 0 _ 1 hb0.1 (by omega) (by rw [c2]; rfl)
  have hR2 := fun X hX => bwin_any g A m c bs a s X hX c1
  unfold RetWin at hR2
  clear h c1 c2
  go_enter Tryz.func143, Tryz.ntmps143
  go_wp2_with fail
  refine hR.mono ?_
  rintro e w1 ⟨rfl, hW⟩
  replace x3 := hW.box x3 hg
  replace x4 := hW.box x4 (by omega)
  replace hW := hb0.went hW
  clear hR hV hb0
  obtain ⟨q0, q1, q2⟩ := x3.get3
  go_wp2_with fail
  refine (hR2 _ hW.1).mono ?_
  clear q0 q1 q2 hR2
  rintro e w2 (⟨h0, _⟩ | ⟨_, rfl, hW2⟩)
  case inl => exact absurd HC.out h0
  generalize winX s (restL bs a) = r at *
  replace x3 := hW2.box x3 hg
  replace x4 := hW2.box x4 (by omega)
  replace hW := hW.trans hW2
  clear hW2
  clear w1
  go_upto_region 9 with fail
  have hal : Below w2.heap.size w2 (w2.alloc (.cells #[.int .u64 (s.prev : Int), .int .i64 (r.lead : Int), .int .i64 (r.len : Int)] 149)) := by repeat (first | with_reducible exact Below.refl _ _ | assumption | with_reducible refine Below.drew ?_ | with_reducible refine Below.alloc ?_ (by (first | assumption | omega | (simp; done) | (simp; omega))) _)
  have x8 := BoxL.new w2 [.int .u64 (s.prev : Int), .int .i64 (r.lead : Int), .int .i64 (r.len : Int)] 149
  have h48 := x4.lt
  replace x3 := x3.below hal
  replace x4 := x4.below hal
  replace hW := hW.below hal
  change BoxL (w2.alloc (.cells #[.int .u64 (s.prev : Int), .int .i64 (r.lead : Int), .int .i64 (r.len : Int)] 149)) w2.heap.size [.int .u64 (s.prev : Int), .int .i64 (r.lead : Int), .int .i64 (r.len : Int)] at x8
  generalize w2.alloc (.cells #[.int .u64 (s.prev : Int), .int .i64 (r.lead : Int), .int .i64 (r.len : Int)] 149) = w1 at *
  generalize w2.heap.size = g8 at *
  clear hal
  clear w2
  obtain ⟨q0, q1, q2⟩ := x8.get3
  have HB := Lib.hid (HI.out.short c4)
  have hR := rno g A m c bs a r.head w1 r.len hW.1 r2 c4
  clear c4 r1 r2 r3
  go_wp2_with fail
  refine hR.mono ?_
  rintro e w2 ⟨rfl, hW2⟩
  replace x4 := hW2.box x4 (by omega)
  replace hW := hW.trans hW2
  clear q0 q1 q2 hR hW2 x3 x8
  clear w1
  obtain ⟨w1, rfl⟩ : ∃ X, X = w2 := ⟨_, rfl⟩
  have z4 := x4.all3 (.int .u64 0) (.int .i64 0) (.int .i64 0)
  have hZ := hW.put3 hg (Nat.le_succ _) (.int .u64 0) (.int .i64 0) (.int .i64 0)
  obtain ⟨f0, f1, f2⟩ := x4.free3
  obtain ⟨y0, y1, y2⟩ := x4.get3
  clear x4 hW
  go_wp2
  clear f0 f1 f2 y0 y1 y2
  generalize (((w1.setCell ⟨w.heap.size + 1, 0, none⟩ (.int .u64 0)).setCell ⟨w.heap.size + 1, 1, none⟩ (.int .i64 0)).setCell ⟨w.heap.size + 1, 2, none⟩ (.int .i64 0)) = Z at *
  obtain ⟨u0, u1, u2⟩ := z4.get3
  refine bodyPost_ret (v := .tuple #[.agg #[.int .u64 0, .int .i64 0, .int .i64 0], .iface 59 (.int .i64 2)]) ?_ rfl (RetGX.bad (k := 2) HB.out (by omega) hZ)
  simp [results, Tryz.results143, go_sem, u0, u1, u2]

set_option maxRecDepth 20000 in
set_option maxHeartbeats 1000000 in
theorem bxor_form (g : Nat) (A : Option Addr) (m c : Nat) (bs : List Nat) (a : Nat) (s : XS) (w : World) (h : Rdr w g A m c bs a) (hs : s.May) (hT : TzW w) (hTg : 1 < g) (c1 : (restL bs a).length ≠ 0) (c2 : (restL bs a).getD 0 false = true) (c3 : (winX s (restL bs a)).e = 0)
    (c4 : (winX s (restL bs a)).head + (winX s (restL bs a)).len ≤ (restL bs a).length)
    (c5 : ¬ asksX s (winX s (restL bs a)).lead (winX s (restL bs a)).len (winX s (restL bs a)).head (wordX (restL bs a) (winX s (restL bs a)).head (winX s (restL bs a)).lead (winX s (restL bs a)).len)) :
    Calls Tryz.prog 143 #[.pointer (some ⟨g, 0, none⟩), (.agg #[.int .u64 (s.prev : Int), .int .i64 (s.lead : Int), .int .i64 (s.len : Int)])] w (RetGX w g A m c bs a s) := by
  have HYN := Lib.hid c5
  clear c5
  have hg := h.lt
  obtain ⟨hV, x3, x4⟩ := two_boxes w s
  have hb0 := (Wt.of h).below hV
  have HI := Lib.hid ((getX_win hs c1 c2).2 c3)
  obtain ⟨r1, r2, r3, _⟩ := winX_lead (p := restL bs a) hs
  have HC := Lib.hid c3
  clear c3
  have hR := rbit g A m c bs a 0 _ 1 hb0.1 (by omega) (by rw [c2]; rfl)
  have hR2 := fun X hX => bwin_any g A m c bs a s X hX c1
  unfold RetWin at hR2
  clear h c1 c2
  go_enter Tryz.func143, Tryz.ntmps143
  go_wp2_with fail
  refine hR.mono ?_
  rintro e w1 ⟨rfl, hW⟩
  replace x3 := hW.box x3 hg
  replace x4 := hW.box x4 (by omega)
  replace hW := hb0.went hW
  clear hR hV hb0
  obtain ⟨q0, q1, q2⟩ := x3.get3
  go_wp2_with fail
  refine (hR2 _ hW.1).mono ?_
  clear q0 q1 q2 hR2
  rintro e w2 (⟨h0, _⟩ | ⟨_, rfl, hW2⟩)
  case inl => exact absurd HC.out h0
  generalize winX s (restL bs a) = r at *
  replace x3 := hW2.box x3 hg
  replace x4 := hW2.box x4 (by omega)
  replace hW := hW.trans hW2
  clear hW2
  clear w1
  go_upto_region 9 with fail
  have hal : Below w2.heap.size w2 (w2.alloc (.cells #[.int .u64 (s.prev : Int), .int .i64 (r.lead : Int), .int .i64 (r.len : Int)] 149)) := by repeat (first | with_reducible exact Below.refl _ _ | assumption | with_reducible refine Below.drew ?_ | with_reducible refine Below.alloc ?_ (by (first | assumption | omega | (simp; done) | (simp; omega))) _)
  have x8 := BoxL.new w2 [.int .u64 (s.prev : Int), .int .i64 (r.lead : Int), .int .i64 (r.len : Int)] 149
  have h48 := x4.lt
  replace x3 := x3.below hal
  replace x4 := x4.below hal
  replace hW := hW.below hal
  change BoxL (w2.alloc (.cells #[.int .u64 (s.prev : Int), .int .i64 (r.lead : Int), .int .i64 (r.len : Int)] 149)) w2.heap.size [.int .u64 (s.prev : Int), .int .i64 (r.lead : Int), .int .i64 (r.len : Int)] at x8
  generalize w2.alloc (.cells #[.int .u64 (s.prev : Int), .int .i64 (r.lead : Int), .int .i64 (r.len : Int)] 149) = w1 at *
  generalize w2.heap.size = g8 at *
  clear hal
  clear w2
  obtain ⟨q0, q1, q2⟩ := x8.get3
  have HB := Lib.hid (HI.out.no c4 HYN.out)
  have hR := rnum g A m c bs a r.head w1 r.len hW.1 r2 c4
  obtain ⟨x, HX⟩ : ∃ x, Hid (wordX (restL bs a) r.head r.lead r.len = x) := ⟨_, Lib.hid rfl⟩
  have hxl : x ≤ 18446744073709551615 := by rw [← HX.out]; exact wordX_le _ HI.out.in_
  have hin := HI.out.in_
  obtain ⟨k, hk⟩ : ∃ k, 64 - r.lead - r.len = k := ⟨_, rfl⟩
  have HY : Hid (num (cut (restL bs a) r.head r.len) * 2 ^ k = x) := Lib.hid (by rw [← HX.out, ← hk]; rfl)
  have HR := Lib.hid hR
  generalize num (cut (restL bs a) r.head r.len) = y at *
  have hsub : 64 - (r.lead : Int) - (r.len : Int) = (k : Int) := by omega
  have hshl := shl_word hxl HY.out
  have hxor := u64_xor_nat s.prev x (by have := hs.p; omega) (by omega)
  have hv := xor_lt hs.p hxl
  rw [HX.out] at HYN
  try rw [HX.out] at HB
  unfold asksX at HYN
  clear hR HY HX hk
  clear c4
  go_wp2_with fail
  refine HR.out.mono ?_
  rintro e w2 ⟨rfl, hW2⟩
  replace x3 := hW2.box x3 hg
  replace x4 := hW2.box x4 (by omega)
  replace x8 := hW2.box x8 (by omega)
  replace hW := hW.went hW2
  clear q0 q1 q2 HR hW2
  clear w1
  generalize s.prev ^^^ x = v at *
  go_upto_region 12 with fail
  obtain ⟨q0, q1, q2⟩ := x8.get3
  obtain ⟨d0, d1, d2⟩ := x8.free3
  obtain ⟨q3, q4, q5⟩ := x8.drew.get3
  obtain ⟨d3, d4, d5⟩ := x8.drew.free3
  have hC := fun X hX => xcode_any s.prev s.lead s.len v X hs hv hX
  unfold RetX at hC
  change ∀ X, TzW X → Calls Tryz.prog 115 #[(.agg #[.int .u64 (s.prev : Int), .int .i64 (s.lead : Int), .int .i64 (s.len : Int)]), .int .u64 (v : Int)] X (fun e w' => ∃ A c, e = .returned (.tuple #[.agg #[.slice A (pack (codeX s v)).length c, .int .i64 (((codeX s v).length : Nat) : Int)], .agg #[.int .u64 (v : Int), .int .i64 ((nextX s v).lead : Int), .int .i64 ((nextX s v).len : Int)]]) ∧ Own X w' (.slice A (pack (codeX s v)).length c) (pack (codeX s v))) at hC
  have hM := codeX_pos hs hv
  have hN := nextX_may hs hv
  have hna := hN.a
  have hnb := hN.b
  clear hN
  generalize codeX s v = cd at *
  generalize (nextX s v).lead = l at *
  generalize (nextX s v).len = n at *
  obtain ⟨M, HM⟩ : ∃ M, Hid (cd.length = M) := ⟨_, Lib.hid rfl⟩
  rw [HM.out] at HYN hM
  go_region
  have hsz : w2.heap.size ≤ (w2.setCell ⟨g8, 0, none⟩ (.int .u64 (v : Int))).drew.heap.size := by simp
  clear q0 q1 q2 q3 q4 q5 d0 d1 d2 d3 d4 d5 hsub hshl hxor
  have h38 : w.heap.size ≠ g8 := by omega
  have h48' : w.heap.size + 1 ≠ g8 := by omega
  replace x3 := (x3.oth h38 0 (.int .u64 (v : Int))).drew
  replace x4 := (x4.oth h48' 0 (.int .u64 (v : Int))).drew
  replace x8 : BoxL (w2.setCell ⟨g8, 0, none⟩ (.int .u64 (v : Int))).drew g8 [.int .u64 (v : Int), .int .i64 (r.lead : Int), .int .i64 (r.len : Int)] := (x8.put 0 (.int .u64 (v : Int))).drew
  replace hW := (hW.put hg (d := g8) (by omega) 0 (.int .u64 (v : Int))).below ((Below.refl _ _).drew)
  generalize (w2.setCell ⟨g8, 0, none⟩ (.int .u64 (v : Int))).drew = w1 at *
  clear hsz
  clear w2
  obtain ⟨q0, q1, q2⟩ := x8.get3
  obtain ⟨q3, q4, q5⟩ := x3.get3
  go_wp2_with fail
  refine (hC _ (hT.grown' hW.2 hTg)).mono ?_
  rintro e w2 ⟨A2, c2, rfl, hown⟩
  have hb2 := hown.bel
  rw [HM.out]
  clear hC hown q0 q1 q2 q3 q4 q5 x3
  replace x4 := x4.below hb2
  replace x8 := x8.below hb2
  replace hW := hW.below hb2
  clear hb2
  clear w1
  go_upto_region 14 with fail
  have x12 := (BoxL.new w2 [.slice A2 (pack cd).length c2, .int .i64 (M : Int)] 148).onA (.cells #[.int .u64 (v : Int), .int .i64 (l : Int), .int .i64 (n : Int)] 149)
  have x13 := BoxL.new (w2.alloc (.cells #[.slice A2 (pack cd).length c2, .int .i64 (M : Int)] 148)) [.int .u64 (v : Int), .int .i64 (l : Int), .int .i64 (n : Int)] 149
  simp only [World.size_alloc] at x13
  have hal : Below w2.heap.size w2 ((w2.alloc (.cells #[.slice A2 (pack cd).length c2, .int .i64 (M : Int)] 148)).alloc (.cells #[.int .u64 (v : Int), .int .i64 (l : Int), .int .i64 (n : Int)] 149)) := by repeat (first | with_reducible exact Below.refl _ _ | assumption | with_reducible refine Below.drew ?_ | with_reducible refine Below.alloc ?_ (by (first | assumption | omega | (simp; done) | (simp; omega))) _)
  replace x4 := x4.below hal
  replace x8 := x8.below hal
  replace hW := hW.below hal
  change BoxL ((w2.alloc (.cells #[.slice A2 (pack cd).length c2, .int .i64 (M : Int)] 148)).alloc (.cells #[.int .u64 (v : Int), .int .i64 (l : Int), .int .i64 (n : Int)] 149)) (w2.heap.size + 1) [.int .u64 (v : Int), .int .i64 (l : Int), .int .i64 (n : Int)] at x13
  change BoxL ((w2.alloc (.cells #[.slice A2 (pack cd).length c2, .int .i64 (M : Int)] 148)).alloc (.cells #[.int .u64 (v : Int), .int .i64 (l : Int), .int .i64 (n : Int)] 149)) w2.heap.size [.slice A2 (pack cd).length c2, .int .i64 (M : Int)] at x12
  generalize (w2.alloc (.cells #[.slice A2 (pack cd).length c2, .int .i64 (M : Int)] 148)).alloc (.cells #[.int .u64 (v : Int), .int .i64 (l : Int), .int .i64 (n : Int)] 149) = w1 at *
  generalize w2.heap.size = g12 at *
  clear hal
  clear w2
  have sg := state_guard
  obtain ⟨q0, q1, q2⟩ := x8.get3
  obtain ⟨q3, q4⟩ := x12.get2
  obtain ⟨q5, q6, q7⟩ := x13.get3
  have z4 := x4.all3 (.int .u64 0) (.int .i64 0) (.int .i64 0)
  have hZ := hW.put3 hg (Nat.le_succ _) (.int .u64 0) (.int .i64 0) (.int .i64 0)
  obtain ⟨f0, f1, f2⟩ := x4.free3
  obtain ⟨y0, y1, y2⟩ := x4.get3
  clear x4 hW x8 x12 x13 h38 h48'
  have hgz := h48
  clear h48
  by_cases hc : l = r.lead ∧ n = r.len
  · obtain ⟨rfl, rfl⟩ := hc
    have hqn := fun X => run_neq_state X (v : Int) (r.lead : Int) (r.len : Int)
    have hne0 : M ≠ r.head + r.len := fun e => HYN.out ⟨⟨rfl, rfl⟩, e⟩
    have hne : ((M : Int) != (r.head : Int) + (r.len : Int)) = true := by
      simp
      omega
    clear HYN hne0
    go_wp2_with fail
    clear f0 f1 f2 y0 y1 y2 q0 q1 q2 q3 q4 q5 q6 q7 hqn
    generalize (((w1.setCell ⟨w.heap.size + 1, 0, none⟩ (.int .u64 0)).setCell ⟨w.heap.size + 1, 1, none⟩ (.int .i64 0)).setCell ⟨w.heap.size + 1, 2, none⟩ (.int .i64 0)) = Z at *
    obtain ⟨u0, u1, u2⟩ := z4.get3
    refine bodyPost_ret (v := .tuple #[.agg #[.int .u64 0, .int .i64 0, .int .i64 0], .iface 59 (.int .i64 3)]) ?_ rfl (RetGX.bad (k := 3) HB.out (by omega) hZ)
    simp [results, Tryz.results143, go_sem, u0, u1, u2]
  · have hqn := fun X => run_neq_stateB X (v : Int) (l : Int) (n : Int) (v : Int) (r.lead : Int) (r.len : Int) (by omega)
    clear HYN hc
    go_wp2_with fail
    clear f0 f1 f2 y0 y1 y2 q0 q1 q2 q3 q4 q5 q6 q7 hqn
    generalize (((w1.setCell ⟨w.heap.size + 1, 0, none⟩ (.int .u64 0)).setCell ⟨w.heap.size + 1, 1, none⟩ (.int .i64 0)).setCell ⟨w.heap.size + 1, 2, none⟩ (.int .i64 0)) = Z at *
    obtain ⟨u0, u1, u2⟩ := z4.get3
    refine bodyPost_ret (v := .tuple #[.agg #[.int .u64 0, .int .i64 0, .int .i64 0], .iface 59 (.int .i64 3)]) ?_ rfl (RetGX.bad (k := 3) HB.out (by omega) hZ)
    simp [results, Tryz.results143, go_sem, u0, u1, u2]

set_option maxRecDepth 20000 in
set_option maxHeartbeats 1000000 in
theorem bxor_yes (g : Nat) (A : Option Addr) (m c : Nat) (bs : List Nat) (a : Nat) (s : XS) (w : World) (h : Rdr w g A m c bs a) (hs : s.May) (hT : TzW w) (hTg : 1 < g) (c1 : (restL bs a).length ≠ 0) (c2 : (restL bs a).getD 0 false = true) (c3 : (winX s (restL bs a)).e = 0)
    (c4 : (winX s (restL bs a)).head + (winX s (restL bs a)).len ≤ (restL bs a).length)
    (c5 : asksX s (winX s (restL bs a)).lead (winX s (restL bs a)).len (winX s (restL bs a)).head (wordX (restL bs a) (winX s (restL bs a)).head (winX s (restL bs a)).lead (winX s (restL bs a)).len)) :
    Calls Tryz.prog 143 #[.pointer (some ⟨g, 0, none⟩), (.agg #[.int .u64 (s.prev : Int), .int .i64 (s.lead : Int), .int .i64 (s.len : Int)])] w (RetGX w g A m c bs a s) := by
  have HYN := Lib.hid c5
  clear c5
  have hg := h.lt
  obtain ⟨hV, x3, x4⟩ := two_boxes w s
  have hb0 := (Wt.of h).below hV
  have HI := Lib.hid ((getX_win hs c1 c2).2 c3)
  obtain ⟨r1, r2, r3, _⟩ := winX_lead (p := restL bs a) hs
  have HC := Lib.hid c3
  clear c3
  have hR := rbit g A m c bs a 0 _ 1 hb0.1 (by omega) (by rw [c2]; rfl)
  have hR2 := fun X hX => bwin_any g A m c bs a s X hX c1
  unfold RetWin at hR2
  clear h c1 c2
  go_enter Tryz.func143, Tryz.ntmps143
  go_wp2_with fail
  refine hR.mono ?_
  rintro e w1 ⟨rfl, hW⟩
  replace x3 := hW.box x3 hg
  replace x4 := hW.box x4 (by omega)
  replace hW := hb0.went hW
  clear hR hV hb0
  obtain ⟨q0, q1, q2⟩ := x3.get3
  go_wp2_with fail
  refine (hR2 _ hW.1).mono ?_
  clear q0 q1 q2 hR2
  rintro e w2 (⟨h0, _⟩ | ⟨_, rfl, hW2⟩)
  case inl => exact absurd HC.out h0
  generalize winX s (restL bs a) = r at *
  replace x3 := hW2.box x3 hg
  replace x4 := hW2.box x4 (by omega)
  replace hW := hW.trans hW2
  clear hW2
  clear w1
  go_upto_region 9 with fail
  have hal : Below w2.heap.size w2 (w2.alloc (.cells #[.int .u64 (s.prev : Int), .int .i64 (r.lead : Int), .int .i64 (r.len : Int)] 149)) := by repeat (first | with_reducible exact Below.refl _ _ | assumption | with_reducible refine Below.drew ?_ | with_reducible refine Below.alloc ?_ (by (first | assumption | omega | (simp; done) | (simp; omega))) _)
  have x8 := BoxL.new w2 [.int .u64 (s.prev : Int), .int .i64 (r.lead : Int), .int .i64 (r.len : Int)] 149
  have h48 := x4.lt
  replace x3 := x3.below hal
  replace x4 := x4.below hal
  replace hW := hW.below hal
  change BoxL (w2.alloc (.cells #[.int .u64 (s.prev : Int), .int .i64 (r.lead : Int), .int .i64 (r.len : Int)] 149)) w2.heap.size [.int .u64 (s.prev : Int), .int .i64 (r.lead : Int), .int .i64 (r.len : Int)] at x8
  generalize w2.alloc (.cells #[.int .u64 (s.prev : Int), .int .i64 (r.lead : Int), .int .i64 (r.len : Int)] 149) = w1 at *
  generalize w2.heap.size = g8 at *
  clear hal
  clear w2
  obtain ⟨q0, q1, q2⟩ := x8.get3
  have HB := Lib.hid (HI.out.yes c4 HYN.out)
  have hR := rnum g A m c bs a r.head w1 r.len hW.1 r2 c4
  obtain ⟨x, HX⟩ : ∃ x, Hid (wordX (restL bs a) r.head r.lead r.len = x) := ⟨_, Lib.hid rfl⟩
  have hxl : x ≤ 18446744073709551615 := by rw [← HX.out]; exact wordX_le _ HI.out.in_
  have hin := HI.out.in_
  obtain ⟨k, hk⟩ : ∃ k, 64 - r.lead - r.len = k := ⟨_, rfl⟩
  have HY : Hid (num (cut (restL bs a) r.head r.len) * 2 ^ k = x) := Lib.hid (by rw [← HX.out, ← hk]; rfl)
  have HR := Lib.hid hR
  generalize num (cut (restL bs a) r.head r.len) = y at *
  have hsub : 64 - (r.lead : Int) - (r.len : Int) = (k : Int) := by omega
  have hshl := shl_word hxl HY.out
  have hxor := u64_xor_nat s.prev x (by have := hs.p; omega) (by omega)
  have hv := xor_lt hs.p hxl
  rw [HX.out] at HYN
  try rw [HX.out] at HB
  unfold asksX at HYN
  clear hR HY HX hk
  clear c4
  go_wp2_with fail
  refine HR.out.mono ?_
  rintro e w2 ⟨rfl, hW2⟩
  replace x3 := hW2.box x3 hg
  replace x4 := hW2.box x4 (by omega)
  replace x8 := hW2.box x8 (by omega)
  replace hW := hW.went hW2
  clear q0 q1 q2 HR hW2
  clear w1
  generalize s.prev ^^^ x = v at *
  go_upto_region 12 with fail
  obtain ⟨q0, q1, q2⟩ := x8.get3
  obtain ⟨d0, d1, d2⟩ := x8.free3
  obtain ⟨q3, q4, q5⟩ := x8.drew.get3
  obtain ⟨d3, d4, d5⟩ := x8.drew.free3
  have hC := fun X hX => xcode_any s.prev s.lead s.len v X hs hv hX
  unfold RetX at hC
  change ∀ X, TzW X → Calls Tryz.prog 115 #[(.agg #[.int .u64 (s.prev : Int), .int .i64 (s.lead : Int), .int .i64 (s.len : Int)]), .int .u64 (v : Int)] X (fun e w' => ∃ A c, e = .returned (.tuple #[.agg #[.slice A (pack (codeX s v)).length c, .int .i64 (((codeX s v).length : Nat) : Int)], .agg #[.int .u64 (v : Int), .int .i64 ((nextX s v).lead : Int), .int .i64 ((nextX s v).len : Int)]]) ∧ Own X w' (.slice A (pack (codeX s v)).length c) (pack (codeX s v))) at hC
  have hM := codeX_pos hs hv
  have hN := nextX_may hs hv
  have hna := hN.a
  have hnb := hN.b
  clear hN
  generalize codeX s v = cd at *
  generalize (nextX s v).lead = l at *
  generalize (nextX s v).len = n at *
  obtain ⟨M, HM⟩ : ∃ M, Hid (cd.length = M) := ⟨_, Lib.hid rfl⟩
  rw [HM.out] at HYN hM
  go_region
  have hsz : w2.heap.size ≤ (w2.setCell ⟨g8, 0, none⟩ (.int .u64 (v : Int))).drew.heap.size := by simp
  clear q0 q1 q2 q3 q4 q5 d0 d1 d2 d3 d4 d5 hsub hshl hxor
  have h38 : w.heap.size ≠ g8 := by omega
  have h48' : w.heap.size + 1 ≠ g8 := by omega
  replace x3 := (x3.oth h38 0 (.int .u64 (v : Int))).drew
  replace x4 := (x4.oth h48' 0 (.int .u64 (v : Int))).drew
  replace x8 : BoxL (w2.setCell ⟨g8, 0, none⟩ (.int .u64 (v : Int))).drew g8 [.int .u64 (v : Int), .int .i64 (r.lead : Int), .int .i64 (r.len : Int)] := (x8.put 0 (.int .u64 (v : Int))).drew
  replace hW := (hW.put hg (d := g8) (by omega) 0 (.int .u64 (v : Int))).below ((Below.refl _ _).drew)
  generalize (w2.setCell ⟨g8, 0, none⟩ (.int .u64 (v : Int))).drew = w1 at *
  clear hsz
  clear w2
  obtain ⟨q0, q1, q2⟩ := x8.get3
  obtain ⟨q3, q4, q5⟩ := x3.get3
  go_wp2_with fail
  refine (hC _ (hT.grown' hW.2 hTg)).mono ?_
  rintro e w2 ⟨A2, c2, rfl, hown⟩
  have hb2 := hown.bel
  rw [HM.out]
  clear hC hown q0 q1 q2 q3 q4 q5 x3
  replace x4 := x4.below hb2
  replace x8 := x8.below hb2
  replace hW := hW.below hb2
  clear hb2
  clear w1
  go_upto_region 14 with fail
  have x12 := (BoxL.new w2 [.slice A2 (pack cd).length c2, .int .i64 (M : Int)] 148).onA (.cells #[.int .u64 (v : Int), .int .i64 (l : Int), .int .i64 (n : Int)] 149)
  have x13 := BoxL.new (w2.alloc (.cells #[.slice A2 (pack cd).length c2, .int .i64 (M : Int)] 148)) [.int .u64 (v : Int), .int .i64 (l : Int), .int .i64 (n : Int)] 149
  simp only [World.size_alloc] at x13
  have hal : Below w2.heap.size w2 ((w2.alloc (.cells #[.slice A2 (pack cd).length c2, .int .i64 (M : Int)] 148)).alloc (.cells #[.int .u64 (v : Int), .int .i64 (l : Int), .int .i64 (n : Int)] 149)) := by repeat (first | with_reducible exact Below.refl _ _ | assumption | with_reducible refine Below.drew ?_ | with_reducible refine Below.alloc ?_ (by (first | assumption | omega | (simp; done) | (simp; omega))) _)
  replace x4 := x4.below hal
  replace x8 := x8.below hal
  replace hW := hW.below hal
  change BoxL ((w2.alloc (.cells #[.slice A2 (pack cd).length c2, .int .i64 (M : Int)] 148)).alloc (.cells #[.int .u64 (v : Int), .int .i64 (l : Int), .int .i64 (n : Int)] 149)) (w2.heap.size + 1) [.int .u64 (v : Int), .int .i64 (l : Int), .int .i64 (n : Int)] at x13
  change BoxL ((w2.alloc (.cells #[.slice A2 (pack cd).length c2, .int .i64 (M : Int)] 148)).alloc (.cells #[.int .u64 (v : Int), .int .i64 (l : Int), .int .i64 (n : Int)] 149)) w2.heap.size [.slice A2 (pack cd).length c2, .int .i64 (M : Int)] at x12
  generalize (w2.alloc (.cells #[.slice A2 (pack cd).length c2, .int .i64 (M : Int)] 148)).alloc (.cells #[.int .u64 (v : Int), .int .i64 (l : Int), .int .i64 (n : Int)] 149) = w1 at *
  generalize w2.heap.size = g12 at *
  clear hal
  clear w2
  have sg := state_guard
  obtain ⟨q0, q1, q2⟩ := x8.get3
  obtain ⟨q3, q4⟩ := x12.get2
  obtain ⟨q5, q6, q7⟩ := x13.get3
  obtain ⟨⟨rfl, rfl⟩, hMe⟩ := HYN.out
  have hqn := fun X => run_neq_state X (v : Int) (r.lead : Int) (r.len : Int)
  have hne : ((M : Int) != (r.head : Int) + (r.len : Int)) = false := by
    simp
    omega
  have z4 := x4.all3 (.int .u64 (v : Int)) (.int .i64 (r.lead : Int)) (.int .i64 (r.len : Int))
  have hZ := hW.put3 hg (Nat.le_succ _) (.int .u64 (v : Int)) (.int .i64 (r.lead : Int)) (.int .i64 (r.len : Int))
  obtain ⟨f0, f1, f2⟩ := x4.free3
  obtain ⟨y0, y1, y2⟩ := x4.get3
  clear x4 hW x8 x12 x13 h38 h48' HYN
  have hgz := h48
  clear h48 hMe
  go_wp2_with fail
  clear f0 f1 f2 y0 y1 y2 q0 q1 q2 q3 q4 q5 q6 q7 hqn
  generalize (((w1.setCell ⟨w.heap.size + 1, 0, none⟩ (.int .u64 (v : Int))).setCell ⟨w.heap.size + 1, 1, none⟩ (.int .i64 (r.lead : Int))).setCell ⟨w.heap.size + 1, 2, none⟩ (.int .i64 (r.len : Int))) = Z at *
  obtain ⟨u0, u1, u2⟩ := z4.get3
  refine bodyPost_ret (v := .tuple #[.agg #[.int .u64 (v : Int), .int .i64 (r.lead : Int), .int .i64 (r.len : Int)], .nilIface]) ?_ rfl ⟨_, by rw [HB.out]; rfl, fun _ => by rw [HB.out]; simp only; omega, hZ⟩
  simp [results, Tryz.results143, go_sem, u0, u1, u2]

theorem bxor_any (g : Nat) (A : Option Addr) (m c : Nat) (bs : List Nat) (a : Nat) (s : XS) (w : World) (h : Rdr w g A m c bs a) (hs : s.May) (hT : TzW w) (hTg : 1 < g) :
    Calls Tryz.prog 143 #[.pointer (some ⟨g, 0, none⟩), (.agg #[.int .u64 (s.prev : Int), .int .i64 (s.lead : Int), .int .i64 (s.len : Int)])] w (RetGX w g A m c bs a s) := by
  by_cases c1 : (restL bs a).length = 0
  · exact bxor_short g A m c bs a s w h c1
  by_cases c2 : (restL bs a).getD 0 false = false
  · exact bxor_same g A m c bs a s w h c1 c2
  have c2' : (restL bs a).getD 0 false = true := by simpa using c2
  by_cases c3 : (winX s (restL bs a)).e = 0
  · by_cases c4 : (winX s (restL bs a)).head + (winX s (restL bs a)).len ≤ (restL bs a).length
    · by_cases c5 : asksX s (winX s (restL bs a)).lead (winX s (restL bs a)).len (winX s (restL bs a)).head (wordX (restL bs a) (winX s (restL bs a)).head (winX s (restL bs a)).lead (winX s (restL bs a)).len)
      · exact bxor_yes g A m c bs a s w h hs hT hTg c1 c2' c3 c4 c5
      · exact bxor_form g A m c bs a s w h hs hT hTg c1 c2' c3 c4 c5
    · exact bxor_cut g A m c bs a s w h hs c1 c2' c3 (by omega)
  · exact bxor_nowin g A m c bs a s w h hs c1 c2' c3

end Go.Proofs.YtaebljoacffghaaGreatDoor

/-
  The contracts of layer 11's getTime, getValue.
-/
namespace Go.Proofs.YtaebljoacffghaaGreatDoor
open Go.RowKit

theorem Wt.tabs {w w1 : World} {g m c a : Nat} {A : Option Addr} {bs : List Nat} (h : Wt w g A m c bs a w1) (hT : TabsW w) (hl : TabsLt g) : TabsW w1 := hT.grown h.2 hl

set_option maxRecDepth 20000 in
set_option maxHeartbeats 1000000 in
theorem btime_yes (g : Nat) (A : Option Addr) (m c : Nat) (bs : List Nat) (a : Nat) (s : KS) (w : World) (h : Rdr w g A m c bs a) (h0 : s.n = 0) (hy : 64 ≤ (restL bs a).length) :
    Calls Tryz.prog 131 #[.pointer (some ⟨g, 0, none⟩), (.agg #[.int .i64 (s.n : Int), .int .i64 s.t, .int .i64 s.d, .int .u64 (s.v : Int), .int .u64 (s.e : Int), .int .u64 (s.x.prev : Int), .int .i64 (s.x.lead : Int), .int .i64 (s.x.len : Int)])] w fun e w' => e = .returned (.tuple #[.int .i64 (sgnN (num (cut (restL bs a) 0 64)) 64), .nilIface]) ∧ Wt w g A m c bs (a + 64) w' := by
  have hg := h.lt
  have x3 := BoxL.new w [.int .i64 (s.n : Int), .int .i64 s.t, .int .i64 s.d, .int .u64 (s.v : Int), .int .u64 (s.e : Int), .int .u64 (s.x.prev : Int), .int .i64 (s.x.lead : Int), .int .i64 (s.x.len : Int)] 151
  have hV : Below w.heap.size w (w.alloc (.cells #[.int .i64 (s.n : Int), .int .i64 s.t, .int .i64 s.d, .int .u64 (s.v : Int), .int .u64 (s.e : Int), .int .u64 (s.x.prev : Int), .int .i64 (s.x.lead : Int), .int .i64 (s.x.len : Int)] 151)) := by repeat (first | with_reducible exact Below.refl _ _ | assumption | with_reducible refine Below.drew ?_ | with_reducible refine Below.alloc ?_ (by (first | assumption | omega | (simp; done) | (simp; omega))) _)
  have hb0 := (Wt.of h).below hV
  have h1 : ((s.n : Int) == 0) = true := by simp [h0]
  have hR := bword_yes g A m c bs a _ hb0.1 hy
  have hsg := sg_64 (num (cut (restL bs a) 0 64))
  generalize num (cut (restL bs a) 0 64) = x at *
  generalize sgnN x 64 = z at *
  clear h0 h hy
  go_enter Tryz.func131, Tryz.ntmps131
  go_wp2_with fail
  refine hR.mono ?_
  rintro e w1 ⟨rfl, hW⟩
  replace hW := hb0.trans hW
  go_wp2
  go_ret2
  exact ⟨by rw [← hsg]; rfl, hW⟩
set_option maxRecDepth 20000 in
set_option maxHeartbeats 1000000 in
theorem btime_no (g : Nat) (A : Option Addr) (m c : Nat) (bs : List Nat) (a : Nat) (s : KS) (w : World) (h : Rdr w g A m c bs a) (h0 : s.n = 0) (hy : (restL bs a).length < 64) :
    Calls Tryz.prog 131 #[.pointer (some ⟨g, 0, none⟩), (.agg #[.int .i64 (s.n : Int), .int .i64 s.t, .int .i64 s.d, .int .u64 (s.v : Int), .int .u64 (s.e : Int), .int .u64 (s.x.prev : Int), .int .i64 (s.x.lead : Int), .int .i64 (s.x.len : Int)])] w fun e w' => e = .returned (.tuple #[.int .i64 0, .iface 59 (.int .i64 2)]) ∧ Wt w g A m c bs a w' := by
  have hg := h.lt
  have x3 := BoxL.new w [.int .i64 (s.n : Int), .int .i64 s.t, .int .i64 s.d, .int .u64 (s.v : Int), .int .u64 (s.e : Int), .int .u64 (s.x.prev : Int), .int .i64 (s.x.lead : Int), .int .i64 (s.x.len : Int)] 151
  have hV : Below w.heap.size w (w.alloc (.cells #[.int .i64 (s.n : Int), .int .i64 s.t, .int .i64 s.d, .int .u64 (s.v : Int), .int .u64 (s.e : Int), .int .u64 (s.x.prev : Int), .int .i64 (s.x.lead : Int), .int .i64 (s.x.len : Int)] 151)) := by repeat (first | with_reducible exact Below.refl _ _ | assumption | with_reducible refine Below.drew ?_ | with_reducible refine Below.alloc ?_ (by (first | assumption | omega | (simp; done) | (simp; omega))) _)
  have hb0 := (Wt.of h).below hV
  have h1 : ((s.n : Int) == 0) = true := by simp [h0]
  have hR := bword_no g A m c bs a _ hb0.1 hy
  have hz : wrap64 (0 : Int) = 0 := by rw [w64_wrap]; decide
  clear h0 h hy
  go_enter Tryz.func131, Tryz.ntmps131
  go_wp2_with fail
  refine hR.mono ?_
  rintro e w1 ⟨rfl, hW⟩
  replace hW := hb0.trans hW
  go_wp2
  go_ret2
  exact ⟨rfl, hW⟩
set_option maxRecDepth 20000 in
set_option maxHeartbeats 1000000 in
theorem btime_later (g : Nat) (A : Option Addr) (m c : Nat) (bs : List Nat) (a : Nat) (s : KS) (w : World) (h : Rdr w g A m c bs a) (h0 : s.n ≠ 0) (hT : TabsW w) (hl : TabsLt g) :
    Calls Tryz.prog 131 #[.pointer (some ⟨g, 0, none⟩), (.agg #[.int .i64 (s.n : Int), .int .i64 s.t, .int .i64 s.d, .int .u64 (s.v : Int), .int .u64 (s.e : Int), .int .u64 (s.x.prev : Int), .int .i64 (s.x.lead : Int), .int .i64 (s.x.len : Int)])] w fun e w' => ∃ st n k a', DGets (restL bs a) st n k ∧ e = .returned (.tuple #[.int .i64 (w64 (s.t + s.d + st)), errV k]) ∧ (k = 0 → a' = a + n) ∧ Wt w g A m c bs a' w' := by
  have hg := h.lt
  have x3 := BoxL.new w [.int .i64 (s.n : Int), .int .i64 s.t, .int .i64 s.d, .int .u64 (s.v : Int), .int .u64 (s.e : Int), .int .u64 (s.x.prev : Int), .int .i64 (s.x.lead : Int), .int .i64 (s.x.len : Int)] 151
  have hV : Below w.heap.size w (w.alloc (.cells #[.int .i64 (s.n : Int), .int .i64 s.t, .int .i64 s.d, .int .u64 (s.v : Int), .int .u64 (s.e : Int), .int .u64 (s.x.prev : Int), .int .i64 (s.x.lead : Int), .int .i64 (s.x.len : Int)] 151)) := by repeat (first | with_reducible exact Below.refl _ _ | assumption | with_reducible refine Below.drew ?_ | with_reducible refine Below.alloc ?_ (by (first | assumption | omega | (simp; done) | (simp; omega))) _)
  have hb0 := (Wt.of h).below hV
  have h1 : ((s.n : Int) == 0) = false := by simp [h0]
  have hTV := hT.bel hV
  have hR := tget_any g A m c bs a _ hb0.1 hTV.room hTV.rows ⟨hl.1, hl.2.1⟩
  clear h0 h
  go_enter Tryz.func131, Tryz.ntmps131
  go_wp2_with fail
  refine hR.mono ?_
  rintro e w1 ⟨st, n, k, a', hd, rfl, hr1, hk, hg1⟩
  have hW1 : Wt _ g A m c bs a' w1 := ⟨hr1, hg1⟩
  replace x3 := hW1.box x3 hg
  replace hW1 := hb0.trans hW1
  have HD := Lib.hid hd
  have HK := Lib.hid hk
  obtain ⟨ev, HE⟩ : ∃ ev, Hid (errV k = ev) := ⟨_, Lib.hid rfl⟩
  rw [HE.out]
  have hw := sumT_wrap s.t s.d st
  obtain ⟨q0, q1, q2, q3, q4, q5, q6, q7⟩ := x3.get8
  clear hR hd hk hr1 hg1 x3 hb0 hV hTV
  go_wp2
  go_ret2
  exact ⟨st, n, k, a', HD.out, by rw [HE.out, ← hw]; rfl, HK.out, hW1⟩

/-- what getValue comes to, behind the first sample -/
def RetBV (w : World) (g : Nat) (A : Option Addr) (m c : Nat) (bs : List Nat) (a k : Nat) (s : KS) (e : Ending) (w' : World) : Prop :=
  ∃ v y n e2 a', VGets k s (restL bs a) v y n e2 ∧ e = .returned (.tuple #[.int .u64 ((v : Nat) : Int), (.agg #[.int .u64 (y.prev : Int), .int .i64 (y.lead : Int), .int .i64 (y.len : Int)]), errV e2]) ∧ (e2 = 0 → a' = a + n) ∧ Wt w g A m c bs a' w'
set_option maxRecDepth 20000 in
set_option maxHeartbeats 1000000 in
theorem bval_yes (g : Nat) (A : Option Addr) (m c : Nat) (bs : List Nat) (a k : Nat) (s : KS) (w : World) (h : Rdr w g A m c bs a) (h0 : s.n = 0) (hy : 64 ≤ (restL bs a).length) :
    Calls Tryz.prog 132 #[.int .i64 (k : Int), .pointer (some ⟨g, 0, none⟩), (.agg #[.int .i64 (s.n : Int), .int .i64 s.t, .int .i64 s.d, .int .u64 (s.v : Int), .int .u64 (s.e : Int), .int .u64 (s.x.prev : Int), .int .i64 (s.x.lead : Int), .int .i64 (s.x.len : Int)])] w fun e w' => e = .returned (.tuple #[.int .u64 ((num (cut (restL bs a) 0 64) : Nat) : Int), .agg #[.int .u64 0, .int .i64 0, .int .i64 0], .nilIface]) ∧ Wt w g A m c bs (a + 64) w' := by
  have hg := h.lt
  obtain ⟨hV, x5, x7⟩ := gv_boxes w s
  have hb0 := (Wt.of h).below hV
  have h1 : ((s.n : Int) == 0) = true := by simp [h0]
  have hR := bword_yes g A m c bs a _ hb0.1 hy
  generalize num (cut (restL bs a) 0 64) = x at *
  clear h0 h hy
  go_enter Tryz.func132, Tryz.ntmps132
  go_wp2_with fail
  refine hR.mono ?_
  rintro e w1 ⟨rfl, hW⟩
  replace x7 := hW.box x7 (by omega)
  replace hW := hb0.trans hW
  clear hR hb0 hV x5
  have z7 := x7.all3 (.int .u64 0) (.int .i64 0) (.int .i64 0)
  have hZ := hW.put3 hg (Nat.le_succ _) (.int .u64 0) (.int .i64 0) (.int .i64 0)
  obtain ⟨f0, f1, f2⟩ := x7.free3
  obtain ⟨y0, y1, y2⟩ := x7.get3
  clear x7 hW
  go_wp2
  clear f0 f1 f2 y0 y1 y2
  generalize (((w1.setCell ⟨w.heap.size + 1, 0, none⟩ (.int .u64 0)).setCell ⟨w.heap.size + 1, 1, none⟩ (.int .i64 0)).setCell ⟨w.heap.size + 1, 2, none⟩ (.int .i64 0)) = Z at *
  obtain ⟨u0, u1, u2⟩ := z7.get3
  refine bodyPost_ret (v := .tuple #[.int .u64 (x : Int), .agg #[.int .u64 0, .int .i64 0, .int .i64 0], .nilIface]) ?_ rfl ⟨rfl, hZ⟩
  simp [results, Tryz.results132, go_sem, u0, u1, u2]
set_option maxRecDepth 20000 in
set_option maxHeartbeats 1000000 in
theorem bval_no (g : Nat) (A : Option Addr) (m c : Nat) (bs : List Nat) (a k : Nat) (s : KS) (w : World) (h : Rdr w g A m c bs a) (h0 : s.n = 0) (hy : (restL bs a).length < 64) :
    Calls Tryz.prog 132 #[.int .i64 (k : Int), .pointer (some ⟨g, 0, none⟩), (.agg #[.int .i64 (s.n : Int), .int .i64 s.t, .int .i64 s.d, .int .u64 (s.v : Int), .int .u64 (s.e : Int), .int .u64 (s.x.prev : Int), .int .i64 (s.x.lead : Int), .int .i64 (s.x.len : Int)])] w fun e w' => e = .returned (.tuple #[.int .u64 0, .agg #[.int .u64 0, .int .i64 0, .int .i64 0], .iface 59 (.int .i64 2)]) ∧ Wt w g A m c bs a w' := by
  have hg := h.lt
  obtain ⟨hV, x5, x7⟩ := gv_boxes w s
  have hb0 := (Wt.of h).below hV
  have h1 : ((s.n : Int) == 0) = true := by simp [h0]
  have hR := bword_no g A m c bs a _ hb0.1 hy
  clear h0 h hy
  go_enter Tryz.func132, Tryz.ntmps132
  go_wp2_with fail
  refine hR.mono ?_
  rintro e w1 ⟨rfl, hW⟩
  replace x7 := hW.box x7 (by omega)
  replace hW := hb0.trans hW
  clear hR hb0 hV x5
  have z7 := x7.all3 (.int .u64 0) (.int .i64 0) (.int .i64 0)
  have hZ := hW.put3 hg (Nat.le_succ _) (.int .u64 0) (.int .i64 0) (.int .i64 0)
  obtain ⟨f0, f1, f2⟩ := x7.free3
  obtain ⟨y0, y1, y2⟩ := x7.get3
  clear x7 hW
  go_wp2
  clear f0 f1 f2 y0 y1 y2
  generalize (((w1.setCell ⟨w.heap.size + 1, 0, none⟩ (.int .u64 0)).setCell ⟨w.heap.size + 1, 1, none⟩ (.int .i64 0)).setCell ⟨w.heap.size + 1, 2, none⟩ (.int .i64 0)) = Z at *
  obtain ⟨u0, u1, u2⟩ := z7.get3
  refine bodyPost_ret (v := .tuple #[.int .u64 0, .agg #[.int .u64 0, .int .i64 0, .int .i64 0], .iface 59 (.int .i64 2)]) ?_ rfl ⟨rfl, hZ⟩
  simp [results, Tryz.results132, go_sem, u0, u1, u2]
set_option maxRecDepth 20000 in
set_option maxHeartbeats 1000000 in
theorem bval_ints (g : Nat) (A : Option Addr) (m c : Nat) (bs : List Nat) (a : Nat) (s : KS) (w : World) (h : Rdr w g A m c bs a) (h0 : s.n ≠ 0) (hT : TabsW w) (hl : TabsLt g) :
    Calls Tryz.prog 132 #[.int .i64 2, .pointer (some ⟨g, 0, none⟩), (.agg #[.int .i64 (s.n : Int), .int .i64 s.t, .int .i64 s.d, .int .u64 (s.v : Int), .int .u64 (s.e : Int), .int .u64 (s.x.prev : Int), .int .i64 (s.x.lead : Int), .int .i64 (s.x.len : Int)])] w (RetBV w g A m c bs a 2 s) := by
  have hg := h.lt
  obtain ⟨hV, x5, x7⟩ := gv_boxes w s
  have hb0 := (Wt.of h).below hV
  have h1 : ((s.n : Int) == 0) = false := by simp [h0]
  have hTV := hT.bel hV
  have hR := tget_any g A m c bs a _ hb0.1 hTV.room hTV.rows ⟨hl.1, hl.2.1⟩
  clear h0 h
  go_enter Tryz.func132, Tryz.ntmps132
  go_wp2_with fail
  refine hR.mono ?_
  rintro e w1 ⟨st, n, e2, a', hd, rfl, hr1, hk, hg1⟩
  have HV : Hid (VGets 2 s (restL bs a) (un64 ((s.v : Int) + (s.e : Int) + st)) zeroX n e2) := Lib.hid (by unfold VGets; rw [if_neg (by omega)]; exact ⟨st, hd, rfl, rfl⟩)
  have hw := sumE_wrap s.v s.e st
  have hW : Wt _ g A m c bs a' w1 := ⟨hr1, hg1⟩
  replace x7 := hW.box x7 (by omega)
  replace x5 := hW.box x5 (by omega)
  replace hW := hb0.trans hW
  have HK := Lib.hid hk
  obtain ⟨ev, HE⟩ : ∃ ev, Hid (errV e2 = ev) := ⟨_, Lib.hid rfl⟩
  rw [HE.out]
  obtain ⟨q0, q1, q2, q3, q4, q5, q6, q7⟩ := x5.get8
  generalize un64 ((s.v : Int) + (s.e : Int) + st) = v at *
  clear hR hd hk hr1 hg1 x5 hb0 hV hTV
  have z7 := x7.all3 (.int .u64 0) (.int .i64 0) (.int .i64 0)
  have hZ := hW.put3 hg (Nat.le_succ _) (.int .u64 0) (.int .i64 0) (.int .i64 0)
  obtain ⟨f0, f1, f2⟩ := x7.free3
  obtain ⟨y0, y1, y2⟩ := x7.get3
  clear x7 hW
  go_wp2
  clear f0 f1 f2 y0 y1 y2
  generalize (((w1.setCell ⟨w.heap.size + 1, 0, none⟩ (.int .u64 0)).setCell ⟨w.heap.size + 1, 1, none⟩ (.int .i64 0)).setCell ⟨w.heap.size + 1, 2, none⟩ (.int .i64 0)) = Z at *
  obtain ⟨u0, u1, u2⟩ := z7.get3
  refine bodyPost_ret (v := .tuple #[.int .u64 (v : Int), (.agg #[.int .u64 (zeroX.prev : Int), .int .i64 (zeroX.lead : Int), .int .i64 (zeroX.len : Int)]), ev]) ?_ rfl ⟨v, zeroX, n, e2, a', HV.out, by rw [HE.out], HK.out, hZ⟩
  simp [results, Tryz.results132, go_sem, u0, u1, u2, zeroX]
set_option maxRecDepth 20000 in
set_option maxHeartbeats 1000000 in
theorem bval_xor (g : Nat) (A : Option Addr) (m c : Nat) (bs : List Nat) (a : Nat) (s : KS) (w : World) (h : Rdr w g A m c bs a) (h0 : s.n ≠ 0) (hs : s.May) (hT : TabsW w) (hl : TabsLt g) :
    Calls Tryz.prog 132 #[.int .i64 1, .pointer (some ⟨g, 0, none⟩), (.agg #[.int .i64 (s.n : Int), .int .i64 s.t, .int .i64 s.d, .int .u64 (s.v : Int), .int .u64 (s.e : Int), .int .u64 (s.x.prev : Int), .int .i64 (s.x.lead : Int), .int .i64 (s.x.len : Int)])] w (RetBV w g A m c bs a 1 s) := by
  have hg := h.lt
  obtain ⟨hV, x5, x7⟩ := gv_boxes w s
  have hb0 := (Wt.of h).below hV
  have h1 : ((s.n : Int) == 0) = false := by simp [h0]
  have hTV := hT.bel hV
  have hR := bxor_any g A m c bs a s.x _ hb0.1 hs.x hTV.tz hl.2.2
  unfold RetGX at hR
  have HV : Hid (VGets 1 s (restL bs a) (getX s.x (restL bs a)).v (getX s.x (restL bs a)).s (getX s.x (restL bs a)).n (getX s.x (restL bs a)).e) := Lib.hid ⟨rfl, rfl, rfl, rfl⟩
  rw [getX_v] at HV
  generalize getX s.x (restL bs a) = R at *
  obtain ⟨ev, HE⟩ : ∃ ev, Hid (errV R.e = ev) := ⟨_, Lib.hid rfl⟩
  rw [HE.out] at hR
  obtain ⟨q0, q1, q2, q3, q4, q5, q6, q7⟩ := x5.get8
  clear h0 h
  go_enter Tryz.func132, Tryz.ntmps132
  go_wp2_with fail
  refine hR.mono ?_
  rintro e w2 ⟨a', rfl, hk, hW⟩
  have HK := Lib.hid hk
  replace x7 := hW.box x7 (by omega)
  replace hW := hb0.trans hW
  clear hR hk hb0 hV hTV x5 q0 q1 q2 q3 q4 q5 q6 q7
  go_upto_region 6 with fail
  have hal : Below w2.heap.size w2 (w2.alloc (.cells #[.int .u64 (R.s.prev : Int), .int .i64 (R.s.lead : Int), .int .i64 (R.s.len : Int)] 149)) := by repeat (first | with_reducible exact Below.refl _ _ | assumption | with_reducible refine Below.drew ?_ | with_reducible refine Below.alloc ?_ (by (first | assumption | omega | (simp; done) | (simp; omega))) _)
  have x11 := BoxL.new w2 [.int .u64 (R.s.prev : Int), .int .i64 (R.s.lead : Int), .int .i64 (R.s.len : Int)] 149
  have h711 := x7.lt
  replace x7 := x7.below hal
  replace hW := hW.below hal
  change BoxL (w2.alloc (.cells #[.int .u64 (R.s.prev : Int), .int .i64 (R.s.lead : Int), .int .i64 (R.s.len : Int)] 149)) w2.heap.size [.int .u64 (R.s.prev : Int), .int .i64 (R.s.lead : Int), .int .i64 (R.s.len : Int)] at x11
  generalize w2.alloc (.cells #[.int .u64 (R.s.prev : Int), .int .i64 (R.s.lead : Int), .int .i64 (R.s.len : Int)] 149) = w1 at *
  generalize w2.heap.size = g11 at *
  clear hal
  clear w2
  have z7 := x7.all3 (.int .u64 (R.s.prev : Int)) (.int .i64 (R.s.lead : Int)) (.int .i64 (R.s.len : Int))
  have hZ := hW.put3 hg (Nat.le_succ _) (.int .u64 (R.s.prev : Int)) (.int .i64 (R.s.lead : Int)) (.int .i64 (R.s.len : Int))
  obtain ⟨q0, q1, q2⟩ := x11.get3
  obtain ⟨q3, q4, q5⟩ := x11.drew.get3
  obtain ⟨f0, f1, f2⟩ := x7.free3
  obtain ⟨y0, y1, y2⟩ := x7.get3
  obtain ⟨f3, f4, f5⟩ := x7.drew.free3
  obtain ⟨y3, y4, y5⟩ := x7.drew.get3
  clear x7 hW x11
  go_region
  clear q0 q1 q2 q3 q4 q5 f0 f1 f2 f3 f4 f5 y0 y1 y2 y3 y4 y5
  replace z7 := z7.drew
  replace hZ := hZ.below ((Below.refl _ _).drew)
  generalize (((w1.setCell ⟨w.heap.size + 1, 0, none⟩ (.int .u64 (R.s.prev : Int))).setCell ⟨w.heap.size + 1, 1, none⟩ (.int .i64 (R.s.lead : Int))).setCell ⟨w.heap.size + 1, 2, none⟩ (.int .i64 (R.s.len : Int))).drew = Z at *
  obtain ⟨u0, u1, u2⟩ := z7.get3
  go_wp2
  refine bodyPost_ret (v := .tuple #[.int .u64 (R.s.prev : Int), (.agg #[.int .u64 (R.s.prev : Int), .int .i64 (R.s.lead : Int), .int .i64 (R.s.len : Int)]), ev]) ?_ rfl ⟨_, _, _, _, a', HV.out, by rw [HE.out], HK.out, hZ⟩
  simp [results, Tryz.results132, go_sem, u0, u1, u2]

theorem bval_later (k : Nat) (hk : k = 1 ∨ k = 2) (g : Nat) (A : Option Addr) (m c : Nat) (bs : List Nat) (a : Nat) (s : KS) (w : World) (h : Rdr w g A m c bs a) (h0 : s.n ≠ 0) (hs : s.May) (hT : TabsW w) (hl : TabsLt g) :
    Calls Tryz.prog 132 #[.int .i64 (k : Int), .pointer (some ⟨g, 0, none⟩), (.agg #[.int .i64 (s.n : Int), .int .i64 s.t, .int .i64 s.d, .int .u64 (s.v : Int), .int .u64 (s.e : Int), .int .u64 (s.x.prev : Int), .int .i64 (s.x.lead : Int), .int .i64 (s.x.len : Int)])] w (RetBV w g A m c bs a k s) := by
  rcases hk with rfl | rfl
  · exact bval_xor g A m c bs a s w h h0 hs hT hl
  · exact bval_ints g A m c bs a s w h h0 hT hl

end Go.Proofs.YtaebljoacffghaaGreatDoor

/-
  The contract of layer 11's get: the sample that is next.
-/
namespace Go.Proofs.YtaebljoacffghaaGreatDoor
open Go.RowKit

/-- the three boxes at the head of get -/
theorem get_boxes (w : World) (s : KS) : Below w.heap.size w (((w.alloc (.cells #[.int .i64 (s.n : Int), .int .i64 s.t, .int .i64 s.d, .int .u64 (s.v : Int), .int .u64 (s.e : Int), .int .u64 (s.x.prev : Int), .int .i64 (s.x.lead : Int), .int .i64 (s.x.len : Int)] 151)).alloc (.cells #[.int .i64 0, .int .u64 0] 74)).alloc (.cells #[.int .u64 0, .int .i64 0, .int .i64 0] 149)) ∧
    BoxL (((w.alloc (.cells #[.int .i64 (s.n : Int), .int .i64 s.t, .int .i64 s.d, .int .u64 (s.v : Int), .int .u64 (s.e : Int), .int .u64 (s.x.prev : Int), .int .i64 (s.x.lead : Int), .int .i64 (s.x.len : Int)] 151)).alloc (.cells #[.int .i64 0, .int .u64 0] 74)).alloc (.cells #[.int .u64 0, .int .i64 0, .int .i64 0] 149)) w.heap.size [.int .i64 (s.n : Int), .int .i64 s.t, .int .i64 s.d, .int .u64 (s.v : Int), .int .u64 (s.e : Int), .int .u64 (s.x.prev : Int), .int .i64 (s.x.lead : Int), .int .i64 (s.x.len : Int)] ∧
    BoxL (((w.alloc (.cells #[.int .i64 (s.n : Int), .int .i64 s.t, .int .i64 s.d, .int .u64 (s.v : Int), .int .u64 (s.e : Int), .int .u64 (s.x.prev : Int), .int .i64 (s.x.lead : Int), .int .i64 (s.x.len : Int)] 151)).alloc (.cells #[.int .i64 0, .int .u64 0] 74)).alloc (.cells #[.int .u64 0, .int .i64 0, .int .i64 0] 149)) (w.heap.size + 1) [.int .i64 0, .int .u64 0] ∧
    BoxL (((w.alloc (.cells #[.int .i64 (s.n : Int), .int .i64 s.t, .int .i64 s.d, .int .u64 (s.v : Int), .int .u64 (s.e : Int), .int .u64 (s.x.prev : Int), .int .i64 (s.x.lead : Int), .int .i64 (s.x.len : Int)] 151)).alloc (.cells #[.int .i64 0, .int .u64 0] 74)).alloc (.cells #[.int .u64 0, .int .i64 0, .int .i64 0] 149)) (w.heap.size + 1 + 1) [.int .u64 0, .int .i64 0, .int .i64 0] := by
  have h2 := (BoxL.new (w.alloc (.cells #[.int .i64 (s.n : Int), .int .i64 s.t, .int .i64 s.d, .int .u64 (s.v : Int), .int .u64 (s.e : Int), .int .u64 (s.x.prev : Int), .int .i64 (s.x.lead : Int), .int .i64 (s.x.len : Int)] 151)) [.int .i64 0, .int .u64 0] 74).onA (.cells #[.int .u64 0, .int .i64 0, .int .i64 0] 149)
  have h3 := BoxL.new ((w.alloc (.cells #[.int .i64 (s.n : Int), .int .i64 s.t, .int .i64 s.d, .int .u64 (s.v : Int), .int .u64 (s.e : Int), .int .u64 (s.x.prev : Int), .int .i64 (s.x.lead : Int), .int .i64 (s.x.len : Int)] 151)).alloc (.cells #[.int .i64 0, .int .u64 0] 74)) [.int .u64 0, .int .i64 0, .int .i64 0] 149
  simp only [World.size_alloc] at h2 h3
  exact ⟨by repeat (first | with_reducible exact Below.refl _ _ | assumption | with_reducible refine Below.drew ?_ | with_reducible refine Below.alloc ?_ (by (first | assumption | omega | (simp; done) | (simp; omega))) _), ((BoxL.new w [.int .i64 (s.n : Int), .int .i64 s.t, .int .i64 s.d, .int .u64 (s.v : Int), .int .u64 (s.e : Int), .int .u64 (s.x.prev : Int), .int .i64 (s.x.lead : Int), .int .i64 (s.x.len : Int)] 151).onA _).onA _, h2, h3⟩
theorem BoxL.oth3 {w : World} {g : Nat} {l : List Value} (h : BoxL w g l) {d : Nat} (hd : g ≠ d) (u0 u1 u2 : Value) : BoxL (((w.setCell ⟨d, 0, none⟩ u0).setCell ⟨d, 1, none⟩ u1).setCell ⟨d, 2, none⟩ u2) g l := (h.oth2 hd u0 u1).oth hd 2 u2

section
variable (g : Nat) (A : Option Addr) (m c : Nat) (bs : List Nat) (a k : Nat) (s : KS) (w : World) (hr : Rdr w g A m c bs a)
include hr
set_option maxRecDepth 20000 in
set_option maxHeartbeats 1000000 in
theorem bget_terr (t : Int) (e : Nat) (he : e ≠ 0) (hGT : ∀ X, Wt w g A m c bs a X → Calls Tryz.prog 131 #[.pointer (some ⟨g, 0, none⟩), (.agg #[.int .i64 (s.n : Int), .int .i64 s.t, .int .i64 s.d, .int .u64 (s.v : Int), .int .u64 (s.e : Int), .int .u64 (s.x.prev : Int), .int .i64 (s.x.lead : Int), .int .i64 (s.x.len : Int)])] X fun f X' => f = .returned (.tuple #[.int .i64 t, errV e]) ∧ ∃ a', Wt X g A m c bs a' X') :
    Calls Tryz.prog 118 #[.int .i64 (k : Int), .pointer (some ⟨g, 0, none⟩), (.agg #[.int .i64 (s.n : Int), .int .i64 s.t, .int .i64 s.d, .int .u64 (s.v : Int), .int .u64 (s.e : Int), .int .u64 (s.x.prev : Int), .int .i64 (s.x.lead : Int), .int .i64 (s.x.len : Int)])] w fun f w' => f = .returned (.tuple #[(.agg #[.int .i64 0, .int .u64 (0 : Int)]), .agg #[.int .u64 0, .int .i64 0, .int .i64 0], errV e]) ∧ ∃ a', Wt w g A m c bs a' w' := by
  have hg := hr.lt
  obtain ⟨hV, x5, x6, x7⟩ := get_boxes w s
  have hb0 := (Wt.of hr).below hV
  have hev : errV e = .iface 59 (.int .i64 (e : Int)) := errV_some he
  rw [hev] at hGT ⊢
  clear hev he
  obtain ⟨q0, q1, q2, q3, q4, q5, q6, q7⟩ := x5.get8
  have hR := hGT _ hb0
  clear hGT hr x5
  go_enter Tryz.func118, Tryz.ntmps118
  go_wp2_with fail
  refine hR.mono ?_
  rintro f w1 ⟨rfl, a1, hW⟩
  replace x6 := hW.box x6 (by omega)
  replace x7 := hW.box x7 (by omega)
  replace hW := hb0.trans hW
  clear hR hb0 hV q0 q1 q2 q3 q4 q5 q6 q7
  have z6 := (x6.all2 (.int .i64 0) (.int .u64 0)).oth3 (d := w.heap.size + 1 + 1) (by omega) (.int .u64 0) (.int .i64 0) (.int .i64 0)
  have z7 := (x7.oth2 (d := w.heap.size + 1) (by omega) (.int .i64 0) (.int .u64 0)).all3 (.int .u64 0) (.int .i64 0) (.int .i64 0)
  have hZ := (hW.put2 hg (d := w.heap.size + 1) (by omega) (.int .i64 0) (.int .u64 0)).put3 hg (d := w.heap.size + 1 + 1) (by omega) (.int .u64 0) (.int .i64 0) (.int .i64 0)
  obtain ⟨f0, f1⟩ := x6.free2
  obtain ⟨y0, y1⟩ := x6.get2
  obtain ⟨f3, f4, f5⟩ := x7.free3
  obtain ⟨y3, y4, y5⟩ := x7.get3
  clear x6 x7 hW
  go_wp2
  clear f0 f1 y0 y1 f3 f4 f5 y3 y4 y5
  generalize (((((w1.setCell ⟨w.heap.size + 1, 0, none⟩ (.int .i64 0)).setCell ⟨w.heap.size + 1, 1, none⟩ (.int .u64 0)).setCell ⟨w.heap.size + 1 + 1, 0, none⟩ (.int .u64 0)).setCell ⟨w.heap.size + 1 + 1, 1, none⟩ (.int .i64 0)).setCell ⟨w.heap.size + 1 + 1, 2, none⟩ (.int .i64 0)) = Z at *
  obtain ⟨u0, u1⟩ := z6.get2
  obtain ⟨u2, u3, u4⟩ := z7.get3
  refine bodyPost_ret (v := .tuple #[.agg #[.int .i64 0, .int .u64 0], .agg #[.int .u64 0, .int .i64 0, .int .i64 0], .iface 59 (.int .i64 (e : Int))]) ?_ rfl ⟨rfl, _, hZ⟩
  simp [results, Tryz.results118, go_sem, u0, u1, u2, u3, u4]

set_option maxRecDepth 20000 in
set_option maxHeartbeats 1000000 in
theorem bget_verr (t : Int) (v : Nat) (y : XS) (e a2 : Nat) (he : e ≠ 0) (hGT : ∀ X, Wt w g A m c bs a X → Calls Tryz.prog 131 #[.pointer (some ⟨g, 0, none⟩), (.agg #[.int .i64 (s.n : Int), .int .i64 s.t, .int .i64 s.d, .int .u64 (s.v : Int), .int .u64 (s.e : Int), .int .u64 (s.x.prev : Int), .int .i64 (s.x.lead : Int), .int .i64 (s.x.len : Int)])] X fun f X' => f = .returned (.tuple #[.int .i64 t, .nilIface]) ∧ Wt X g A m c bs a2 X')
    (hGV : ∀ X, Wt w g A m c bs a2 X → Calls Tryz.prog 132 #[.int .i64 (k : Int), .pointer (some ⟨g, 0, none⟩), (.agg #[.int .i64 (s.n : Int), .int .i64 s.t, .int .i64 s.d, .int .u64 (s.v : Int), .int .u64 (s.e : Int), .int .u64 (s.x.prev : Int), .int .i64 (s.x.lead : Int), .int .i64 (s.x.len : Int)])] X fun f X' => f = .returned (.tuple #[.int .u64 (v : Int), (.agg #[.int .u64 (y.prev : Int), .int .i64 (y.lead : Int), .int .i64 (y.len : Int)]), errV e]) ∧ ∃ a', Wt X g A m c bs a' X') :
    Calls Tryz.prog 118 #[.int .i64 (k : Int), .pointer (some ⟨g, 0, none⟩), (.agg #[.int .i64 (s.n : Int), .int .i64 s.t, .int .i64 s.d, .int .u64 (s.v : Int), .int .u64 (s.e : Int), .int .u64 (s.x.prev : Int), .int .i64 (s.x.lead : Int), .int .i64 (s.x.len : Int)])] w fun f w' => f = .returned (.tuple #[(.agg #[.int .i64 0, .int .u64 (0 : Int)]), .agg #[.int .u64 0, .int .i64 0, .int .i64 0], errV e]) ∧ ∃ a', Wt w g A m c bs a' w' := by
  have hg := hr.lt
  obtain ⟨hV, x5, x6, x7⟩ := get_boxes w s
  have hb0 := (Wt.of hr).below hV
  have hev : errV e = .iface 59 (.int .i64 (e : Int)) := errV_some he
  rw [hev] at hGV ⊢
  clear hev he
  obtain ⟨q0, q1, q2, q3, q4, q5, q6, q7⟩ := x5.get8
  have hR := hGT _ hb0
  clear hGT hr
  go_enter Tryz.func118, Tryz.ntmps118
  go_wp2_with fail
  refine hR.mono ?_
  rintro f w1 ⟨rfl, hW⟩
  replace x5 := hW.box x5 (by omega)
  replace x6 := hW.box x6 (by omega)
  replace x7 := hW.box x7 (by omega)
  replace hW := hb0.trans hW
  clear hR hb0 hV q0 q1 q2 q3 q4 q5 q6 q7
  obtain ⟨q0, q1, q2, q3, q4, q5, q6, q7⟩ := x5.get8
  have hR := hGV _ hW
  clear hGV
  go_wp2_with fail
  refine hR.mono ?_
  rintro f w2 ⟨rfl, a1, hW2⟩
  replace x5 := hW2.box x5 (by omega)
  replace x6 := hW2.box x6 (by omega)
  replace x7 := hW2.box x7 (by omega)
  replace hW := hW.trans hW2
  clear hR hW2 q0 q1 q2 q3 q4 q5 q6 q7
  clear w1
  go_upto_region 6 with fail
  have hal : Below w2.heap.size w2 (w2.alloc (.cells #[.int .u64 (y.prev : Int), .int .i64 (y.lead : Int), .int .i64 (y.len : Int)] 149)) := by repeat (first | with_reducible exact Below.refl _ _ | assumption | with_reducible refine Below.drew ?_ | with_reducible refine Below.alloc ?_ (by (first | assumption | omega | (simp; done) | (simp; omega))) _)
  have x12 := BoxL.new w2 [.int .u64 (y.prev : Int), .int .i64 (y.lead : Int), .int .i64 (y.len : Int)] 149
  have h712 := x7.lt
  replace x5 := x5.below hal
  replace x6 := x6.below hal
  replace x7 := x7.below hal
  replace hW := hW.below hal
  change BoxL (w2.alloc (.cells #[.int .u64 (y.prev : Int), .int .i64 (y.lead : Int), .int .i64 (y.len : Int)] 149)) w2.heap.size [.int .u64 (y.prev : Int), .int .i64 (y.lead : Int), .int .i64 (y.len : Int)] at x12
  generalize w2.alloc (.cells #[.int .u64 (y.prev : Int), .int .i64 (y.lead : Int), .int .i64 (y.len : Int)] 149) = w1 at *
  generalize w2.heap.size = g12 at *
  clear hal
  clear w2
  have z6 := (x6.all2 (.int .i64 0) (.int .u64 0)).oth3 (d := w.heap.size + 1 + 1) (by omega) (.int .u64 0) (.int .i64 0) (.int .i64 0)
  have z7 := (x7.oth2 (d := w.heap.size + 1) (by omega) (.int .i64 0) (.int .u64 0)).all3 (.int .u64 0) (.int .i64 0) (.int .i64 0)
  have hZ := (hW.put2 hg (d := w.heap.size + 1) (by omega) (.int .i64 0) (.int .u64 0)).put3 hg (d := w.heap.size + 1 + 1) (by omega) (.int .u64 0) (.int .i64 0) (.int .i64 0)
  obtain ⟨f0, f1⟩ := x6.free2
  obtain ⟨y0, y1⟩ := x6.get2
  obtain ⟨f3, f4, f5⟩ := x7.free3
  obtain ⟨y3, y4, y5⟩ := x7.get3
  clear x6 x7 hW
  go_wp2
  clear f0 f1 y0 y1 f3 f4 f5 y3 y4 y5
  generalize (((((w1.setCell ⟨w.heap.size + 1, 0, none⟩ (.int .i64 0)).setCell ⟨w.heap.size + 1, 1, none⟩ (.int .u64 0)).setCell ⟨w.heap.size + 1 + 1, 0, none⟩ (.int .u64 0)).setCell ⟨w.heap.size + 1 + 1, 1, none⟩ (.int .i64 0)).setCell ⟨w.heap.size + 1 + 1, 2, none⟩ (.int .i64 0)) = Z at *
  obtain ⟨u0, u1⟩ := z6.get2
  obtain ⟨u2, u3, u4⟩ := z7.get3
  refine bodyPost_ret (v := .tuple #[.agg #[.int .i64 0, .int .u64 0], .agg #[.int .u64 0, .int .i64 0, .int .i64 0], .iface 59 (.int .i64 (e : Int))]) ?_ rfl ⟨rfl, _, hZ⟩
  simp [results, Tryz.results118, go_sem, u0, u1, u2, u3, u4]

set_option maxRecDepth 20000 in
set_option maxHeartbeats 1000000 in
theorem bget_order (t : Int) (v : Nat) (y : XS) (a2 a3 : Nat) (h0 : s.n ≠ 0) (hle : t ≤ s.t) (hGT : ∀ X, Wt w g A m c bs a X → Calls Tryz.prog 131 #[.pointer (some ⟨g, 0, none⟩), (.agg #[.int .i64 (s.n : Int), .int .i64 s.t, .int .i64 s.d, .int .u64 (s.v : Int), .int .u64 (s.e : Int), .int .u64 (s.x.prev : Int), .int .i64 (s.x.lead : Int), .int .i64 (s.x.len : Int)])] X fun f X' => f = .returned (.tuple #[.int .i64 t, .nilIface]) ∧ Wt X g A m c bs a2 X')
    (hGV : ∀ X, Wt w g A m c bs a2 X → Calls Tryz.prog 132 #[.int .i64 (k : Int), .pointer (some ⟨g, 0, none⟩), (.agg #[.int .i64 (s.n : Int), .int .i64 s.t, .int .i64 s.d, .int .u64 (s.v : Int), .int .u64 (s.e : Int), .int .u64 (s.x.prev : Int), .int .i64 (s.x.lead : Int), .int .i64 (s.x.len : Int)])] X fun f X' => f = .returned (.tuple #[.int .u64 (v : Int), (.agg #[.int .u64 (y.prev : Int), .int .i64 (y.lead : Int), .int .i64 (y.len : Int)]), .nilIface]) ∧ Wt X g A m c bs a3 X') :
    Calls Tryz.prog 118 #[.int .i64 (k : Int), .pointer (some ⟨g, 0, none⟩), (.agg #[.int .i64 (s.n : Int), .int .i64 s.t, .int .i64 s.d, .int .u64 (s.v : Int), .int .u64 (s.e : Int), .int .u64 (s.x.prev : Int), .int .i64 (s.x.lead : Int), .int .i64 (s.x.len : Int)])] w fun f w' => f = .returned (.tuple #[(.agg #[.int .i64 0, .int .u64 (0 : Int)]), .agg #[.int .u64 0, .int .i64 0, .int .i64 0], .iface 59 (.int .i64 4)]) ∧ ∃ a', Wt w g A m c bs a' w' := by
  have hg := hr.lt
  obtain ⟨hV, x5, x6, x7⟩ := get_boxes w s
  have hb0 := (Wt.of hr).below hV
  obtain ⟨q0, q1, q2, q3, q4, q5, q6, q7⟩ := x5.get8
  have hR := hGT _ hb0
  clear hGT hr
  go_enter Tryz.func118, Tryz.ntmps118
  go_wp2_with fail
  refine hR.mono ?_
  rintro f w1 ⟨rfl, hW⟩
  replace x5 := hW.box x5 (by omega)
  replace x6 := hW.box x6 (by omega)
  replace x7 := hW.box x7 (by omega)
  replace hW := hb0.trans hW
  clear hR hb0 hV q0 q1 q2 q3 q4 q5 q6 q7
  obtain ⟨q0, q1, q2, q3, q4, q5, q6, q7⟩ := x5.get8
  have hR := hGV _ hW
  clear hGV
  go_wp2_with fail
  refine hR.mono ?_
  rintro f w2 ⟨rfl, hW2⟩
  replace x5 := hW2.box x5 (by omega)
  replace x6 := hW2.box x6 (by omega)
  replace x7 := hW2.box x7 (by omega)
  replace hW := hW.trans hW2
  clear hR hW2 q0 q1 q2 q3 q4 q5 q6 q7
  clear w1
  go_upto_region 7 with fail
  have hal : Below w2.heap.size w2 (w2.alloc (.cells #[.int .u64 (y.prev : Int), .int .i64 (y.lead : Int), .int .i64 (y.len : Int)] 149)) := by repeat (first | with_reducible exact Below.refl _ _ | assumption | with_reducible refine Below.drew ?_ | with_reducible refine Below.alloc ?_ (by (first | assumption | omega | (simp; done) | (simp; omega))) _)
  have x12 := BoxL.new w2 [.int .u64 (y.prev : Int), .int .i64 (y.lead : Int), .int .i64 (y.len : Int)] 149
  have h712 := x7.lt
  replace x5 := x5.below hal
  replace x6 := x6.below hal
  replace x7 := x7.below hal
  replace hW := hW.below hal
  change BoxL (w2.alloc (.cells #[.int .u64 (y.prev : Int), .int .i64 (y.lead : Int), .int .i64 (y.len : Int)] 149)) w2.heap.size [.int .u64 (y.prev : Int), .int .i64 (y.lead : Int), .int .i64 (y.len : Int)] at x12
  generalize w2.alloc (.cells #[.int .u64 (y.prev : Int), .int .i64 (y.lead : Int), .int .i64 (y.len : Int)] 149) = w1 at *
  generalize w2.heap.size = g12 at *
  clear hal
  clear w2
  have hn0 : 0 < (s.n : Int) := by omega
  obtain ⟨q0, q1, q2, q3, q4, q5, q6, q7⟩ := x5.get8
  clear h0
  have z6 := (x6.all2 (.int .i64 0) (.int .u64 0)).oth3 (d := w.heap.size + 1 + 1) (by omega) (.int .u64 0) (.int .i64 0) (.int .i64 0)
  have z7 := (x7.oth2 (d := w.heap.size + 1) (by omega) (.int .i64 0) (.int .u64 0)).all3 (.int .u64 0) (.int .i64 0) (.int .i64 0)
  have hZ := (hW.put2 hg (d := w.heap.size + 1) (by omega) (.int .i64 0) (.int .u64 0)).put3 hg (d := w.heap.size + 1 + 1) (by omega) (.int .u64 0) (.int .i64 0) (.int .i64 0)
  obtain ⟨f0, f1⟩ := x6.free2
  obtain ⟨y0, y1⟩ := x6.get2
  obtain ⟨f3, f4, f5⟩ := x7.free3
  obtain ⟨y3, y4, y5⟩ := x7.get3
  clear x6 x7 hW
  go_wp2
  clear f0 f1 y0 y1 f3 f4 f5 y3 y4 y5
  generalize (((((w1.setCell ⟨w.heap.size + 1, 0, none⟩ (.int .i64 0)).setCell ⟨w.heap.size + 1, 1, none⟩ (.int .u64 0)).setCell ⟨w.heap.size + 1 + 1, 0, none⟩ (.int .u64 0)).setCell ⟨w.heap.size + 1 + 1, 1, none⟩ (.int .i64 0)).setCell ⟨w.heap.size + 1 + 1, 2, none⟩ (.int .i64 0)) = Z at *
  obtain ⟨u0, u1⟩ := z6.get2
  obtain ⟨u2, u3, u4⟩ := z7.get3
  refine bodyPost_ret (v := .tuple #[.agg #[.int .i64 0, .int .u64 0], .agg #[.int .u64 0, .int .i64 0, .int .i64 0], .iface 59 (.int .i64 4)]) ?_ rfl ⟨rfl, _, hZ⟩
  simp [results, Tryz.results118, go_sem, u0, u1, u2, u3, u4]

set_option maxRecDepth 20000 in
set_option maxHeartbeats 1000000 in
theorem bget_good (t : Int) (v : Nat) (y : XS) (a2 a3 : Nat) (h0 : s.n = 0 ∨ s.t < t) (hGT : ∀ X, Wt w g A m c bs a X → Calls Tryz.prog 131 #[.pointer (some ⟨g, 0, none⟩), (.agg #[.int .i64 (s.n : Int), .int .i64 s.t, .int .i64 s.d, .int .u64 (s.v : Int), .int .u64 (s.e : Int), .int .u64 (s.x.prev : Int), .int .i64 (s.x.lead : Int), .int .i64 (s.x.len : Int)])] X fun f X' => f = .returned (.tuple #[.int .i64 t, .nilIface]) ∧ Wt X g A m c bs a2 X')
    (hGV : ∀ X, Wt w g A m c bs a2 X → Calls Tryz.prog 132 #[.int .i64 (k : Int), .pointer (some ⟨g, 0, none⟩), (.agg #[.int .i64 (s.n : Int), .int .i64 s.t, .int .i64 s.d, .int .u64 (s.v : Int), .int .u64 (s.e : Int), .int .u64 (s.x.prev : Int), .int .i64 (s.x.lead : Int), .int .i64 (s.x.len : Int)])] X fun f X' => f = .returned (.tuple #[.int .u64 (v : Int), (.agg #[.int .u64 (y.prev : Int), .int .i64 (y.lead : Int), .int .i64 (y.len : Int)]), .nilIface]) ∧ Wt X g A m c bs a3 X') :
    Calls Tryz.prog 118 #[.int .i64 (k : Int), .pointer (some ⟨g, 0, none⟩), (.agg #[.int .i64 (s.n : Int), .int .i64 s.t, .int .i64 s.d, .int .u64 (s.v : Int), .int .u64 (s.e : Int), .int .u64 (s.x.prev : Int), .int .i64 (s.x.lead : Int), .int .i64 (s.x.len : Int)])] w fun f w' => f = .returned (.tuple #[(.agg #[.int .i64 t, .int .u64 (v : Int)]), (.agg #[.int .u64 (y.prev : Int), .int .i64 (y.lead : Int), .int .i64 (y.len : Int)]), .nilIface]) ∧ Wt w g A m c bs a3 w' := by
  have hg := hr.lt
  obtain ⟨hV, x5, x6, x7⟩ := get_boxes w s
  have hb0 := (Wt.of hr).below hV
  obtain ⟨q0, q1, q2, q3, q4, q5, q6, q7⟩ := x5.get8
  have hR := hGT _ hb0
  clear hGT hr
  go_enter Tryz.func118, Tryz.ntmps118
  go_wp2_with fail
  refine hR.mono ?_
  rintro f w1 ⟨rfl, hW⟩
  replace x5 := hW.box x5 (by omega)
  replace x6 := hW.box x6 (by omega)
  replace x7 := hW.box x7 (by omega)
  replace hW := hb0.trans hW
  clear hR hb0 hV q0 q1 q2 q3 q4 q5 q6 q7
  obtain ⟨q0, q1, q2, q3, q4, q5, q6, q7⟩ := x5.get8
  have hR := hGV _ hW
  clear hGV
  go_wp2_with fail
  refine hR.mono ?_
  rintro f w2 ⟨rfl, hW2⟩
  replace x5 := hW2.box x5 (by omega)
  replace x6 := hW2.box x6 (by omega)
  replace x7 := hW2.box x7 (by omega)
  replace hW := hW.trans hW2
  clear hR hW2 q0 q1 q2 q3 q4 q5 q6 q7
  clear w1
  go_upto_region 7 with fail
  have hal : Below w2.heap.size w2 (w2.alloc (.cells #[.int .u64 (y.prev : Int), .int .i64 (y.lead : Int), .int .i64 (y.len : Int)] 149)) := by repeat (first | with_reducible exact Below.refl _ _ | assumption | with_reducible refine Below.drew ?_ | with_reducible refine Below.alloc ?_ (by (first | assumption | omega | (simp; done) | (simp; omega))) _)
  have x12 := BoxL.new w2 [.int .u64 (y.prev : Int), .int .i64 (y.lead : Int), .int .i64 (y.len : Int)] 149
  have h712 := x7.lt
  replace x5 := x5.below hal
  replace x6 := x6.below hal
  replace x7 := x7.below hal
  replace hW := hW.below hal
  change BoxL (w2.alloc (.cells #[.int .u64 (y.prev : Int), .int .i64 (y.lead : Int), .int .i64 (y.len : Int)] 149)) w2.heap.size [.int .u64 (y.prev : Int), .int .i64 (y.lead : Int), .int .i64 (y.len : Int)] at x12
  generalize w2.alloc (.cells #[.int .u64 (y.prev : Int), .int .i64 (y.lead : Int), .int .i64 (y.len : Int)] 149) = w1 at *
  generalize w2.heap.size = g12 at *
  clear hal
  clear w2
  obtain ⟨q0, q1, q2, q3, q4, q5, q6, q7⟩ := x5.get8
  have z6 := ((x6.all2 (.int .i64 t) (.int .u64 (v : Int))).oth3 (d := w.heap.size + 1 + 1) (by omega) (.int .u64 (y.prev : Int)) (.int .i64 (y.lead : Int)) (.int .i64 (y.len : Int))).drew
  have z7 := ((x7.oth2 (d := w.heap.size + 1) (by omega) (.int .i64 t) (.int .u64 (v : Int))).all3 (.int .u64 (y.prev : Int)) (.int .i64 (y.lead : Int)) (.int .i64 (y.len : Int))).drew
  have hZ := ((hW.put2 hg (d := w.heap.size + 1) (by omega) (.int .i64 t) (.int .u64 (v : Int))).put3 hg (d := w.heap.size + 1 + 1) (by omega) (.int .u64 (y.prev : Int)) (.int .i64 (y.lead : Int)) (.int .i64 (y.len : Int))).below ((Below.refl _ _).drew)
  obtain ⟨i0, i1, i2⟩ := x12.get3
  obtain ⟨i3, i4, i5⟩ := x12.drew.get3
  obtain ⟨f0, f1⟩ := x6.free2
  obtain ⟨y0, y1⟩ := x6.get2
  obtain ⟨f3, f4, f5⟩ := x7.free3
  obtain ⟨y3, y4, y5⟩ := x7.get3
  have x6d := x6.drew
  have x7d := x7.drew
  obtain ⟨g0, g1⟩ := x6d.free2
  obtain ⟨j0, j1⟩ := x6d.get2
  obtain ⟨g3, g4, g5⟩ := x7d.free3
  obtain ⟨j3, j4, j5⟩ := x7d.get3
  clear x5 x6 x7 hW x12 x6d x7d
  by_cases hz : s.n = 0
  all_goals
    first
    | (have hn0 : ¬ 0 < (s.n : Int) := by omega)
    | (have hn0 : 0 < (s.n : Int) := by omega
       have hn1 : ¬ t ≤ s.t := by omega)
    clear h0 hz
    go_upto_region 9 with fail
    clear q0 q1 q2 q3 q4 q5 q6 q7
    go_region
    clear f0 f1 y0 y1 f3 f4 f5 y3 y4 y5 g0 g1 g3 g4 g5 j0 j1 j3 j4 j5 i0 i1 i2 i3 i4 i5
    generalize (((((w1.setCell ⟨w.heap.size + 1, 0, none⟩ (.int .i64 t)).setCell ⟨w.heap.size + 1, 1, none⟩ (.int .u64 (v : Int))).setCell ⟨w.heap.size + 1 + 1, 0, none⟩ (.int .u64 (y.prev : Int))).setCell ⟨w.heap.size + 1 + 1, 1, none⟩ (.int .i64 (y.lead : Int))).setCell ⟨w.heap.size + 1 + 1, 2, none⟩ (.int .i64 (y.len : Int))).drew = Z at *
    obtain ⟨u0, u1⟩ := z6.get2
    obtain ⟨u2, u3, u4⟩ := z7.get3
    go_wp2
    refine bodyPost_ret (v := .tuple #[(.agg #[.int .i64 t, .int .u64 (v : Int)]), (.agg #[.int .u64 (y.prev : Int), .int .i64 (y.lead : Int), .int .i64 (y.len : Int)]), .nilIface]) ?_ rfl ⟨rfl, hZ⟩
    simp [results, Tryz.results118, go_sem, u0, u1, u2, u3, u4]
end

/-- what get comes to -/
def RetBG (w : World) (g : Nat) (A : Option Addr) (m c : Nat) (bs : List Nat) (a k : Nat) (s : KS) (e : Ending) (w' : World) : Prop :=
  ∃ r, KGets k s (restL bs a) r ∧ ((r.e ≠ 0 ∧ e = .returned (.tuple #[(.agg #[.int .i64 0, .int .u64 (0 : Int)]), .agg #[.int .u64 0, .int .i64 0, .int .i64 0], errV r.e]) ∧ ∃ a', Wt w g A m c bs a' w') ∨
    (r.e = 0 ∧ ∃ y : XS, e = .returned (.tuple #[(.agg #[.int .i64 r.t, .int .u64 (r.v : Int)]), (.agg #[.int .u64 (y.prev : Int), .int .i64 (y.lead : Int), .int .i64 (y.len : Int)]), .nilIface]) ∧ r.s = afterK k s r.t r.v y ∧ Wt w g A m c bs (a + r.n) w'))
theorem rest_at {bs : List Nat} {a n : Nat} (h : n ≤ (restL bs a).length) : restL bs (a + n : Nat) = (restL bs a).drop n ∧ a + n ≤ 8 * bs.length ∨ n = 0 := by
  by_cases h0 : n = 0
  · exact .inr h0
  · by_cases ha : a ≤ 8 * bs.length
    · have h1 := restL_length (bs := bs) ha
      exact .inl ⟨by rw [restL_yes (by omega), restL_yes ha, List.drop_drop], by omega⟩
    · rw [restL_no (by omega)] at h
      simp at h
      omega
theorem rest_plus {bs : List Nat} {a n : Nat} (h : n ≤ (restL bs a).length) : restL bs (a + n : Nat) = (restL bs a).drop n := by
  rcases rest_at h with h | rfl
  · exact h.1
  · simp
theorem bget_any (k : Nat) (hk : k = 1 ∨ k = 2) (g : Nat) (A : Option Addr) (m c : Nat) (bs : List Nat) (a : Nat) (s : KS) (w : World) (hr : Rdr w g A m c bs a) (hs : s.May) (hT : TabsW w) (hl : TabsLt g) :
    Calls Tryz.prog 118 #[.int .i64 (k : Int), .pointer (some ⟨g, 0, none⟩), (.agg #[.int .i64 (s.n : Int), .int .i64 s.t, .int .i64 s.d, .int .u64 (s.v : Int), .int .u64 (s.e : Int), .int .u64 (s.x.prev : Int), .int .i64 (s.x.lead : Int), .int .i64 (s.x.len : Int)])] w (RetBG w g A m c bs a k s) := by
  by_cases h0 : s.n = 0
  · by_cases h1 : 64 ≤ (restL bs a).length
    · have hGT := fun X (hX : Wt w g A m c bs a X) => btime_yes g A m c bs a s X hX.1 h0 h1
      have hp := rest_plus h1
      by_cases h2 : 128 ≤ (restL bs a).length
      · have hGV := fun X (hX : Wt w g A m c bs (a + 64) X) => bval_yes g A m c bs (a + 64) k s X hX.1 h0 (by rw [hp, List.length_drop]; omega)
        rw [hp, cut_drop] at hGV
        refine (bget_good g A m c bs a k s w hr _ _ zeroX (a + 64) (a + 64 + 64) (.inl h0) hGT hGV).mono fun f w' ⟨h3, h4⟩ => ⟨firstK k s (restL bs a), .inl ⟨h0, rfl⟩, .inr ?_⟩
        unfold firstK
        rw [if_neg (by omega)]
        exact ⟨rfl, zeroX, h3, rfl, h4⟩
      · have hGV : ∀ X, Wt w g A m c bs (a + 64) X → Calls Tryz.prog 132 #[.int .i64 (k : Int), .pointer (some ⟨g, 0, none⟩), (.agg #[.int .i64 (s.n : Int), .int .i64 s.t, .int .i64 s.d, .int .u64 (s.v : Int), .int .u64 (s.e : Int), .int .u64 (s.x.prev : Int), .int .i64 (s.x.lead : Int), .int .i64 (s.x.len : Int)])] X fun f X' => f = .returned (.tuple #[.int .u64 ((0 : Nat) : Int), (.agg #[.int .u64 (zeroX.prev : Int), .int .i64 (zeroX.lead : Int), .int .i64 (zeroX.len : Int)]), errV 2]) ∧ ∃ a', Wt X g A m c bs a' X' := fun X hX =>
          (bval_no g A m c bs (a + 64) k s X hX.1 h0 (by rw [hp, List.length_drop]; omega)).mono fun f X' h => ⟨h.1, _, h.2⟩
        refine (bget_verr g A m c bs a k s w hr _ _ zeroX 2 (a + 64) (by omega) hGT hGV).mono fun f w' h => ⟨firstK k s (restL bs a), .inl ⟨h0, rfl⟩, .inl ?_⟩
        unfold firstK
        rw [if_pos (by omega)]
        exact ⟨by simp [badK], h⟩
    · have hGT : ∀ X, Wt w g A m c bs a X → Calls Tryz.prog 131 #[.pointer (some ⟨g, 0, none⟩), (.agg #[.int .i64 (s.n : Int), .int .i64 s.t, .int .i64 s.d, .int .u64 (s.v : Int), .int .u64 (s.e : Int), .int .u64 (s.x.prev : Int), .int .i64 (s.x.lead : Int), .int .i64 (s.x.len : Int)])] X fun f X' => f = .returned (.tuple #[.int .i64 0, errV 2]) ∧ ∃ a', Wt X g A m c bs a' X' := fun X hX =>
        (btime_no g A m c bs a s X hX.1 h0 (by omega)).mono fun f X' h => ⟨h.1, _, h.2⟩
      refine (bget_terr g A m c bs a k s w hr _ 2 (by omega) hGT).mono fun f w' h => ⟨firstK k s (restL bs a), .inl ⟨h0, rfl⟩, .inl ?_⟩
      unfold firstK
      rw [if_pos (by omega)]
      exact ⟨by simp [badK], h⟩
  · obtain ⟨st, n, e, hd⟩ := dgets_is (restL bs a)
    obtain ⟨v, y, j, e2, hv⟩ := vgets_is k s ((restL bs a).drop n)
    have hK : KGets k s (restL bs a) (laterK k s st n e v y j e2) := .inr ⟨h0, st, n, e, v, y, j, e2, hd, hv, rfl⟩
    have hGT : ∀ X, Wt w g A m c bs a X → Calls Tryz.prog 131 #[.pointer (some ⟨g, 0, none⟩), (.agg #[.int .i64 (s.n : Int), .int .i64 s.t, .int .i64 s.d, .int .u64 (s.v : Int), .int .u64 (s.e : Int), .int .u64 (s.x.prev : Int), .int .i64 (s.x.lead : Int), .int .i64 (s.x.len : Int)])] X fun f X' => f = .returned (.tuple #[.int .i64 (w64 (s.t + s.d + st)), errV e]) ∧ ∃ a', (e = 0 → a' = a + n) ∧ Wt X g A m c bs a' X' := fun X hX =>
      (btime_later g A m c bs a s X hX.1 h0 (hX.tabs hT hl) hl).mono fun f X' ⟨st', n', k', a', h1, h2, h3, h4⟩ => by
        obtain ⟨rfl, rfl, rfl⟩ := hd.same h1
        exact ⟨h2, a', h3, h4⟩
    by_cases he : e = 0
    · subst he
      have p1 := (dgets_back hd).2
      have g3 := rest_plus p1
      have hGT' : ∀ X, Wt w g A m c bs a X → Calls Tryz.prog 131 #[.pointer (some ⟨g, 0, none⟩), (.agg #[.int .i64 (s.n : Int), .int .i64 s.t, .int .i64 s.d, .int .u64 (s.v : Int), .int .u64 (s.e : Int), .int .u64 (s.x.prev : Int), .int .i64 (s.x.lead : Int), .int .i64 (s.x.len : Int)])] X fun f X' => f = .returned (.tuple #[.int .i64 (w64 (s.t + s.d + st)), .nilIface]) ∧ Wt X g A m c bs (a + n) X' := fun X hX =>
        (hGT X hX).mono fun f X' ⟨h1, a', h2, h3⟩ => ⟨h1, h2 rfl ▸ h3⟩
      have hGV : ∀ X, Wt w g A m c bs (a + n) X → Calls Tryz.prog 132 #[.int .i64 (k : Int), .pointer (some ⟨g, 0, none⟩), (.agg #[.int .i64 (s.n : Int), .int .i64 s.t, .int .i64 s.d, .int .u64 (s.v : Int), .int .u64 (s.e : Int), .int .u64 (s.x.prev : Int), .int .i64 (s.x.lead : Int), .int .i64 (s.x.len : Int)])] X fun f X' => f = .returned (.tuple #[.int .u64 (v : Int), (.agg #[.int .u64 (y.prev : Int), .int .i64 (y.lead : Int), .int .i64 (y.len : Int)]), errV e2]) ∧ ∃ a', (e2 = 0 → a' = a + n + j) ∧ Wt X g A m c bs a' X' := fun X hX =>
        (bval_later k hk g A m c bs (a + n) s X hX.1 h0 hs (hX.tabs hT hl) hl).mono fun f X' ⟨v', y', m', e', a', h1, h2, h3, h4⟩ => by
          rw [g3] at h1
          obtain ⟨rfl, rfl, rfl, rfl⟩ := hv.same h1
          exact ⟨h2, a', h3, h4⟩
      by_cases he2 : e2 = 0
      · subst he2
        have hGV' : ∀ X, Wt w g A m c bs (a + n) X → Calls Tryz.prog 132 #[.int .i64 (k : Int), .pointer (some ⟨g, 0, none⟩), (.agg #[.int .i64 (s.n : Int), .int .i64 s.t, .int .i64 s.d, .int .u64 (s.v : Int), .int .u64 (s.e : Int), .int .u64 (s.x.prev : Int), .int .i64 (s.x.lead : Int), .int .i64 (s.x.len : Int)])] X fun f X' => f = .returned (.tuple #[.int .u64 (v : Int), (.agg #[.int .u64 (y.prev : Int), .int .i64 (y.lead : Int), .int .i64 (y.len : Int)]), .nilIface]) ∧ Wt X g A m c bs (a + n + j) X' := fun X hX =>
          (hGV X hX).mono fun f X' ⟨h1, a', h2, h3⟩ => ⟨h1, h2 rfl ▸ h3⟩
        by_cases ho : w64 (s.t + s.d + st) ≤ s.t
        · refine (bget_order g A m c bs a k s w hr _ v y (a + n) (a + n + j) h0 ho hGT' hGV').mono fun f w' h => ⟨_, hK, .inl ?_⟩
          unfold laterK
          rw [if_neg (by omega), if_neg (by omega), if_pos ho]
          exact ⟨by simp [badK], h⟩
        · refine (bget_good g A m c bs a k s w hr _ v y (a + n) (a + n + j) (.inr (by omega)) hGT' hGV').mono fun f w' ⟨h3, h4⟩ => ⟨_, hK, .inr ?_⟩
          unfold laterK
          rw [if_neg (by omega), if_neg (by omega), if_neg ho]
          exact ⟨rfl, y, h3, rfl, by rw [← Nat.add_assoc]; exact h4⟩
      · refine (bget_verr g A m c bs a k s w hr _ v y e2 (a + n) he2 hGT' fun X hX => (hGV X hX).mono fun f X' ⟨h1, a', _, h3⟩ => ⟨h1, a', h3⟩).mono fun f w' h => ⟨_, hK, .inl ?_⟩
        unfold laterK
        rw [if_neg (by omega), if_pos he2]
        exact ⟨he2, h⟩
    · refine (bget_terr g A m c bs a k s w hr _ e he fun X hX => (hGT X hX).mono fun f X' ⟨h1, a', _, h3⟩ => ⟨h1, a', h3⟩).mono fun f w' h => ⟨_, hK, .inl ?_⟩
      unfold laterK
      rw [if_pos he]
      exact ⟨he, h⟩

end Go.Proofs.YtaebljoacffghaaGreatDoor
