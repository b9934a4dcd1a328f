/-
  Texts of this proof, one behind the other: PackRise, PackCheck, PackSum, IdxPut, PackPut, PackGood.
-/
import Derived.Test.YtaebljoacffghaaGreatDoorWords
import Derived.Test.YtaebljoacffghaaGreatDoorPlain
import Derived.Test.YtaebljoacffghaaGreatDoorIdxB
import Derived.Test.YtaebljoacffghaaGreatDoorWhoP
import Derived.Test.YtaebljoacffghaaGreatDoorUvI
import Derived.Test.YtaebljoacffghaaGreatDoorChunks
import Derived.Test.YtaebljoacffghaaGreatDoorIdxA
import Derived.Test.YtaebljoacffghaaGreatDoorEntsA
import Derived.Deep.DeepCutAuto
import Derived.Deep.QuietTactic
import Derived.BigQuiet
import Derived.IntWalk
import Derived.Lib.SmallJoins
import Derived.Deep.RegionLaw
import Derived.Deep.CutBlock

/-
  The contract of the program's rise: do the times rise? Nothing turns.
-/
namespace Go.Proofs.YtaebljoacffghaaGreatDoor
open Go.RowKit

/-- a loop's relation: the first k times rise -/
def AtRise (w : World) (n : Nat) (xs : List (Int × Nat)) (i : Value) (wr : World) : Prop :=
  ∃ k : Nat, (k ≤ n ∨ n = 0) ∧ i = .int .i64 ((k + 1 : Nat) : Int) ∧ Below w.heap.size w wr ∧ ∀ j, j + 1 < k + 1 → (xs.getD j (0, 0)).1 < (xs.getD (j + 1) (0, 0)).1

set_option maxRecDepth 20000 in
set_option maxHeartbeats 1000000 in
theorem rise_any (A : Option Addr) (n c : Nat) (xs : List (Int × Nat)) (w : World) (h : RdQ w w.heap.size A n c xs) (hn : n ≤ 100000) :
    Calls Tryz.prog 63 #[.slice A n c] w (RetDP w (Rises xs)) := by
  go_enter Tryz.func63, Tryz.ntmps63
  have HL := Lib.hid h.len
  have HH := Lib.hid h
  clear h
  go_wp2
  go_loopw [3] (fun i wr => AtRise w n xs i wr) (fun i _ => n - (intOf i).toNat)
  case atStart => exact ⟨0, by omega, rfl, Below.refl _ _, fun j hj => absurd hj (by omega)⟩
  case round =>
    obtain ⟨k, hk, rfl, hbel, hup⟩ := hrel
    have HUP := Lib.hid hup
    clear hup
    by_cases hlt : k + 1 < n
    · obtain ⟨ad, rfl, hbl, hc0, _⟩ := (HH.out.below hbel).at_ hlt
      obtain ⟨ad', e', _, hd0, _⟩ := (HH.out.below hbel).at_ (k := k) (by omega)
      injection e' with e'
      subst e'
      obtain ⟨t1, HT1⟩ : ∃ t, Hid ((xs.getD (k + 1) (0, 0)).1 = t) := ⟨_, Lib.hid rfl⟩
      obtain ⟨t0, HT0⟩ : ∃ t, Hid ((xs.getD k (0, 0)).1 = t) := ⟨_, Lib.hid rfl⟩
      rw [HT1.out] at hc0
      rw [HT0.out] at hd0
      have hlt' : ((k + 1 : Nat) : Int) < (n : Int) := by omega
      have hlt2 : (k : Int) < (n : Int) := by omega
      have hkn : k < n := by omega
      have hsub : IntKind.i64.wrap (((k + 1 : Nat) : Int) - 1) = (k : Int) := by rw [show ((k + 1 : Nat) : Int) - 1 = (k : Int) by omega]; exact IntWalk.i64_in _ (by omega)
      have hsub2 : IntKind.i64.wrap ((k : Int) + 1 - 1) = (k : Int) := by rw [show (k : Int) + 1 - 1 = (k : Int) by omega]; exact IntWalk.i64_in _ (by omega)
      go_wp2_with fail
      go_cut [21] (fun x21 wx => x21 = .bool (decide (t1 ≤ t0)) ∧ Below wr.heap.size wr wx)
      case first =>
        go_quiet (fail)
        go_wp2
        go_meet
        exact ⟨by rfl, by repeat (first | with_reducible exact Below.refl _ _ | with_reducible assumption | with_reducible refine Below.drew ?_ | with_reducible refine below_drewN ?_ _ | with_reducible refine Below.alloc ?_ (by (first | assumption | omega | (simp; done) | (simp; omega))) _ | with_reducible refine below_set ?_ (by (first | assumption | omega | (simp; done) | (simp; omega))) _ _)⟩
      case rest =>
        obtain ⟨rfl, hb⟩ := hcut
        clear hc0 hd0 hsub hsub2
        have hbn := hbel.trans (hb.mono hbel.size)
        by_cases ht : t1 ≤ t0
        · go_wp2
          go_ret
          refine ⟨false, ⟨fun h => (by cases h), fun hr => ?_⟩, rfl, hbn⟩
          have := hr k (by rw [HL.out]; omega)
          rw [HT0.out, HT1.out] at this
          omega
        · go_wp2
          go_roundw
          case rel =>
            refine ⟨k + 1, by omega, by go_num, hbn, fun j hj => ?_⟩
            by_cases e : j = k
            · subst e
              rw [HT0.out, HT1.out]
              omega
            · exact HUP.out j (by omega)
          case measure => simp [intOf]; omega
    · go_wp2
      go_ret
      exact ⟨true, ⟨fun _ i hi => HUP.out i (by rw [HL.out] at hi; omega), fun _ => rfl⟩, rfl, hbel⟩

end Go.Proofs.YtaebljoacffghaaGreatDoor

/-
  The contract of the program's check: what is amiss with samples that are to be a block.
-/
namespace Go.Proofs.YtaebljoacffghaaGreatDoor
open Go.RowKit

/-- what check comes to -/
def RetCk (w : World) (z s : Int) (xs : List (Int × Nat)) (e : Ending) (w' : World) : Prop := ∃ er, PackE z s xs er ∧ e = .returned (errV er) ∧ Below w.heap.size w w'

set_option maxRecDepth 20000 in
set_option maxHeartbeats 1000000 in
theorem check_any (z s : Int) (A : Option Addr) (n c : Nat) (xs : List (Int × Nat)) (w : World) (h : RdQ w w.heap.size A n c xs) (hn : n ≤ 5000) :
    Calls Tryz.prog 45 #[.int .i64 z, .slice A n c, .int .i64 s] w (RetCk w z s xs) := by
  have hR := fun w' (hb : Below w.heap.size w w') => rise_any A n c xs w' ((h.below hb).more hb.size) (by omega)
  clear h
  go_enter Tryz.func45, Tryz.ntmps45
  by_cases h1 : 1 ≤ s
  · by_cases h2 : s ≤ 65535
    · obtain ⟨k, rfl⟩ := Int.eq_ofNat_of_zero_le (show 0 ≤ s by omega)
      have HS : Hid (1 ≤ (k : Int) ∧ (k : Int) ≤ 65535) := Lib.hid ⟨h1, h2⟩
      by_cases hz : z = 1 ∨ z = 2
      · obtain ⟨d, rfl, hd⟩ : ∃ d : Nat, z = (d : Int) ∧ (d = 1 ∨ d = 2) := ⟨z.toNat, by omega, by omega⟩
        have hw1 : IntKind.u64.wrap (n : Int) = (n : Int) := wrap_le n (by omega)
        have hw2 : IntKind.u64.wrap (k : Int) = (k : Int) := wrap_le k (by omega)
        have hw3 : IntKind.u64.wrap (65535 * (k : Int)) = 65535 * (k : Int) := by
          have := wrap_le (65535 * k) (by omega)
          simpa using this
        have hnl : ¬ 65535 * (k : Int) < (n : Int) := by omega
        clear hz
        rcases hd with rfl | rfl
        all_goals
          go_wp2_with fail
          refine (hR _ (Below.refl _ _)).mono ?_
          rintro e w1 ⟨b, hb, rfl, hbel⟩
          cases b with
          | true =>
            have HH := Lib.hid (hb.1 rfl)
            clear hb hR
            go_wp2
            go_ret
            exact ⟨0, .inr ⟨HS.out, .inr ⟨_, rfl, (by decide), .inr ⟨HH.out, rfl⟩⟩⟩, rfl, hbel⟩
          | false =>
            have HH : Hid (¬ Rises xs) := Lib.hid (fun hr => by cases (hb.2 hr))
            clear hb hR
            go_wp2
            go_ret
            exact ⟨4, .inr ⟨HS.out, .inr ⟨_, rfl, (by decide), .inl ⟨HH.out, rfl⟩⟩⟩, rfl, hbel⟩
      · have HZ : Hid (z ≠ 1 ∧ z ≠ 2) := Lib.hid (by omega)
        have hz1 : (z != 1) = true := by simp; omega
        have hz2 : (z != 2) = true := by simp; omega
        clear hR hz
        go_wp2
        go_ret
        exact ⟨6, .inr ⟨HS.out, .inl ⟨HZ.out, rfl⟩⟩, rfl, Below.refl _ _⟩
    · have HS : Hid (¬ (1 ≤ s ∧ s ≤ 65535)) := Lib.hid (by omega)
      clear hR
      go_wp2
      go_ret
      exact ⟨1, .inl ⟨HS.out, rfl⟩, rfl, Below.refl _ _⟩
  · have HS : Hid (¬ (1 ≤ s ∧ s ≤ 65535)) := Lib.hid (by omega)
    clear hR
    go_wp2
    go_ret
    exact ⟨1, .inl ⟨HS.out, rfl⟩, rfl, Below.refl _ _⟩

end Go.Proofs.YtaebljoacffghaaGreatDoor

/-
  The contract of the program's summed: a chunk's bytes, with their sum behind them.
-/
namespace Go.Proofs.YtaebljoacffghaaGreatDoor
open Go.RowKit

theorem lit_four {w0 w : World} (h : Below w0.heap.size w0 w) (a b c d : Nat) : Own w0 (w.alloc (.cells #[.int .u8 (a : Int), .int .u8 (b : Int), .int .u8 (c : Int), .int .u8 (d : Int)] 5)) (.slice (some ⟨w.heap.size, 0, none⟩) 4 4) [a, b, c, d] :=
  ⟨World.ownsRow_lit w #[.int .u8 (a : Int), .int .u8 (b : Int), .int .u8 (c : Int), .int .u8 (d : Int)] 4 h.size (by unfold maxLen; omega) rfl, h.alloc h.size _⟩
theorem big_four {v : Nat} (h : v < 4294967296) : bigB 4 v = [v / 16777216, v / 65536 % 256, v / 256 % 256, v % 256] := by
  rw [bigB_cons, bigB_cons, bigB_cons, bigB_cons]
  have : v / 16777216 % 256 = v / 16777216 := by omega
  simp [bigB, this]
theorem enc_ok {k : Nat} {xs : List (Int × Nat)} (h1 : xs.length ≠ 0) (hk : k = 1 ∨ k = 2) (hr : Rises xs) : EncE (k : Int) xs 0 := .inr ⟨h1, .inr ⟨k, rfl, hk, .inr ⟨hr, rfl⟩⟩⟩

/-- what summed comes to -/
def RetSum (w : World) (k : Nat) (xs : List (Int × Nat)) (e : Ending) (w' : World) : Prop :=
  ∃ A c, e = .returned (.tuple #[.slice A (sumQ k xs).length c, .nilIface]) ∧ Own w w' (.slice A (sumQ k xs).length c) (sumQ k xs)

set_option maxRecDepth 20000 in
set_option maxHeartbeats 1000000 in
theorem summed_any (k : Nat) (A : Option Addr) (n c : Nat) (xs : List (Int × Nat)) (w : World) (h : RdQ w w.heap.size A n c xs) (h1 : 1 ≤ n) (hn : n ≤ 5000) (hk : k = 1 ∨ k = 2) (hr : Rises xs) (hR : RoomW w) (hT : TzW w) :
    Calls Tryz.prog 46 #[.int .i64 (k : Int), .slice A n c] w (RetSum w k xs) := by
  have HL := Lib.hid h.len
  have HE := Lib.hid (enc_ok (by rw [HL.out]; omega) hk hr)
  have hE := encode_any A n c (k : Int) xs w h hn hR hT
  have HB : Hid (pack (encP (k : Int) xs 0) = bytQ k xs) := Lib.hid (by unfold encP bytQ; rw [if_pos rfl]; rfl)
  have HBL : Hid ((bytQ k xs).length ≤ 100000) := Lib.hid (by have := byt_len (k := k) h.all; rw [HL.out] at this; omega)
  have HLT := Lib.hid (byt_lt k xs)
  have HSQ : Hid (sumQ k xs = bytQ k xs ++ bigB 4 (crcS (bytQ k xs))) := Lib.hid rfl
  clear h hr hR hT
  go_enter Tryz.func46, Tryz.ntmps46
  go_wp2_with fail
  refine hE.mono ?_
  rintro e w1 ⟨er, A1, c1, her, rfl, ho1⟩
  obtain rfl := her.same HE.out
  rw [HB.out] at ho1 ⊢
  rw [show errV 0 = .nilIface from rfl]
  clear her hE
  have hlt32 : crcS (bytQ k xs) < 4294967296 := crcS_lt HLT.out
  have hS := sum_any A1 _ c1 _ _ w1 ho1.rd HLT.out (by have := HBL.out; omega)
  generalize bytQ k xs = p at *
  generalize hpl : p.length = pl at *
  replace hpl := Lib.hid hpl
  have HB4 := Lib.hid (big_four hlt32)
  generalize crcS p = cs at *
  go_wp2_with fail
  refine hS.mono ?_
  rintro e w2 ⟨rfl, rfl⟩
  clear hS
  have h4 := lit_four (Below.refl w1.heap.size w1) (cs / 16777216) (cs / 65536 % 256) (cs / 256 % 256) (cs % 256)
  rw [show ((cs / 16777216 : Nat) : Int) = (cs : Int) / 16777216 by omega, show ((cs / 65536 % 256 : Nat) : Int) = (cs : Int) / 65536 % 256 by omega, show ((cs / 256 % 256 : Nat) : Int) = (cs : Int) / 256 % 256 by omega, show ((cs % 256 : Nat) : Int) = (cs : Int) % 256 by omega, ← HB4.out] at h4
  go_wp2_with (at_builtin; (refine wpList_app rfl (.tmp 20) (.tmp 32) rfl rfl rfl (ho1.alloc _) h4.rd (by have := HBL.out; rw [hpl.out]; omega) ?_; intro v3 w3 ho3))
  rw [← HSQ.out] at ho3
  obtain ⟨A3, c3, rfl, _⟩ := ho3.form
  go_ret2
  exact ⟨A3, c3, rfl, ho3⟩

end Go.Proofs.YtaebljoacffghaaGreatDoor

/-
  The contracts of the program's putEntry and Put: an index's bytes, or that it may not be.
-/
namespace Go.Proofs.YtaebljoacffghaaGreatDoor
open Go.RowKit

theorem wrap_u64x (x : Int) : IntKind.u64.wrap x = ((u64n x : Nat) : Int) := by
  rw [u64n_is]
  simp [IntKind.wrap, IntKind.bits, IntKind.signed]
theorem wrap_sub (x y : Int) : IntKind.u64.wrap (((u64n x : Nat) : Int) - ((u64n y : Nat) : Int)) = ((u64n (x - y) : Nat) : Int) := by
  rw [wrap_u64x]
  congr 1
  unfold u64n
  omega

/-- a box that is no row of bytes, behind what is kept -/
theorem KeepO.cells {w w' : World} {g : Nat} {cs : Array Value} {t : TypeId} (h : KeepO w w') (hw : w.heap[g]? = some (.cells cs t)) (ht : t ≠ 5) : w'.heap[g]? = some (.cells cs t) := by
  have hlt : g < w.heap.size := by
    rcases Nat.lt_or_ge g w.heap.size with h1 | h1
    · exact h1
    · rw [Array.getElem?_eq_none h1] at hw; cases hw
  rw [h.2 g hlt (fun cs' q e => by rw [hw] at e; injection e with e; injection e with e1 e2; exact ht e2), hw]

set_option maxRecDepth 20000 in
set_option maxHeartbeats 1000000 in
theorem putentry_any (w0 w : World) (A : Option Addr) (n c : Nat) (bs : List Nat) (e : Ent) (hown : Own w0 w (.slice A n c) bs) (hl : bs.length ≤ 900000000) :
    Calls Tryz.prog 67 #[.slice A n c, .agg #[.int .i64 e.mn, .int .i64 e.mx, .int .i64 e.ct, .int .i64 e.ln]] w (RetOB w0 w (bs ++ entB e)) := by
  obtain ⟨m, x, ct, l⟩ := e
  have hw1 := wrap_u64x m
  have hw2 := wrap_u64x x
  have hw3 := wrap_u64x ct
  have hw4 := wrap_u64x l
  have hws := wrap_sub x m
  have HE : Hid (entB ⟨m, x, ct, l⟩ = bigB 8 (u64n m) ++ (uvB (u64n (x - m)) ++ (uvB (u64n ct) ++ uvB (u64n l)))) := Lib.hid rfl
  have hm := u64n_le m
  have hd := u64n_le (x - m)
  have hc := u64n_le ct
  have hll := u64n_le l
  have q1 := uvB_ten _ hd
  have q2 := uvB_ten _ hc
  have q3 := uvB_ten _ hll
  generalize u64n m = M at *
  generalize u64n x = X at *
  generalize u64n (x - m) = D at *
  generalize u64n ct = C at *
  generalize u64n l = L at *
  generalize entB ⟨m, x, ct, l⟩ = EB at *
  obtain ⟨w1, hw⟩ : ∃ w1, w1 = w.alloc (.cells #[.int .i64 m, .int .i64 x, .int .i64 ct, .int .i64 l] 103) := ⟨_, rfl⟩
  have hown1 : Own w0 w1 (.slice A n c) bs := by rw [hw]; exact hown.alloc _
  have HG : Hid (w1.heap[w.heap.size]? = some (.cells #[.int .i64 m, .int .i64 x, .int .i64 ct, .int .i64 l] 103)) := Lib.hid (by rw [hw]; exact heap_alloc_new w _)
  have HK1 : Hid (KeepO w w1) := Lib.hid (KeepO.of_below (by rw [hw]; exact (Below.refl _ _).alloc (Nat.le_refl _) _))
  have HCELL : Hid (∀ w', KeepO w1 w' → w'.cell? ⟨w.heap.size, 0, none⟩ = some (.int .i64 m) ∧ w'.cell? ⟨w.heap.size, 1, none⟩ = some (.int .i64 x) ∧ w'.cell? ⟨w.heap.size, 2, none⟩ = some (.int .i64 ct) ∧ w'.cell? ⟨w.heap.size, 3, none⟩ = some (.int .i64 l)) := Lib.hid (fun w' hk => by
    have hg := hk.cells HG.out (by decide)
    refine ⟨?_, ?_, ?_, ?_⟩ <;> rw [cell_of_row w' w.heap.size _ _ _ _ hg] <;> rfl)
  clear hown
  go_enter Tryz.func67, Tryz.ntmps67
  go_wp2_with fail
  rw [← hw]
  clear hw
  refine (putnum_any w0 w1 A n c bs M 8 hown1 hm (by omega) (by omega)).mono ?_
  rintro e w2 ⟨v2, rfl, hown2, hk2⟩
  obtain ⟨p2, HP2⟩ : ∃ p2, Hid (p2 = bs ++ bigB 8 M) := ⟨_, Lib.hid rfl⟩
  rw [← HP2.out] at hown2
  have hl2 : p2.length = bs.length + 8 := by rw [HP2.out, List.length_append, bigB_length]
  obtain ⟨c0, c1, c2, c3⟩ := HCELL.out w2 hk2
  clear hown1
  have hb2 : p2.length + (uvB D).length ≤ 1073741824 := by omega
  have hb3 : p2.length + (uvB D).length + (uvB C).length ≤ 1073741824 := by omega
  have hb4 : p2.length + (uvB D).length + (uvB C).length + (uvB L).length ≤ 1073741824 := by omega
  replace hl2 := Lib.hid hl2
  replace hb2 := Lib.hid hb2
  replace hb3 := Lib.hid hb3
  replace hb4 := Lib.hid hb4
  clear q1 q2 q3 hl
  go_wp2_with fail
  refine (uput_any D w2 hd).mono ?_
  rintro e w3 ⟨A3, c3', rfl, ho3⟩
  go_upto_region 3 with (at_builtin; (refine wpList_appK rfl (.tmp 10) (.tmp 18) rfl rfl rfl (hown2.keep ho3.bel) ho3.rd hb2.out ?_; intro v4 w4 hown4 hk4))
  have hk5 := (hk2.trans (KeepO.of_below ho3.bel)).trans hk4
  clear c0 c1 c2 c3
  obtain ⟨c0, c1, c2, c3⟩ := HCELL.out w4 hk5
  clear hk4 hk2 hown2 ho3
  obtain ⟨p4, HP4⟩ : ∃ p4, Hid (p4 = p2 ++ uvB D) := ⟨_, Lib.hid rfl⟩
  rw [← HP4.out] at hown4
  replace hb3 : Hid (p4.length + (uvB C).length ≤ 1073741824) := Lib.hid (by rw [HP4.out, List.length_append]; exact hb3.out)
  go_wp2_with fail
  refine (uput_any C w4 hc).mono ?_
  rintro e w5 ⟨A5, c5', rfl, ho5⟩
  go_upto_region 4 with (at_builtin; (refine wpList_appK rfl (.tmp 20) (.tmp 24) rfl rfl rfl (hown4.keep ho5.bel) ho5.rd hb3.out ?_; intro v6 w6 hown6 hk6))
  have hk7 := (hk5.trans (KeepO.of_below ho5.bel)).trans hk6
  clear c0 c1 c2 c3
  obtain ⟨c0, c1, c2, c3⟩ := HCELL.out w6 hk7
  clear hk6 hk5 hown4 ho5
  obtain ⟨p6, HP6⟩ : ∃ p6, Hid (p6 = p4 ++ uvB C) := ⟨_, Lib.hid rfl⟩
  rw [← HP6.out] at hown6
  replace hb4 : Hid (p6.length + (uvB L).length ≤ 1073741824) := Lib.hid (by rw [HP6.out, HP4.out, List.length_append, List.length_append]; exact hb4.out)
  go_wp2_with fail
  refine (uput_any L w6 hll).mono ?_
  rintro e w7 ⟨A7, c7', rfl, ho7⟩
  go_wp2_with (at_builtin; (refine wpList_appK rfl (.tmp 26) (.tmp 30) rfl rfl rfl (hown6.keep ho7.bel) ho7.rd hb4.out ?_; intro v8 w8 hown8 hk8))
  go_ret
  refine ⟨v8, rfl, ?_, (HK1.out.trans ((hk7.trans (KeepO.of_below ho7.bel)).trans hk8))⟩
  rw [HP6.out, HP4.out, HP2.out] at hown8
  rw [HE.out]
  simpa only [List.append_assoc] using hown8

/-- what Put comes to -/
def RetPI (w : World) (k : Int) (es : List Ent) (e : Ending) (w' : World) : Prop :=
  (May k es → ∃ A c, e = .returned (.tuple #[.slice A (idxB k.toNat es).length c, .nilIface]) ∧ Own w w' (.slice A (idxB k.toNat es).length c) (idxB k.toNat es)) ∧
  (¬ May k es → e = .returned (.tuple #[.slice none 0 0, errV 1]) ∧ Below w.heap.size w w')

/-- a loop's relation: the first j entries are laid -/
def AtPutI (w1 : World) (k : Nat) (n : Nat) (es : List Ent) (b i : Value) (wr : World) : Prop :=
  ∃ j : Nat, j ≤ n ∧ i = .int .i64 (j : Int) ∧ Own w1 wr b ([71, 84, 83, 49, k] ++ uvB es.length ++ entsB (es.take j))

set_option maxRecDepth 20000 in
set_option maxHeartbeats 1000000 in
theorem iput_any (k : Int) (A : Option Addr) (n c B : Nat) (es : List Ent) (w : World) (h : RdE w B A n c es) (hB : B ≤ w.heap.size) (hn : n ≤ 9223372036854775807) :
    Calls Tryz.prog 47 #[.agg #[.int .i64 k, .slice A n c]] w (RetPI w k es) := by
  have HL := Lib.hid h.len
  have HB := Lib.hid hB
  obtain ⟨w1, hw1⟩ : ∃ w1, w1 = w.alloc (.cells #[.int .i64 k, .slice A n c] 86) := ⟨_, rfl⟩
  have HW1 := Lib.hid hw1
  have HBW : Hid (Below w.heap.size w w1) := Lib.hid (by rw [hw1]; exact (Below.refl _ _).alloc (Nat.le_refl _) _)
  have HS1 : Hid (w1.heap.size = w.heap.size + 1) := Lib.hid (by rw [hw1]; simp)
  have HH := Lib.hid (h.below (HBW.out.mono hB))
  have HHD : Hid (∀ wr, Below w1.heap.size w1 wr → wr.cell? ⟨w.heap.size, 0, none⟩ = some (.int .i64 k) ∧ wr.cell? ⟨w.heap.size, 1, none⟩ = some (.slice A n c)) := Lib.hid (fun wr hb => head_cells (t := 86) (by rw [← HW1.out]; exact hb))
  have hmb := maybe_any k A n c B es w1 HH.out (by have := HS1.out; omega) hn
  clear h hB hw1
  by_cases hm : May k es
  · have HM := Lib.hid hm
    obtain ⟨kn, rfl⟩ : ∃ kn : Nat, k = (kn : Int) := ⟨k.toNat, by have := hm.1; omega⟩
    have hk : kn = 1 ∨ kn = 2 := by have := hm.1; omega
    have hn6 : n ≤ 65535 := by have := hm.2.1; have := HL.out; omega
    have hwk : IntKind.u8.wrap (kn : Int) = (kn : Int) := by rcases hk with rfl | rfl <;> rfl
    clear hm
    have hmag := mag_conv
    unfold magV at hmag
    go_enter Tryz.func47, Tryz.ntmps47
    go_wp2_with fail
    rw [← HW1.out]
    refine hmb.mono ?_
    rintro e w2 ⟨b, hb, rfl, hb2⟩
    obtain rfl : b = true := hb.2 HM.out
    clear hb
    obtain ⟨hh0, hh1⟩ := HHD.out w2 hb2
    have hmr := mag_rd w2
    unfold magV at hmr
    have hmc := hmag w2
    have hbm := (hb2.alloc hb2.size (.cells #[.int .u8 71, .int .u8 84, .int .u8 83, .int .u8 49] 5 (4, 5)))
    have hh0' : (w2.alloc (.cells #[.int .u8 71, .int .u8 84, .int .u8 83, .int .u8 49] 5 (4, 5))).cell? ⟨w.heap.size, 0, none⟩ = some (.int .i64 (kn : Int)) := (HHD.out _ hbm).1
    have hmr2 := fun o => hmr.below ((Below.refl (w2.heap.size + 1) _).alloc (by simp) o)
    have hbm2 := fun o => hbm.alloc hbm.size o
    have hone := Rd.one (w2.alloc (.cells #[.int .u8 71, .int .u8 84, .int .u8 83, .int .u8 49] 5 (4, 5))) kn
    rw [show (w2.alloc (.cells #[.int .u8 71, .int .u8 84, .int .u8 83, .int .u8 49] 5 (4, 5))).heap.size = w2.heap.size + 1 by simp] at hone
    clear hmr
    go_upto_region 4 with (at_builtin; (refine wpList_magic rfl (.tmp 12) (.tmp 16) rfl rfl rfl (hbm2 _) (hmr2 _) hone ?_; intro v3 w3 hown3))
    clear hmc hmag hh0' hone hmr2 hbm2 hbm hh0 hh1 hmb hb2
    obtain ⟨hh0, hh1⟩ := HHD.out w3 hown3.bel
    have hun : IntKind.u64.wrap (n : Int) = (n : Int) := wrap_le n (by omega)
    go_wp2_with fail
    refine (uput_any n w3 (by omega)).mono ?_
    rintro e w4 ⟨A4, c4, rfl, ho4⟩
    have hl4 := uvB_ten n (by omega)
    have HLB : Hid ((magB ++ [kn]).length + (uvB n).length ≤ 1073741824) := Lib.hid (by simp [magB]; omega)
    go_upto_region 5 with (at_builtin; (refine wpList_app rfl (.tmp 18) (.tmp 23) rfl rfl rfl (hown3.keep ho4.bel) ho4.rd HLB.out ?_; intro v5 w5 hown5))
    clear hh0 hh1 hl4
    obtain ⟨hh0, hh1⟩ := HHD.out w5 hown5.bel
    clear hown3 ho4
    go_wp2_with fail
    clear hh0 hh1
    go_loopw [4, 28] (fun b i wr => AtPutI w1 kn n es b i wr) (fun _ i _ => n - (intOf i).toNat)
    case atStart => exact ⟨0, by omega, rfl, by rw [HL.out]; simpa [magB, entsB] using hown5⟩
    case round =>
      obtain ⟨j, hj, rfl, hown6⟩ := hrel
      obtain ⟨q, HQ⟩ : ∃ q, Hid (q = [71, 84, 83, 49, kn] ++ uvB es.length ++ entsB (es.take j)) := ⟨_, Lib.hid rfl⟩
      rw [← HQ.out] at hown6
      have HQL : Hid (q.length ≤ 5 + 10 + 38 * j) := Lib.hid (by
        rw [HQ.out]
        have h1 := uvB_ten es.length (by have := HL.out; omega)
        have h2 := (entsB_len (es.take j)).1
        rw [List.length_take] at h2
        simp only [List.length_append, List.length_cons, List.length_nil]
        omega)
      by_cases hlt : j < n
      · obtain ⟨ad, rfl, hbb, hc⟩ := (HH.out.below (hown6.bel.mono (by have := HB.out; have := HS1.out; omega))).at_ hlt
        obtain ⟨c0, c1, c2, c3⟩ := hc
        have HX := Lib.hid (entsB_take (es := es) (k := j) (by have := HL.out; omega))
        generalize es.getD j ent0 = x at *
        obtain ⟨A6, c6, rfl, hr6⟩ := hown6.form
        have hpe := putentry_any w1 _ A6 q.length c6 q x (hown6.alloc (.cells #[.int .i64 x.mn, .int .i64 x.mx, .int .i64 x.ct, .int .i64 x.ln] 103)) (by have := HQL.out; omega)
        clear hr6 hown6
        generalize hql : q.length = ql at *
        replace hql := Lib.hid hql
        go_wp2_with fail
        refine hpe.mono ?_
        rintro e w7 ⟨v7, rfl, hown7, _⟩
        go_wp2_with fail
        go_roundw
        case rel => exact ⟨j + 1, by omega, by go_num, by rw [HX.out, ← List.append_assoc, ← HQ.out]; exact hown7⟩
        case measure => simp [intOf]; omega
      · have HQ2 : Hid (q = headB kn es) := Lib.hid (by rw [HQ.out, List.take_of_length_le (by have := HL.out; omega)]; rfl)
        obtain ⟨A6, c6, rfl, hr6⟩ := hown6.form
        have hkn : kn < 256 := by omega
        have hlt32 : crcS q < 4294967296 := crcS_lt (by rw [HQ2.out]; exact headB_lt hkn es)
        have hcrc := sum_any A6 q.length c6 _ q wr hr6 (by rw [HQ2.out]; exact headB_lt hkn es) (by have := HQL.out; omega)
        have HI : Hid (idxB ((kn : Int)).toNat es = q ++ bigB 4 (crcS q)) := Lib.hid (by rw [HQ2.out]; rfl)
        have hpn := putnum_any w1 wr A6 q.length c6 q (crcS q) 4 hown6 (by omega) (by omega) (by have := HQL.out; omega)
        clear hr6 hown6
        generalize hql : q.length = ql at *
        replace hql := Lib.hid hql
        generalize crcS q = cs at *
        have hcw : IntKind.u64.wrap (cs : Int) = (cs : Int) := wrap_le cs (by omega)
        go_wp2_with fail
        refine hcrc.mono ?_
        rintro e w7 ⟨rfl, rfl⟩
        go_wp2_with fail
        refine hpn.mono ?_
        rintro e w8 ⟨v8, rfl, hown8, _⟩
        go_wp2_with fail
        go_ret2
        refine ⟨fun _ => ?_, fun h => absurd HM.out h⟩
        rw [HI.out]
        obtain ⟨A8, c8, rfl, _⟩ := hown8.form
        exact ⟨A8, c8, rfl, hown8.weak HBW.out⟩
  · have HM := Lib.hid hm
    clear hm
    go_enter Tryz.func47, Tryz.ntmps47
    go_wp2_with fail
    rw [← HW1.out]
    refine hmb.mono ?_
    rintro e w2 ⟨b, hb, rfl, hb2⟩
    have hbf : b = false := by
      cases b with
      | true => exact absurd (hb.1 rfl) HM.out
      | false => rfl
    subst hbf
    clear hb
    go_wp2
    go_ret2
    exact ⟨fun h => absurd h HM.out, fun _ => ⟨rfl, HBW.out.trans (hb2.mono (by have := HS1.out; omega))⟩⟩

end Go.Proofs.YtaebljoacffghaaGreatDoor

/-
  The contract of the program's Pack: any samples' block, by any size, or what is amiss.
-/
namespace Go.Proofs.YtaebljoacffghaaGreatDoor
open Go.RowKit

/-- what Pack comes to -/
def RetPack (w : World) (z s : Int) (xs : List (Int × Nat)) (e : Ending) (w' : World) : Prop :=
  ∃ er A c, PackE z s xs er ∧ e = .returned (.tuple #[.slice A (blockE z s xs er).length c, errV er]) ∧ Own w w' (.slice A (blockE z s xs er).length c) (blockE z s xs er)
theorem RetPack.bad {w w' : World} {z s : Int} {xs : List (Int × Nat)} {er : Nat} {e : Ending} (h : PackE z s xs er) (h0 : er ≠ 0) (he : e = .returned (.tuple #[.slice none 0 0, errV er])) (hb : Below w.heap.size w w') : RetPack w z s xs e w' := by
  have e1 : blockE z s xs er = [] := by unfold blockE; rw [if_neg h0]
  refine ⟨er, none, 0, h, ?_, ?_⟩
  · rw [e1]; exact he
  · rw [e1]; exact Own.nil_ _ _ hb
theorem part_take {s : Nat} {xs : List (Int × Nat)} {j m : Nat} (h : (xs.drop (j * s)).length = m) : (xs.drop (j * s)).take (min s m) = partQ s xs j := by
  unfold partQ
  rcases Nat.le_total s m with h1 | h1
  · rw [Nat.min_eq_left h1]
  · rw [Nat.min_eq_right h1, List.take_of_length_le (by omega), List.take_of_length_le (by omega)]
theorem drop_next {s : Nat} {xs : List (Int × Nat)} {j : Nat} : (xs.drop (j * s)).drop s = xs.drop ((j + 1) * s) := by
  rw [List.drop_drop, Nat.add_mul, Nat.one_mul]

/-- behind j chunks: what is left, their bytes, their entries -/
def AtPk (w : World) (g k s : Nat) (xs : List (Int × Nat)) (l b : Value) (wr : World) : Prop :=
  ∃ (j : Nat) (A : Option Addr) (m c : Nat) (lv : Value), l = .slice A m c ∧ (m = 0 → manyQ s xs = j) ∧ (0 < m → j < manyQ s xs) ∧ RdQ wr w.heap.size A m c (xs.drop (j * s)) ∧ Own w wr b (bodyTo k s xs j) ∧ BoxT 86 wr g [.int .i64 (k : Int), lv] ∧ OwnE 103 w wr lv (entsTo k s xs j)

set_option maxRecDepth 20000 in
set_option maxHeartbeats 8000000 in
theorem pack_any (z s : Int) (A : Option Addr) (n c : Nat) (xs : List (Int × Nat)) (w : World) (h : RdQ w w.heap.size A n c xs) (hn : n ≤ 5000) (hR : RoomW w) (hT : TzW w) :
    Calls Tryz.prog 28 #[.int .i64 z, .slice A n c, .int .i64 s] w (RetPack w z s xs) := by
  have hC := check_any z s A n c xs w h hn
  go_enter Tryz.func28, Tryz.ntmps28
  go_wp2_with fail
  refine hC.mono ?_
  rintro e w1 ⟨er, her, rfl, hb1⟩
  clear hC
  by_cases he : er = 0
  · subst he
    have HE := Lib.hid her
    obtain ⟨hs, k, rfl, hk, hr⟩ := her.ok
    obtain ⟨S, rfl⟩ := Int.eq_ofNat_of_zero_le (show 0 ≤ s by omega)
    rw [show errV 0 = .nilIface from rfl]
    have HA := Lib.hid h.all
    have HL := Lib.hid h.len
    have HH := Lib.hid h
    have HR := Lib.hid hr
    have hs1 : 1 ≤ S := by omega
    have hs2 : S ≤ 65535 := by omega
    clear her hr h hs
    go_upto_block 0 with fail
    have hbx := BoxT.new w1 [.int .i64 (k : Int), .slice none 0 0] 86
    have hbw := hb1.alloc hb1.size (.cells #[.int .i64 (k : Int), .slice none 0 0] 86)
    have hg0 := hb1.size
    generalize w1.alloc (.cells #[.int .i64 (k : Int), .slice none 0 0] 86) = W at *
    obtain ⟨g, hg⟩ : ∃ g, w1.heap.size = g := ⟨_, rfl⟩
    rw [hg] at hbx hg0
    rw [show w1.heap.size = g from hg]
    have HG := Lib.hid hg
    clear hg hb1
    go_wp2_with fail
    go_loopw [1, 10] (fun l b wr => AtPk w g k S xs l b wr) (fun l _ _ => sliceLen l)
    case atStart =>
      have hb0 : Own w W (.slice none 0 0) (bodyTo k S xs 0) := Own.nil_ _ _ hbw
      have he0 : OwnE 103 w W (.slice none 0 0) (entsTo k S xs 0) := OwnE.nil_ _ _ _ hbw
      have hm0 := lt_many (s := S) (xs := xs) hs1 0
      rw [HL.out] at hm0
      exact ⟨0, A, n, c, _, rfl, by omega, by omega, by rw [Nat.zero_mul, List.drop_zero]; exact HH.out.below hbw, hb0, hbx, he0⟩
    case round =>
      clear hbx hbw
      obtain ⟨j, A', m, c', lv, rfl, hj0, hj1, hrd, hown, hbx, hent⟩ := hrel
      have HDL : Hid ((xs.drop (j * S)).length = m) := Lib.hid hrd.len
      have hmn : m ≤ 5000 := by have h1 := HDL.out; have h2 := HL.out; rw [List.length_drop] at h1; omega
      by_cases hm : 0 < m
      · have HJ := Lib.hid (hj1 hm)
        clear hj0 hj1
        obtain ⟨q, HQ⟩ : ∃ q, Hid (min S m = q) := ⟨_, Lib.hid rfl⟩
        have hq : 1 ≤ q ∧ q ≤ S ∧ q ≤ m := by have := HQ.out; omega
        have hmin : (if m < S then (m : Int) else (S : Int)) = (q : Int) := by have := HQ.out; split <;> omega
        have hcap := hrd.cap
        have HP : Hid ((xs.drop (j * S)).take q = partQ S xs j) := Lib.hid (by rw [← HQ.out]; exact part_take HDL.out)
        have HPL : Hid ((partQ S xs j).length = q) := Lib.hid (by rw [← HP.out, List.length_take, HDL.out]; omega)
        have hs := summed_any k A' q c' (partQ S xs j) wr (by rw [← HP.out]; exact (hrd.cutHead hq.2.2).more hown.bel.size) hq.1 (by omega) hk (part_rises HR.out j) (hR.bel hown.bel) (hT.bel hown.bel)
        go_wp2_with fail
        refine hs.mono ?_
        rintro e w2 ⟨A2, c2, rfl, ho2⟩
        clear hs hmin
        have HSL : Hid ((sumQ k (partQ S xs j)).length ≤ 100000) := Lib.hid (part_sum_len HA.out (by rw [HL.out]; exact hn) j)
        have hbw2 := hown.bel.trans (ho2.bel.mono hown.bel.size)
        have hb2 := ho2.bel
        have hsum := ho2.weak hown.bel
        have hbx2 := hbx.below hb2
        have hown2 := hown.keep hb2
        have hent2 := hent.keep hb2
        have hrd2 := hrd.below (hb2.mono hown.bel.size)
        clear ho2 hbx hown hent hrd hb2
        obtain ⟨L, hL⟩ : ∃ L, (sumQ k (partQ S xs j)).length = L := ⟨_, rfl⟩
        rw [hL] at hsum ⊢
        have HL2 := Lib.hid hL
        clear hL
        obtain ⟨p, hp⟩ : ∃ p, q = p + 1 := ⟨q - 1, by omega⟩
        have hsub : IntKind.i64.wrap ((q : Int) - 1) = (p : Int) := by rw [show (q : Int) - 1 = (p : Int) by omega]; exact IntWalk.i64_in _ (by omega)
        have hpm : p < m := by omega
        have hpm' : (p : Int) < (m : Int) := by omega
        have hm' : (0 : Int) < (m : Int) := by omega
        obtain ⟨ad, rfl, hbl, hc0, _⟩ := hrd2.at_ (k := 0) hm
        obtain ⟨ad', e', _, hc1, _⟩ := hrd2.at_ (k := p) hpm
        injection e' with e'
        subst e'
        have hgd : ∀ i, i < q → ((xs.drop (j * S)).getD i (0, 0)) = (partQ S xs j).getD i (0, 0) := fun i hi => by rw [← HP.out, getD_takeQ _ hi]
        rw [hgd 0 (by omega)] at hc0
        rw [hgd p (by omega)] at hc1
        have HEN : Hid (entQ k (partQ S xs j) = ⟨((partQ S xs j).getD 0 (0, 0)).1, ((partQ S xs j).getD p (0, 0)).1, (q : Int), (L : Int)⟩) := Lib.hid (by
          unfold entQ
          rw [HPL.out, HL2.out, hp, Nat.add_sub_cancel])
        have hfit := ent_fit (k := k) (s := S) HA.out (by rw [HL.out]; exact hn) j
        rw [HEN.out] at hfit
        have HES : Hid (entsTo k S xs (j + 1) = entsTo k S xs j ++ [entQ k (partQ S xs j)]) := Lib.hid (ents_succ j)
        have HEL : Hid ((entsTo k S xs j).length + 1 ≤ 1073741824) := Lib.hid (by rw [ents_len]; have := HJ.out; have := many_le (xs := xs) hs1; have := HL.out; omega)
        generalize ((partQ S xs j).getD 0 (0, 0)).1 = t0 at *
        generalize ((partQ S xs j).getD p (0, 0)).1 = t1 at *
        obtain ⟨es, HEE⟩ : ∃ es, Hid (entsTo k S xs j = es) := ⟨_, Lib.hid rfl⟩
        rw [HEE.out] at hent2 HEL
        rw [show ad.add (0 * 2) = ad by simp [Addr.add]] at hc0
        have hhp := Lib.hid hp
        clear hgd hp
        go_upto_region 11 with fail
        go_cut [10] (fun x10 wx => x10 = u10 ∧ ∃ lv', BoxT 86 wx g [.int .i64 (k : Int), lv'] ∧ OwnE 103 w wx lv' (entsTo k S xs (j + 1)) ∧ Own w wx u10 (bodyTo k S xs j) ∧ Own w wx (.slice A2 L c2) (sumQ k (partQ S xs j)) ∧ Below w.heap.size w wx)
        case first =>
          obtain ⟨b0, b1⟩ := hbx2.drew_.box.get2
          have hwd : Below w.heap.size w (w2.drew.alloc (.cells #[.int .i64 t0, .int .i64 t1, .int .i64 (q : Int), .int .i64 (L : Int)] 103)) := hbw2.drew.alloc hbw2.drew.size _
          have hbxd := hbx2.drew_.below ((Below.refl w2.drew.heap.size w2.drew).alloc (Nat.le_refl _) (.cells #[.int .i64 t0, .int .i64 t1, .int .i64 (q : Int), .int .i64 (L : Int)] 103))
          obtain ⟨d0, d1⟩ := (hbx2.below ((Below.refl w2.heap.size w2).alloc (Nat.le_refl _) (.cells #[.int .i64 t0, .int .i64 t1, .int .i64 (q : Int), .int .i64 (L : Int)] 103))).box.get2
          have hu := Tryz.underlying84
          have hi := Tryz.infoE
          have hone := RdE.one 103 w2.drew ⟨t0, t1, (q : Int), (L : Int)⟩ hfit
          have hal := hent2.drew.alloc (.cells #[.int .i64 t0, .int .i64 t1, .int .i64 (q : Int), .int .i64 (L : Int)] 103)
          replace hc0 : w2.drew.cell? ad = some (.int .i64 t0) := hc0
          replace hc1 : w2.drew.cell? (ad.add (p * 2)) = some (.int .i64 t1) := hc1
          go_region_law (first
            | (refine step_appE hu hi rfl (.tmp 44) (.tmp 59) rfl rfl rfl hal hone HEL.out ?_; intro v3 w3 hown3 hg3; have hkt := KeepT.of_grown hal hg3; have hbx3 := hbxd.keepT hkt (by decide); obtain ⟨e0, e1⟩ := hbx3.box.get2; obtain ⟨f0, f1⟩ := hbx3.box.free2; obtain ⟨A3, c3, rfl, _⟩ := hown3.form))
          all_goals
            go_wp2_with fail
            go_meet
            rw [List.length_append, List.length_singleton] at hown3
            have hks := KeepT.set hbx3 1 (.slice A3 (es.length + 1) c3)
            have hbn := below_set hown3.bel hg0 1 (.slice A3 (es.length + 1) c3)
            refine ⟨rfl, _, hbx3.put 1 (.slice A3 (es.length + 1) c3), ?_, ?_, ?_, hbn⟩
            · rw [HES.out, HEE.out, HEN.out]
              exact hown3.keepT hks (by decide) hbn
            · exact ((hown2.drew.alloc _).keepT hkt (by decide) hown3.bel).keepT hks (by decide) hbn
            · exact ((hsum.drew.alloc _).keepT hkt (by decide) hown3.bel).keepT hks (by decide) hbn
        case rest =>
          obtain ⟨rfl, lv', hbx5, hent5, hown5, hsum5, hbw5⟩ := hcut
          have hrd5 := hrd2.keep fun p hp => (hbw5.cell hp).trans (hbw2.cell hp).symm
          clear hc0 hc1 hbx2 hent2 hown2 hsum hrd2 hfit hsub
          have HBS : Hid (bodyTo k S xs (j + 1) = bodyTo k S xs j ++ sumQ k (partQ S xs j)) := Lib.hid (body_succ j)
          have HBL : Hid ((bodyTo k S xs j).length + L ≤ 1073741824) := Lib.hid (by
            have h1 := body_len (k := k) (s := S) HA.out (by rw [HL.out]; exact hn) j
            have h2 := HJ.out
            have h3 := many_le (xs := xs) hs1
            have h4 := HL.out
            have h5 := HSL.out
            rw [HL2.out] at h5
            omega)
          go_upto_region 13 with (at_builtin; (refine wpList_appK rfl (.tmp 62) (.tmp 63) rfl rfl rfl hown5 hsum5.rd HBL.out ?_; intro v6 w6 hown6 hk6))
          rw [← HBS.out] at hown6
          have hbx6 := hbx5.keepT hk6.keepT (by decide)
          have hent6 := hent5.keepT hk6.keepT (by decide) hown6.bel
          have hrd6 := hrd5.keep fun p hp => (hown6.bel.cell hp).trans (hbw5.cell hp).symm
          have HQ2 : Hid (q < m → q = S) := Lib.hid (by have := HQ.out; omega)
          have HDN : Hid ((xs.drop (j * S)).drop S = xs.drop ((j + 1) * S)) := Lib.hid drop_next
          have HMJ := Lib.hid (lt_many (s := S) (xs := xs) hs1 (j + 1))
          have HLD : Hid (m = xs.length - j * S) := Lib.hid (by rw [← HDL.out, List.length_drop])
          have HSJ : Hid ((j + 1) * S = j * S + S) := Lib.hid (by rw [Nat.add_mul, Nat.one_mul])
          clear hbx5 hent5 hown5 hsum5 hrd5
          by_cases hqm : q < m
          · have hT := hrd6.cutTail (a := q) (by omega)
            have hqi : (q : Int) < (m : Int) := by omega
            have hqc : q < c' := by omega
            have hqci : (q : Int) < (c' : Int) := by omega
            go_wp2_with fail
            refine ⟨⟨j + 1, _, _, _, _, rfl, by omega, fun _ => HMJ.out.2 (by have h1 := HSJ.out; have h2 := HLD.out; have h3 := HQ2.out hqm; omega), ?_, hown6, hbx6, hent6⟩, by simp [sliceLen]; omega⟩
            rw [← HDN.out, show (xs.drop (j * S)).drop S = (xs.drop (j * S)).drop q by rw [HQ2.out hqm]]
            exact hT
          · obtain rfl : q = m := by omega
            go_wp2_with fail
            refine ⟨⟨j + 1, _, _, _, _, rfl, fun _ => ?_, by omega, RdQ.empty ?_ ?_, hown6, hbx6, hent6⟩, by simp [sliceLen]; omega⟩
            · have h1 := HSJ.out
              have h2 := HLD.out
              have h3 := HJ.out
              rcases Nat.lt_or_ge (j + 1) (manyQ S xs) with h4 | h4
              · have := HMJ.out.1 h4
                omega
              · omega
            · have h1 := HSJ.out
              have h2 := HLD.out
              rw [List.length_drop]
              omega
            · split <;> simp
      · obtain rfl : m = 0 := by omega
        obtain rfl := hj0 rfl
        have HMAY := Lib.hid (block_may (s := S) hk HA.out HR.out (by rw [HL.out]; exact hn) hs1 hs2)
        obtain ⟨b0, b1⟩ := hbx.box.get2
        obtain ⟨Ae, ce, rfl, hre⟩ := hent.form
        have hput := iput_any (k : Int) Ae _ ce _ _ wr hre (Nat.le_refl _) (by rw [ents_len]; have := many_le (xs := xs) hs1; have := HL.out; omega)
        clear hj1 hrd hent hbx
        go_wp2_with fail
        refine hput.mono ?_
        rintro e w6 ⟨hy, _⟩
        obtain ⟨A6, c6, rfl, ho6⟩ := hy HMAY.out
        rw [show ((k : Int)).toNat = k by omega] at ho6 ⊢
        have HBK : Hid (blockB k S xs = idxB k (entsTo k S xs (manyQ S xs)) ++ bodyTo k S xs (manyQ S xs)) := Lib.hid rfl
        have HBL : Hid ((blockB k S xs).length ≤ 700000000) := Lib.hid (block_len HA.out (by rw [HL.out]; exact hn) hs1)
        have hob := ho6.weak hown.bel
        have hbd := hown.keep ho6.bel
        have HBE : Hid (blockE (k : Int) (S : Int) xs 0 = blockB k S xs) := Lib.hid (by unfold blockE; rw [if_pos rfl]; rfl)
        clear hy hput hown ho6 b0 b1 hre
        generalize idxB k (entsTo k S xs (manyQ S xs)) = ib at *
        obtain ⟨bb, HBB⟩ : ∃ bb, Hid (bb = bodyTo k S xs (manyQ S xs)) := ⟨_, Lib.hid rfl⟩
        rw [← HBB.out] at hbd
        obtain ⟨il, hil⟩ : ∃ il, ib.length = il := ⟨_, rfl⟩
        rw [hil] at hob ⊢
        have HIL := Lib.hid hil
        clear hil
        obtain ⟨A8, c8, rfl, hrb⟩ := hbd.form
        have HLL : Hid (ib.length + bb.length ≤ 1073741824) := Lib.hid (by
          have h1 := HBL.out
          rw [HBK.out, ← HBB.out, List.length_append] at h1
          omega)
        go_wp2_with (at_builtin; (refine wpList_app rfl (.tmp 76) (.tmp 77) rfl rfl rfl hob hrb HLL.out ?_; intro v9 w9 hown9))
        rw [HBB.out, ← HBK.out, ← HBE.out] at hown9
        obtain ⟨A9, c9, rfl, _⟩ := hown9.form
        go_ret2
        exact ⟨0, A9, c9, HE.out, rfl, hown9⟩
  · have hev : errV er = .iface 59 (.int .i64 (er : Int)) := by unfold errV; rw [if_neg he]
    have HE := Lib.hid her
    have HN := Lib.hid he
    rw [hev]
    clear her he
    go_wp2
    go_ret2
    exact RetPack.bad HE.out HN.out (by rw [hev]; kernel_rfl) hb1

end Go.Proofs.YtaebljoacffghaaGreatDoor

/-
  The contract of the program's Pack, where nothing is amiss.
-/
namespace Go.Proofs.YtaebljoacffghaaGreatDoor
open Go.RowKit

/-- Pack, where nothing is amiss -/
def RetBlk (w : World) (k S : Nat) (xs : List (Int × Nat)) (e : Ending) (w' : World) : Prop :=
  ∃ A c, e = .returned (.tuple #[.slice A (blockB k S xs).length c, .nilIface]) ∧ Own w w' (.slice A (blockB k S xs).length c) (blockB k S xs)
theorem pack_good (k S : Nat) (z : Int) (hz : z = (S : Int)) (A : Option Addr) (n c : Nat) (xs : List (Int × Nat)) (w : World) (h : RdQ w w.heap.size A n c xs) (hn : n ≤ 5000) (hk : k = 1 ∨ k = 2) (h1 : 1 ≤ S) (h2 : S ≤ 65535) (hr : Rises xs) (hR : RoomW w) (hT : TzW w) :
    Calls Tryz.prog 28 #[.int .i64 (k : Int), .slice A n c, .int .i64 z] w (RetBlk w k S xs) := by
  subst hz
  exact (pack_any (k : Int) (S : Int) A n c xs w h hn hR hT).mono (by
    rintro e w' ⟨er, A', c', her, rfl, ho⟩
    obtain rfl := her.same (.inr ⟨by omega, .inr ⟨k, rfl, hk, .inr ⟨hr, rfl⟩⟩⟩)
    exact ⟨A', c', rfl, ho⟩)

end Go.Proofs.YtaebljoacffghaaGreatDoor
