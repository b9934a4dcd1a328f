/-
  Texts of this proof, one behind the other: ChunkUp, ChunkTells, ChunkTellsProof.
-/
import Derived.Test.YtldodfdbaonmkaaDoorZRefChunk
import Derived.Test.YtldodfdbaonmkaaDoorOwnQ
import Derived.Test.YtldodfdbaonmkaaDoorCode
import Derived.Test.YtldodfdbaonmkaaDoorLaw
import Derived.Test.YtldodfdbaonmkaaDoorZKinLaid
import Derived.Test.YtldodfdbaonmkaaDoorCards
import Derived.Test.YtldodfdbaonmkaaDoorTie
import Derived.Lib.SmallJoins

/-
  The example at the head of layer 9's laws.
-/
namespace Go.Proofs.YtldodfdbaonmkaaDoor
open Go.RowKit

theorem up9_rises : EncE 2 [((1 : Int), 258)] 0 := .inr ⟨by simp, .inr ⟨2, rfl, .inr rfl, .inr ⟨fun i h => absurd h (by simp), rfl⟩⟩⟩
theorem up9_bytes : pack (encP 2 [((1 : Int), 258)] 0) = [0, 0, 0, 0, 0, 0, 0, 1, 0, 0, 0, 0, 0, 0, 1, 2] := by decide +kernel

set_option maxRecDepth 20000 in
set_option maxHeartbeats 2000000 in
theorem up9_any (w : World) (hR : RoomW w) (hT : TzW w) : Calls Tryd.prog 5 #[] w fun e w' => e = .returned (.bool true) ∧ Below w.heap.size w w' := by
  have hb1 : Below w.heap.size w (w.alloc (.cells #[.int .i64 1, .int .u64 258] 38)) := by repeat (first | with_reducible exact Below.refl _ _ | with_reducible assumption | with_reducible refine Below.drew ?_ | with_reducible refine below_drewN ?_ _ | with_reducible refine Below.alloc ?_ (by (first | assumption | omega | (simp; done) | (simp; omega))) _ | with_reducible refine below_set ?_ (by (first | assumption | omega | (simp; done) | (simp; omega))) _ _)
  have hr1 := RdQ.one w ((1 : Int), 258) ⟨by simp, by simp, by simp⟩
  have hs1 : (w.alloc (.cells #[.int .i64 1, .int .u64 258] 38)).heap.size = w.heap.size + 1 := by simp
  have hE := encode_any (some ⟨w.heap.size, 0, none⟩) 1 1 2 [((1 : Int), 258)] (w.alloc (.cells #[.int .i64 1, .int .u64 258] 38)) (by rw [hs1]; exact hr1) (by omega) (hR.bel hb1) (hT.bel hb1)
  have hE0 := fun X (hX : Below w.heap.size w X) => encode_any none 0 0 1 [] X ⟨rfl, Nat.le_refl _, fun _ => rfl, fun h => absurd h (by omega), by simp⟩ (by omega) (hR.bel hX) (hT.bel hX)
  clear hr1 hs1
  go_enter Tryd.func5, Tryd.ntmps5
  go_wp2_with fail
  refine hE.mono ?_
  rintro e w1 ⟨er, A1, c1, her, rfl, ho1⟩
  obtain rfl := her.same up9_rises
  rw [up9_bytes] at ho1 ⊢
  rw [show errV 0 = .nilIface from rfl]
  clear hE her
  replace hb1 := hb1.trans (ho1.bel.mono hb1.size)
  have hr1 := ho1.rd
  clear ho1
  go_wp2_with fail
  refine (hE0 _ hb1).mono ?_
  rintro e w2 ⟨er, A2, c2, her, rfl, ho2⟩
  obtain rfl := her.same (.inl ⟨rfl, rfl⟩ : EncE 1 [] 1)
  replace hr1 := hr1.below ho2.bel
  replace hb1 := hb1.trans (ho2.bel.mono hb1.size)
  clear hE0 her ho2
  obtain ⟨ad, rfl, hbl, hc7⟩ := hr1.at_ (k := 7) (by simp)
  obtain ⟨ad', e', _, hc14⟩ := hr1.at_ (k := 14) (by simp)
  injection e' with e'
  subst e'
  replace hc7 : w2.cell? (ad.add 7) = some (.int .u8 1) := hc7
  replace hc14 : w2.cell? (ad.add 14) = some (.int .u8 1) := hc14
  have he1 : errV 1 = .iface 39 (.int .i64 1) := rfl
  rw [he1]
  clear he1
  have a7 : ad.add 7 = ⟨ad.block, ad.off + 7, none⟩ := by unfold Addr.add; rw [if_neg (by omega)]
  have a14 : ad.add 14 = ⟨ad.block, ad.off + 14, none⟩ := by unfold Addr.add; rw [if_neg (by omega)]
  rw [a7] at hc7
  rw [a14] at hc14
  clear a7 a14
  go_wp2_with (go_at_call 8; refine (code_some 1 _ (by omega) (by omega)).mono ?_; rintro e w3 ⟨rfl, rfl⟩)
  go_ret
  exact ⟨rfl, hb1⟩

end Go.Proofs.YtldodfdbaonmkaaDoor

/-
  ChunkTells, walked: it returns true, whatever the arguments.
-/
namespace Go.Proofs.YtldodfdbaonmkaaDoor
open Go.RowKit

set_option maxRecDepth 20000 in
set_option maxHeartbeats 1000000 in
theorem ctells_big (A : Option Addr) (m c : Nat) (z : Int) (w : World) (_hl : m ≤ 9223372036854775807) (h : 100 < m) (hR : RoomW w) (hT : TzW w) :
    Calls Tryd.prog 3 #[.int .i64 z, .slice A m c] w (RetTrue w) := by
  go_enter Tryd.func3, Tryd.ntmps3
  go_wp2_with (go_at_call 5; refine (up9_any _ hR hT).mono ?_; rintro e w1 ⟨rfl, hb1⟩)
  go_ret
  exact ⟨rfl, hb1⟩

set_option maxRecDepth 20000 in
set_option maxHeartbeats 4000000 in
theorem ctells_in (A : Option Addr) (m c : Nat) (z : Int) (xs : List (Int × Nat)) (w : World) (h1 : RdQ w w.heap.size A m c xs) (hm : m ≤ 100) (hR : RoomW w) (hT : TzW w) :
    Calls Tryd.prog 3 #[.int .i64 z, .slice A m c] w (RetTrue w) := by
  go_enter Tryd.func3, Tryd.ntmps3
  go_wp2_with fail
  refine (up9_any w hR hT).mono ?_
  rintro e w1 ⟨rfl, hb1⟩
  go_wp2_with fail
  refine (encode_any A m c z xs w1 ((h1.below hb1).more hb1.size) hm (hR.bel hb1) (hT.bel hb1)).mono ?_
  rintro e w2 ⟨er, A2, c2, her, rfl, ho2⟩
  have hb2 := hb1.trans (ho2.bel.mono hb1.size)
  have hr2 := ho2.rd
  clear ho2 hb1
  go_wp2_with fail
  refine (rencode_any A m c z xs w2 ((h1.below hb2).more hb2.size) hm).mono ?_
  rintro e w3 ⟨er', A3, c3, her', rfl, ho3⟩
  obtain rfl := her.same her'
  have hb3 := hb2.trans (ho3.bel.mono hb2.size)
  have hr3 := ho3.rd
  replace hr2 := hr2.below ho3.bel
  have he6 := her.le
  clear ho3 hb2 her her' h1
  generalize pack (encP z xs er) = bl at *
  obtain ⟨L, HL⟩ : ∃ L, Hid (bl.length = L) := ⟨_, Lib.hid rfl⟩
  rw [HL.out] at hr2 hr3 ⊢
  have hq2 := run_str hr2
  have hq3 := run_str hr3
  have hC := code_any er w3 (by omega)
  clear hr2 hr3
  go_wp2_with (go_at_call 8; refine hC.mono ?_; rintro e w4 ⟨rfl, rfl⟩)
  go_ret
  exact ⟨rfl, hb3⟩

end Go.Proofs.YtldodfdbaonmkaaDoor

/-
  What is proved: for every input the law ChunkTells returns true, and each argument reads afterwards as it read before; the packages' tables read as the program's text lays them. No condition.
-/
namespace Go.Proofs.YtldodfdbaonmkaaDoor
open Go.ChangeShapes Go.WideShapes Go.ChangeAt Go.RowKit

theorem ctells_all (A1 : Option Addr) (m1 c1 : Nat) (z : Int) (xs : List (Int × Nat)) (w : World) (h1 : RdQ w w.heap.size A1 m1 c1 xs) (hm1 : m1 ≤ 9223372036854775807) (hR : RoomW w) (hT : TzW w) :
    Calls Tryd.prog 3 #[.int .i64 z, .slice A1 m1 c1] w (RetTrue w) := by
  by_cases h : 100 < m1
  · exact ctells_big A1 m1 c1 z w hm1 h hR hT
  · exact ctells_in A1 m1 c1 z xs w h1 (by omega) hR hT

set_option maxRecDepth 100000 in
theorem ctells_lifted (os : Os) (started : os.Started) (H : Type) (enc : TypeId × Value → H) :
    ReturnsInHanded {} Tryd.checked os 3 .any (fun w args => (Rows.chunkTellsSpec.pre enc Tryd.prog Tryd.f3 [] false w args ∧ laidMetH Tryd.prog laid8 w) ∧ sizedMet enc Tryd.prog Tryd.f3 (OpenSpec.ofChange Rows.chunkTellsSpec) false w args)
      (Rows.chunkTellsSpec.post enc Tryd.prog Tryd.f3 false true false false) := by
  refine returnsInHanded_of_change_and (C := Tryd.checked) (X := fun w _ => laidMetH Tryd.prog laid8 w) (fun _ _ _ hh h => h.of_heap hh) Tryd.own started (by kernel_rfl) Tryd.func3
    (ChangeSpec.witness_shaped (enc := enc) (C := Tryd.checked) (os := os) (X := fun w _ => laidMetH Tryd.prog laid8 w) false (World.doorLaid Tryd.prog 19 os) #[.int .i64 0, .slice none 0 0] 8 rfl (World.shaped_of_RefB (by kernel_rfl) (by kernel_rfl)) (by kernel_rfl) (by kernel_rfl) (by kernel_rfl) (door8_met os _)) ?_
  intro W base args ds gs before hval0 hW _ _ hL _
  have hval : ∀ (j : Nat) t v, Tryd.f3.params[j]? = some t → args[j]? = some v → Value.okWide Tryd.prog W .any base t v := hval0
  have hW' := hW
  obtain ⟨p, q, hA0, hV, rfl, hfz, hnd⟩ := hW
  have hA : DataW.TrodAll enc Tryd.prog W 0 (fun _ => true) true Tryd.f3.params.toList args.toList ds p := hA0
  rw [Tryd.params3] at hA hval
  obtain ⟨v0, vs0, d0, ds0, p0, q0, hargs, rfl, rfl, h0, r0⟩ := trodAll_cons hA
  obtain ⟨v1, vs1, d1, ds1, p1, q1, rfl, rfl, rfl, h1, r1⟩ := trodAll_cons r0
  obtain ⟨rfl, rfl, rfl⟩ := trodAll_nil r1
  obtain rfl : args = #[v0, v1] := by cases args; simp_all
  obtain ⟨a0, rfl, rfl, rfl, w0⟩ := open_int Tryd.underlying3 (hval 0 3 v0 rfl rfl) h0
  obtain ⟨A1, n1, c1, x1, rfl, hr1, hl1⟩ := open_samples (hval 1 22 v1 rfl rfl) h1
  exact (ctells_all A1 n1 c1 a0 x1 W hr1 hl1 (room_laid hL) (tz_laid hL)).mono
    fun e W' h => law_post (s := Rows.chunkTellsSpec) rfl (by kernel_rfl) rfl (by kernel_rfl) hW' h

theorem ctells_holds : Rows.ChunkTellsSaid :=
  OpenClaim.holds_of_wide 3 Tryd.f3 rfl rfl rfl rfl rfl rfl rfl ⟨rfl, rfl, rfl, rfl, rfl⟩ rfl rfl rfl rfl rfl (by kernel_rfl) Tryd.func3 (by kernel_rfl)
    (of_decide_eq_true (by kernel_rfl)) (by unfold Func.isWrapper; first | (rw [if_pos (by decide +kernel)]; kernel_rfl) | (rw [if_neg (by decide +kernel)]; exact ⟨rfl, rfl⟩))
    (fun os started H enc _ => ctells_lifted os started H enc)

theorem ctells_card : Rows.ChunkTellsCardSaid :=
  Claim7.holds_tied_plain_at .later [] [.data, .data] true Rows.chunkTellsCard.stood.harness true
    ctells_holds (fun _ h => by cases h) (by kernel_rfl) (fun _ h => by cases h) chunkTells_row_tie rfl ⟨rfl, rfl⟩ (by kernel_rfl) rfl
    (fun f fn hf hfn => by
      obtain rfl : f = 3 := Option.some.inj ((show Tryd.prog.funcNamed "gaiter/gaiterlaw09.ChunkTells" = some 3 by kernel_rfl).symm.trans hf) |>.symm
      obtain rfl : fn = Tryd.f3 := (Option.some.inj (Tryd.func3.symm.trans hfn)).symm
      exact ⟨by kernel_rfl, fun j t ht => by
        have hall : (Tryd.f3.params.toList.all fun u => !Tryd.prog.wantsStandIn u) = true := by kernel_rfl
        have hm : t ∈ Tryd.f3.params.toList := by simpa using Array.mem_of_getElem? ht
        exact (show Tryd.prog.wantsStandIn t = false by simpa using List.all_eq_true.1 hall t hm)⟩)
    (by kernel_rfl)

end Go.Proofs.YtldodfdbaonmkaaDoor
