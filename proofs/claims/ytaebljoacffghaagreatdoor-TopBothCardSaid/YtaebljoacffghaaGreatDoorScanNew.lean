/-
  The contract of layer 18's New once more: the samples that it goes over are new memory.
-/
import Derived.Test.YtaebljoacffghaaGreatDoorScanA
namespace Go.Proofs.YtaebljoacffghaaGreatDoor
open Go.RowKit

/-- an iterator, new, over what bytes mean, in new memory -/
def RetItG (w : World) (r : List (Int × Nat) × Nat) (e : Ending) (w' : World) : Prop :=
  ∃ g A c, e = .returned (.pointer (some ⟨g, 0, none⟩)) ∧ w.heap.size ≤ g ∧ BoxL w' g [.slice A r.1.length c, errV r.2, .int .i64 (-1), .bool false] ∧ RdQ w' g A r.1.length c r.1 ∧ Below w.heap.size w w' ∧ ∀ ad, A = some ad → w.heap.size ≤ ad.block

set_option maxRecDepth 20000 in
set_option maxHeartbeats 2000000 in
theorem sc_newG (A : Option Addr) (n c B : Nat) (bs : List Nat) (w : World) (h : Rd w B A n c bs) (hB : B ≤ w.heap.size) (hb : ∀ u ∈ bs, u < 256) (hn : n ≤ 140737488355328) (hR : RoomW w) (hT : TzW w) :
    Calls Tryz.prog 15 #[.slice A n c] w (RetItG w (wholeF bs)) := by
  have hwd := wdec_any A n c B bs w h hB hb hn hR hT
  clear h hB hb hR hT
  generalize wholeF bs = r at *
  obtain ⟨xs, er⟩ := r
  obtain ⟨N, HXL⟩ : ∃ N, Hid (xs.length = N) := ⟨_, Lib.hid rfl⟩
  unfold RetItG
  unfold RetWh at hwd
  simp only at hwd ⊢
  rw [HXL.out] at hwd ⊢
  have he := isErr_v er
  generalize errV er = ev at *
  have hst := store_err he
  go_enter Tryz.func15, Tryz.ntmps15
  go_wp2_with fail
  refine hwd.mono ?_
  rintro e w1 ⟨A1, c1, rfl, ho1⟩
  have hb1 := ho1.bel
  have hq1 := ho1.rd
  have hp1 := ho1.past
  clear hwd ho1
  go_wp2_with fail
  refine (cur_new A1 N c1 ev w1 he).mono ?_
  rintro e w2 ⟨rfl, hb2⟩
  have hq2 := (hq1.below hb2).more hb2.size
  have hb3 := hb1.trans (hb2.mono hb1.size)
  clear hq1 hb1 hb2
  go_wp2
  go_ret
  exact ⟨_, A1, c1, rfl, hb3.size, BoxL.new_at0 [.slice A1 N c1, ev, .int .i64 (-1), .bool false] 83 rfl, hq2.below (by repeat (first | with_reducible exact Below.refl _ _ | assumption | with_reducible refine Below.drew ?_ | with_reducible refine Below.alloc ?_ (by (first | assumption | omega | (simp; done) | (simp; omega))) _)), hb3.alloc hb3.size _, hp1⟩

end Go.Proofs.YtaebljoacffghaaGreatDoor
