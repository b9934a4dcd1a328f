/-
  The contracts of layer 6's small functions: the table's rows, rowOf, signed; and of the library's Len8, LeadingZeros8.
-/
import Derived.Test.YtnjohmgacmcdnaaDoorDods
import Derived.Handy
namespace Go.Proofs.YtnjohmgacmcdnaaDoor
open Go.RowKit

/-- how many bits a number below 256 has -/
def lenN (x : Nat) : Nat := if x = 0 then 0 else if x < 2 then 1 else if x < 4 then 2 else if x < 8 then 3 else if x < 16 then 4 else if x < 32 then 5 else if x < 64 then 6 else if x < 128 then 7 else 8

set_option maxHeartbeats 400000 in
set_option maxRecDepth 20000 in
theorem len8_any (x : Nat) (w : World) (hx : x < 256) :
    Calls Tryd.prog 85 #[.int .u8 (x : Int)] w fun e w' => e = .returned (.int .i64 ((lenN x : Nat) : Int)) ∧ w = w' := by
  go_enter Tryd.func85, Tryd.ntmps85
  go_wp2
  go_ret
  refine ⟨congrArg (fun z => Ending.returned (Value.int .i64 z)) ?_, rfl⟩
  rename_i h
  clear w
  revert h
  revert x
  decide +kernel

theorem lenN_le (x : Nat) : lenN x ≤ 8 := by
  unfold lenN; split; omega; split; omega; split; omega; split; omega; split; omega; split; omega; split; omega; split <;> omega

set_option maxRecDepth 20000 in
set_option maxHeartbeats 400000 in
theorem lead8_any (x : Nat) (w : World) (hx : x < 256) :
    Calls Tryd.prog 82 #[.int .u8 (x : Int)] w fun e w' => e = .returned (.int .i64 ((8 - lenN x : Nat) : Int)) ∧ w = w' := by
  have h8 := lenN_le x
  go_enter Tryd.func82, Tryd.ntmps82
  go_wp2_with (go_at_call 85; refine (len8_any x _ hx).mono ?_; rintro e w1 ⟨rfl, rfl⟩)
  go_ret
  exact ⟨by go_num, rfl⟩

/-- the table of rows is there: of each number of 1s, of how many bits the head is, and the number behind it -/
structure RowsW (w : World) : Prop where
  size : 1 < w.heap.size
  head : ∀ i, i < 5 → w.cell? ⟨1, i * 2, none⟩ = some (.int .i64 ((headN i : Nat) : Int))
  body : ∀ i, i < 5 → w.cell? ⟨1, i * 2 + 1, none⟩ = some (.int .i64 ((roomN i : Nat) : Int))
theorem RowsW.keep {w w' : World} (h : RowsW w) (hs : w.heap.size ≤ w'.heap.size) (hb : w'.heap[1]? = w.heap[1]?) : RowsW w' :=
  ⟨by have := h.size; omega, fun i hi => (World.cell?_of_block hb).trans (h.head i hi), fun i hi => (World.cell?_of_block hb).trans (h.body i hi)⟩
theorem RowsW.below {w w' : World} {B : Nat} (h : RowsW w) (hb : Below B w w') (hB : 1 < B) : RowsW w' := h.keep hb.size (hb.block 1 hB)
theorem RowsW.bel {w w' : World} (h : RowsW w) (hb : Below w.heap.size w w') : RowsW w' := h.below hb h.size
theorem RowsW.drewN {w : World} (h : RowsW w) (n : Nat) : RowsW (w.drewN n) := ⟨h.size, h.head, h.body⟩

/-- the 8 bits of a number begin with so many 1s -/
theorem ones8 : ∀ x, x < 256 → min (8 - lenN (255 - x)) 4 ≤ 4 ∧ (∀ j, j < min (8 - lenN (255 - x)) 4 → (low x 8).getD j false = true) ∧ (min (8 - lenN (255 - x)) 4 < 4 → (low x 8).getD (min (8 - lenN (255 - x)) 4) false = false) := by
  decide +kernel
theorem ones8_is {x k : Nat} (hx : x < 256) (hk : Ones (low x 8) k) : k = min (8 - lenN (255 - x)) 4 := by
  obtain ⟨h1, h2, h3⟩ := ones8 x hx
  exact hk.same ⟨h1, by rw [low_length]; omega, h2, h3⟩

theorem xor8 : ∀ x : Nat, x < 256 → bits BinOp.xor IntKind.u8 IntKind.u8.max (x : Int) = ((255 - x : Nat) : Int) := by decide +kernel

set_option maxRecDepth 20000 in
set_option maxHeartbeats 400000 in
theorem rowof_any (x k : Nat) (w : World) (hx : x < 256) (hk : Ones (low x 8) k) (hR : RowsW w) :
    Calls Tryd.prog 70 #[.int .u8 (x : Int)] w fun e w' => e = .returned (.agg #[.int .i64 ((headN k : Nat) : Int), .int .i64 ((roomN k : Nat) : Int)]) ∧ Below w.heap.size w w' := by
  have hk4 := hk.le4
  have HK := Lib.hid (ones8_is hx hk)
  clear hk
  have hR1 : RowsW (w.alloc (.cells #[.int .i64 0, .int .i64 0] 131)) := hR.bel ((Below.refl _ _).alloc (Nat.le_refl _) _)
  obtain ⟨n, HN⟩ : ∃ n, Hid (8 - lenN (255 - x) = n) := ⟨_, Lib.hid rfl⟩
  go_enter Tryd.func70, Tryd.ntmps70
  go_wp2_with fail
  rw [xor8 x hx]
  refine (lead8_any (255 - x) _ (by omega)).mono ?_
  rintro e w1 ⟨rfl, rfl⟩
  rw [HN.out]
  have hn : min n 4 = k := by rw [HK.out, HN.out]
  clear HN HK
  by_cases h4 : n ≤ 4
  · obtain rfl : n = k := by omega
    have hc0 := hR1.head n (by omega)
    have hc1 := hR1.body n (by omega)
    go_wp2
    go_returns
    exact ⟨rfl, (Below.refl _ _).alloc (Nat.le_refl _) _⟩
  · obtain rfl : 4 = k := by omega
    have hc0 : (w.alloc (.cells #[.int .i64 0, .int .i64 0] 131)).cell? ⟨1, 8, none⟩ = some (.int .i64 4) := hR1.head 4 (by omega)
    have hc1 : (w.alloc (.cells #[.int .i64 0, .int .i64 0] 131)).cell? ⟨1, 9, none⟩ = some (.int .i64 64) := hR1.body 4 (by omega)
    go_wp2
    go_returns
    exact ⟨rfl, (Below.refl _ _).alloc (Nat.le_refl _) _⟩

theorem tsigned_any (x k : Nat) (w : World) (hx : x ≤ 18446744073709551615) (hk : k ≤ 4) :
    Calls Tryd.prog 72 #[.int .u64 (x : Int), .int .i64 ((roomN k : Nat) : Int)] w fun e w' => e = .returned (.int .i64 (sgnN x (roomN k))) ∧ w = w' := by
  rcases room_cases hk with ⟨rfl, h1, _⟩ | ⟨rfl, h1, _⟩ | ⟨rfl, h1, _⟩ | ⟨rfl, h1, _⟩ | ⟨rfl, h1, _⟩ <;> rw [h1]
  · go_enter Tryd.func72, Tryd.ntmps72
    go_wp2
    go_ret
    rw [← sg_0]
    exact ⟨rfl, rfl⟩
  · go_enter Tryd.func72, Tryd.ntmps72
    go_wp2
    go_ret
    rw [← sg_7]
    exact ⟨rfl, rfl⟩
  · go_enter Tryd.func72, Tryd.ntmps72
    go_wp2
    go_ret
    rw [← sg_9]
    exact ⟨rfl, rfl⟩
  · go_enter Tryd.func72, Tryd.ntmps72
    go_wp2
    go_ret
    rw [← sg_12]
    exact ⟨rfl, rfl⟩
  · go_enter Tryd.func72, Tryd.ntmps72
    go_wp2
    go_ret
    rw [← sg_64]
    exact ⟨rfl, rfl⟩

end Go.Proofs.YtnjohmgacmcdnaaDoor
