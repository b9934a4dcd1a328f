/-
  The contract of layer 6's Table: 256 rows, in new memory.
-/
import Derived.Test.YtgjmdoaadiipmaaDoorTab
namespace Go.Proofs.YtgjmdoaadiipmaaDoor
open Go.RowKit

/-- with how many 1s the 8 bits of a number begin, up to four -/
def ones8N (x : Nat) : Nat := min (8 - lenN (255 - x)) 4
theorem ones8N_ones {x : Nat} (hx : x < 256) : Ones (low x 8) (ones8N x) := by
  obtain ⟨h1, h2, h3⟩ := ones8 x hx
  exact ⟨h1, by rw [low_length]; unfold ones8N; omega, h2, h3⟩

/-- block g holds 256 rows; the first k of them are laid, the others are zero -/
structure TabAt (w0 w : World) (g k : Nat) : Prop where
  bel : Below w0.heap.size w0 w
  from_ : w0.heap.size ≤ g
  lt : g < w.heap.size
  head : ∀ i, i < 256 → w.cell? ⟨g, i * 2, none⟩ = some (.int .i64 ((if i < k then headN (ones8N i) else 0 : Nat) : Int))
  body : ∀ i, i < 256 → w.cell? ⟨g, i * 2 + 1, none⟩ = some (.int .i64 ((if i < k then roomN (ones8N i) else 0 : Nat) : Int))
  free : ∀ i, w.frozen? ⟨g, i, none⟩ = false
theorem TabAt.more {w0 w w' : World} {g k : Nat} (h : TabAt w0 w g k) (hb : Below w.heap.size w w') : TabAt w0 w' g k :=
  ⟨h.bel.trans (hb.mono h.bel.size), h.from_, Nat.lt_of_lt_of_le h.lt hb.size, fun i hi => (hb.cell (p := ⟨g, i * 2, none⟩) h.lt).trans (h.head i hi), fun i hi => (hb.cell (p := ⟨g, i * 2 + 1, none⟩) h.lt).trans (h.body i hi), fun i => (hb.frozen (p := ⟨g, i, none⟩) h.lt).trans (h.free i)⟩
theorem addr_ne {g i j : Nat} (h : i ≠ j) : (⟨g, i, none⟩ : Addr) ≠ ⟨g, j, none⟩ := fun e => h (by injection e)
/-- a row more -/
theorem TabAt.set {w0 w : World} {g k : Nat} (h : TabAt w0 w g k) (hk : k < 256) :
    TabAt w0 ((w.setCell ⟨g, k * 2, none⟩ (.int .i64 ((headN (ones8N k) : Nat) : Int))).setCell ⟨g, k * 2 + 1, none⟩ (.int .i64 ((roomN (ones8N k) : Nat) : Int))) g (k + 1) := by
  refine ⟨(h.bel.setCell h.from_ _).setCell h.from_ _, h.from_, by simpa [World.setCell] using h.lt, fun i hi => ?_, fun i hi => ?_, fun i => ?_⟩
  · rw [World.cell?_setCell_other _ _ _ _ (addr_ne (by omega))]
    by_cases e : i = k
    · subst e
      rw [World.cell?_setCell_same _ _ _ (h.head i hi), if_pos (by omega)]
    · rw [World.cell?_setCell_other _ _ _ _ (addr_ne (by omega)), h.head i hi]
      have : (i < k + 1) ↔ (i < k) := by omega
      simp only [this]
  · by_cases e : i = k
    · subst e
      have h1 : (w.setCell ⟨g, i * 2, none⟩ (.int .i64 ((headN (ones8N i) : Nat) : Int))).cell? ⟨g, i * 2 + 1, none⟩ = some (.int .i64 ((if i < i then roomN (ones8N i) else 0 : Nat) : Int)) := by
        rw [World.cell?_setCell_other _ _ _ _ (addr_ne (by omega)), h.body i hi]
      rw [World.cell?_setCell_same _ _ _ h1, if_pos (by omega)]
    · rw [World.cell?_setCell_other _ _ _ _ (addr_ne (by omega)), World.cell?_setCell_other _ _ _ _ (addr_ne (by omega)), h.body i hi]
      have : (i < k + 1) ↔ (i < k) := by omega
      simp only [this]
  · rw [World.frozen?_setCell, World.frozen?_setCell]
    exact h.free i

theorem Tryd.infoRow : (Tryd.prog.info? 30).map (fun i => (i.zero, i.size, i.bytes)) = some (some (.agg #[.int .i64 0, .int .i64 0]), 2, 16) := by kernel_rfl

theorem made_row (n i : Nat) (hi : i < n) : (madeCells (Value.agg #[.int .i64 0, .int .i64 0]).cells n).toList[i]? = some (.int .i64 0) := by
  have h : (madeCells (Value.agg #[.int .i64 0, .int .i64 0]).cells n).toList[i]? = some ((Value.agg #[.int .i64 0, .int .i64 0]).cells[i % 2]!) := by
    simp [madeCells, hi]
    rfl
  rw [h]
  rcases (by omega : i % 2 = 0 ∨ i % 2 = 1) with e | e <;> rw [e] <;> rfl
/-- as it was made -/
theorem TabAt.made {w w1 : World} {g : Nat} (hown : w1.ownsRow w.heap.size 30 2 (.slice (some ⟨g, 0, none⟩) 256 256) 256 (madeCells (Value.agg #[.int .i64 0, .int .i64 0]).cells (256 * 2)).toList) (hg : w.grownBy w1 none) (hgs : w.heap.size ≤ g) : TabAt w w1 g 0 := by
  have hc := fun j (hj : j < 512) => hown.cells (g := g) rfl j (.int .i64 0) (made_row (256 * 2) j (by omega))
  have h0 := hc 0 (by omega)
  refine ⟨(Below.refl _ _).grown hg (Nat.le_refl _) (fun k hk => by cases hk), hgs, World.block_lt_of_cell? w1 _ h0, fun i hi => ?_, fun i hi => ?_, fun i => hown.frozenAt i⟩
  · have := hc (i * 2) (by omega)
    rw [show ((⟨g, 0, none⟩ : Addr).add (i * 2)) = ⟨g, i * 2, none⟩ by simp [Addr.add]; intro h; rw [h]] at this
    simpa using this
  · have := hc (i * 2 + 1) (by omega)
    simpa [Addr.add] using this

/-- what Table comes to -/
def RetTab (w : World) (e : Ending) (w' : World) : Prop := ∃ g, e = .returned (.slice (some ⟨g, 0, none⟩) 256 256) ∧ TabAt w w' g 256

set_option maxRecDepth 20000 in
set_option maxHeartbeats 1000000 in
theorem table_any (w : World) (hT : RowsW w) : Calls Tryd.prog 6 #[] w (RetTab w) := by
  obtain ⟨i0, hi, hz0, hz1, hz2⟩ := info_parts Tryd.infoRow
  go_enter Tryd.func6, Tryd.ntmps6
  go_wp2_with (at_make; (refine wpList_make_full w rfl _ _ _ rfl w.heap.size 30 i0 _ 2 Tryd.underlying24 hi hz0 hz1 .i64 .i64 256 256 256 rfl rfl rfl rfl (by rw [hz2]; omega) (by unfold maxLen; omega) (Nat.le_refl _) ?_; intro w1 hown hgrow))
  have hat := TabAt.made hown hgrow (Nat.le_refl _)
  clear hown hgrow hi hz0 hz1 hz2
  obtain ⟨g, HG⟩ : ∃ g, Hid (w.heap.size = g) := ⟨_, Lib.hid rfl⟩
  rw [HG.out] at hat ⊢
  clear i0
  go_loopw [6] (fun i wr => ∃ k : Nat, k ≤ 256 ∧ i = .int .i64 (k : Int) ∧ TabAt w wr g k) (fun i _ => 256 - (intOf i).toNat)
  case atStart => exact ⟨0, by omega, rfl, hat⟩
  case round =>
    clear hat
    obtain ⟨k, hk, rfl, hat⟩ := hrel
    by_cases hlt : k < 256
    · have hTw := hT.bel hat.bel
      go_wp2_with fail
      refine (rowof_any k (ones8N k) wr hlt (ones8N_ones hlt) hTw).mono ?_
      rintro e w2 ⟨rfl, hb2⟩
      have hat2 := hat.more hb2
      clear hat hTw hb2
      have hc0 := hat2.head k hlt
      have hc1 := hat2.body k hlt
      have hf0 := hat2.free (k * 2)
      have hf1 := hat2.free (k * 2 + 1)
      have hset := hat2.set hlt
      go_wp2
      go_roundw
      case rel => exact ⟨k + 1, by omega, by go_num, hset⟩
      case measure => simp [intOf]; omega
    · have hat2 : TabAt w wr g 256 := (show k = 256 by omega) ▸ hat
      clear hat
      go_wp2
      go_ret
      exact ⟨g, rfl, hat2⟩

end Go.Proofs.YtgjmdoaadiipmaaDoor
