/-
  Texts of this proof, one behind the other: RefCurG, JmpRef.
-/
import Derived.Test.YtkjkdiijlgoagaaGreatDoorCurA
import Derived.Test.YtkjkdiijlgoagaaGreatDoorFillA
import Derived.Test.YtkjkdiijlgoagaaGreatDoorJmpA
import Derived.Test.YtkjkdiijlgoagaaGreatDoorWhoR
import Derived.Test.YtkjkdiijlgoagaaGreatDoorIdxR
import Derived.Test.YtkjkdiijlgoagaaGreatDoorCode
import Derived.Deep.DeepCutAuto
import Derived.Deep.RegionHeld3

/-
  The contracts of the reference's cursor, behind which its own box alone has turned.
-/
namespace Go.Proofs.YtkjkdiijlgoagaaGreatDoor
open Go.RowKit

/-- the reference's cursor behind a step: its box alone has turned -/
def RetRCurG (w : World) (g : Nat) (A : Option Addr) (n c : Nat) (bad : Int) (R : Bool → Int → Prop) (e : Ending) (w' : World) : Prop :=
  ∃ ok a', e = .returned (.bool ok) ∧ R ok a' ∧ BoxL w' g [.slice A n c, .int .i64 bad, .int .i64 a', .bool (!ok)] ∧ Below g w w' ∧ w.grownBy w' (some g)
theorem only_drawn (w : World) (g q j : Nat) (u : Value) : w.grownBy ((w.drewN q).setCell ⟨g, j, none⟩ u) (some g) := (only_drewN (World.grownBy.refl w _) q).trans (only_set _ _ _ _)

set_option maxRecDepth 20000 in
set_option maxHeartbeats 2000000 in
theorem rcur_nextG (g : Nat) (A : Option Addr) (n c : Nat) (bad a : Int) (d : Bool) (w : World) (h : BoxL w g [.slice A n c, .int .i64 bad, .int .i64 a, .bool d]) (ha : StandsAt n a) (hn : n ≤ 100000) :
    Calls Tryz.prog 20 #[.pointer (some ⟨g, 0, none⟩)] w (RetRCurG w g A n c bad (NextR n a d)) := by
  have hg := h.lt
  have hgg : Below g w w := Below.refl _ _
  have hw : IntKind.i64.wrap (a + 1) = a + 1 := IntWalk.i64_in _ (by unfold StandsAt at ha; omega)
  have HA := Lib.hid ha
  clear ha
  obtain ⟨u0, u1, u2, u3⟩ := h.get4c
  obtain ⟨f0, f1, f2, f3⟩ := h.free4c
  go_enter Tryz.func20, Tryz.ntmps20
  cases d
  · by_cases hl : a + 1 < (n : Int)
    · have hl2 : ¬ (n : Int) ≤ a + 1 := by omega
      go_upto_region 1 with fail
      go_quiet (fail)
      go_wp2
      go_ret
      exact ⟨true, a + 1, rfl, .inl ⟨rfl, hl, rfl, rfl⟩, (h.drewN _).put 2 (.int .i64 (a + 1)), below_set (below_drewN hgg _) (Nat.le_refl _) _ _, only_drawn _ _ _ _ _⟩
    · have hl2 : (n : Int) ≤ a + 1 := by omega
      have hl3 : a + 1 = (n : Int) := by have := HA.out; unfold StandsAt at this; omega
      have HL3 := Lib.hid hl3
      clear hl3
      go_upto_region 1 with fail
      go_quiet (fail)
      go_wp2
      go_ret
      exact ⟨false, a, rfl, .inr ⟨.inr HL3.out, rfl, rfl⟩, (h.drewN _).put 3 (.bool true), below_set (below_drewN hgg _) (Nat.le_refl _) _ _, only_drawn _ _ _ _ _⟩
  · go_upto_region 1 with fail
    go_quiet (fail)
    go_wp2
    go_ret
    exact ⟨false, a, rfl, .inr ⟨.inl rfl, rfl, rfl⟩, (h.drewN _).put 3 (.bool true), below_set (below_drewN hgg _) (Nat.le_refl _) _ _, only_drawn _ _ _ _ _⟩

set_option maxRecDepth 20000 in
set_option maxHeartbeats 2000000 in
theorem rcur_seekG (g B : Nat) (A : Option Addr) (n c : Nat) (xs : List (Int × Nat)) (bad a t : Int) (d : Bool) (w : World) (h : BoxL w g [.slice A n c, .int .i64 bad, .int .i64 a, .bool d]) (ha : StandsAt n a) (hn : n ≤ 100000) (hx : RdQ w B A n c xs) :
    Calls Tryz.prog 18 #[.pointer (some ⟨g, 0, none⟩), .int .i64 t] w (RetRCurG w g A n c bad (SeekR xs t a d)) := by
  have hg := h.lt
  have hgg : Below g w w := Below.refl _ _
  have HL := Lib.hid hx.len
  obtain ⟨u0, u1, u2, u3⟩ := h.get4c
  obtain ⟨f0, f1, f2, f3⟩ := h.free4c
  cases d
  · by_cases ha1 : a = -1
    · subst ha1
      go_enter Tryz.func18, Tryz.ntmps18
      go_wp2_with fail
      go_loopw [5] (fun s5 wr => ∃ k : Nat, s5 = .int .i64 k ∧ 0 ≤ k ∧ k ≤ n ∧ (∃ q, wr = w.drewN q) ∧ Hid (∀ i, 0 ≤ i → i < k → (xs.getD i (0, 0)).1 < t)) (fun s5 _ => n - (intOf s5).toNat)
      case atStart => exact ⟨0, rfl, Nat.le_refl _, Nat.zero_le _, ⟨0, rfl⟩, Lib.hid fun i h1 h2 => absurd h2 (by omega)⟩
      case round =>
        obtain ⟨k, rfl, h1, h2, ⟨q, rfl⟩, HI⟩ := hrel
        by_cases hlt : k < n
        · obtain ⟨ad, rfl, hbl, hc0, hc1⟩ := hx.at_ hlt
          clear hc1
          obtain ⟨x, hx1⟩ : ∃ x, (xs.getD k (0, 0)).1 = x := ⟨_, rfl⟩
          rw [hx1] at hc0
          have HX := Lib.hid hx1
          clear hx1
          have hki : (k : Int) < (n : Int) := by omega
          have hkn : ¬ (n : Int) ≤ (k : Int) := by omega
          by_cases hxt : x < t
          · go_wp2
            go_roundw
            case rel => exact ⟨k + 1, by go_num, by omega, by omega, ⟨q, rfl⟩, Lib.hid fun i h3 h4 => (by
              by_cases e : i = k
              · rw [e, HX.out]; exact hxt
              · exact HI.out i h3 (by omega))⟩
            case measure => simp [intOf]; omega
          · have HS : Hid (Sought xs t 0 k) := Lib.hid ⟨h1, by rw [HL.out]; exact h2, HI.out, fun _ => by rw [HX.out]; omega⟩
            go_wp2
            go_ret
            exact ⟨true, k, rfl, .inr ⟨rfl, k, HS.out, .inl ⟨by rw [HL.out]; exact hlt, rfl, rfl⟩⟩, (h.drewN q).put 2 (.int .i64 (k : Int)), below_set (below_drewN hgg _) (Nat.le_refl _) _ _, only_drawn _ _ _ _ _⟩
        · obtain rfl : k = n := by omega
          have HS : Hid (Sought xs t 0 k) := Lib.hid ⟨h1, by rw [HL.out]; exact h2, HI.out, fun h => absurd h (by rw [HL.out]; omega)⟩
          go_wp2
          go_ret
          exact ⟨false, -1, rfl, .inr ⟨rfl, k, HS.out, .inr ⟨HL.out.symm, rfl, rfl⟩⟩, (h.drewN q).put 3 (.bool true), below_set (below_drewN hgg _) (Nat.le_refl _) _ _, only_drawn _ _ _ _ _⟩
    · obtain ⟨f, rfl⟩ := Int.eq_ofNat_of_zero_le (a := a) (by unfold StandsAt at ha; omega)
      have hf : f < n := by unfold StandsAt at ha; omega
      go_enter Tryz.func18, Tryz.ntmps18
      go_wp2_with fail
      go_loopw [5] (fun s5 wr => ∃ k : Nat, s5 = .int .i64 k ∧ f ≤ k ∧ k ≤ n ∧ (∃ q, wr = w.drewN q) ∧ Hid (∀ i, f ≤ i → i < k → (xs.getD i (0, 0)).1 < t)) (fun s5 _ => n - (intOf s5).toNat)
      case atStart => exact ⟨f, rfl, Nat.le_refl _, Nat.le_of_lt hf, ⟨0, rfl⟩, Lib.hid fun i h1 h2 => absurd h2 (by omega)⟩
      case round =>
        obtain ⟨k, rfl, h1, h2, ⟨q, rfl⟩, HI⟩ := hrel
        by_cases hlt : k < n
        · obtain ⟨ad, rfl, hbl, hc0, hc1⟩ := hx.at_ hlt
          clear hc1
          obtain ⟨x, hx1⟩ : ∃ x, (xs.getD k (0, 0)).1 = x := ⟨_, rfl⟩
          rw [hx1] at hc0
          have HX := Lib.hid hx1
          clear hx1
          have hki : (k : Int) < (n : Int) := by omega
          have hkn : ¬ (n : Int) ≤ (k : Int) := by omega
          by_cases hxt : x < t
          · go_wp2
            go_roundw
            case rel => exact ⟨k + 1, by go_num, by omega, by omega, ⟨q, rfl⟩, Lib.hid fun i h3 h4 => (by
              by_cases e : i = k
              · rw [e, HX.out]; exact hxt
              · exact HI.out i h3 (by omega))⟩
            case measure => simp [intOf]; omega
          · have HS : Hid (Sought xs t f k) := Lib.hid ⟨h1, by rw [HL.out]; exact h2, HI.out, fun _ => by rw [HX.out]; omega⟩
            go_wp2
            go_ret
            exact ⟨true, k, rfl, .inr ⟨rfl, k, HS.out, .inl ⟨by rw [HL.out]; exact hlt, rfl, rfl⟩⟩, (h.drewN q).put 2 (.int .i64 (k : Int)), below_set (below_drewN hgg _) (Nat.le_refl _) _ _, only_drawn _ _ _ _ _⟩
        · obtain rfl : k = n := by omega
          have HS : Hid (Sought xs t f k) := Lib.hid ⟨h1, by rw [HL.out]; exact h2, HI.out, fun h => absurd h (by rw [HL.out]; omega)⟩
          go_wp2
          go_ret
          exact ⟨false, (f : Int), rfl, .inr ⟨rfl, k, HS.out, .inr ⟨HL.out.symm, rfl, rfl⟩⟩, (h.drewN q).put 3 (.bool true), below_set (below_drewN hgg _) (Nat.le_refl _) _ _, only_drawn _ _ _ _ _⟩
  · go_enter Tryz.func18, Tryz.ntmps18
    go_wp2
    go_ret
    exact ⟨false, a, rfl, .inl ⟨rfl, rfl, rfl⟩, h, hgg, World.grownBy.refl _ _⟩

end Go.Proofs.YtkjkdiijlgoagaaGreatDoor

/-
  The contract of the reference's Chunks; ints that are read; the example at the head of layer 19's laws.
-/
namespace Go.Proofs.YtkjkdiijlgoagaaGreatDoor
open Go.RowKit

set_option maxRecDepth 20000 in
set_option maxHeartbeats 2000000 in
theorem rchunks_any (A : Option Addr) (n c B : Nat) (bs : List Nat) (w : World) (h : Rd w B A n c bs) (hB : B ≤ w.heap.size) (hb : ∀ x ∈ bs, x < 256) (hn : n ≤ 100000000) :
    Calls Tryz.prog 11 #[.slice A n c] w fun e w' => e = .returned (.int .i64 ((chunksN bs : Nat) : Int)) ∧ Below w.heap.size w w' := by
  have hR := rgeti_any A n c B bs w h hB hb hn
  clear h hB hb
  obtain ⟨N, HN⟩ : ∃ N, Hid (chunksN bs = N) := ⟨_, Lib.hid rfl⟩
  rw [HN.out]
  go_enter Tryz.func11, Tryz.ntmps11
  go_wp2_with fail
  refine hR.mono ?_
  cases hg : getI bs with
  | error j =>
    obtain rfl : N = 0 := by rw [← HN.out]; unfold chunksN; rw [hg]
    clear hg
    rintro e w1 ⟨rfl, hb1⟩
    go_wp2_with fail
    go_ret
    exact ⟨rfl, hb1⟩
  | ok p =>
    obtain ⟨k, es, m⟩ := p
    have hl : es.length = N := by rw [← HN.out]; unfold chunksN; rw [hg]
    clear hg
    rintro e w1 ⟨A1, c1, rfl, ho1⟩
    have hb1 := ho1.bel
    rw [hl]
    clear hl ho1
    go_wp2_with fail
    go_ret
    exact ⟨rfl, hb1⟩

/-- '.slice A n c' reads as the whole numbers xs, and lies below block B -/
structure RdZ (w : World) (B : Nat) (A : Option Addr) (n c : Nat) (xs : List Nat) : Prop where
  len : xs.length = n
  cap : n ≤ c
  cell : 0 < n → ∃ ad, A = some ad ∧ ad.block < B ∧ ∀ j, j < n → w.cell? (ad.add j) = some (.int .i64 ((xs.getD j 0 : Nat) : Int))
theorem RdZ.below {w w' : World} {B n c : Nat} {A : Option Addr} {xs : List Nat} (h : RdZ w B A n c xs) (hb : Below B w w') : RdZ w' B A n c xs :=
  ⟨h.len, h.cap, fun hn => by
    obtain ⟨ad, e, hbl, hc⟩ := h.cell hn
    exact ⟨ad, e, hbl, fun j hj => (hb.cell (p := ad.add j) (by rw [add_block]; exact hbl)).trans (hc j hj)⟩⟩
theorem RdZ.farN {w w' : World} {B n c : Nat} {A : Option Addr} {xs : List Nat} {row : Option Nat} (h : RdZ w B A n c xs) (hg : w.grownBy w' row) (hne : ∀ ad, A = some ad → row ≠ some ad.block) : RdZ w' B A n c xs :=
  ⟨h.len, h.cap, fun hn => by
    obtain ⟨ad, e, hbl, hc⟩ := h.cell hn
    exact ⟨ad, e, hbl, fun j hj => hg.cell (hc j hj) (by rw [add_block]; exact fun e' => hne ad e e'.symm)⟩⟩
theorem OwnZ.rd {w : World} {B n c : Nat} {A : Option Addr} {xs : List Nat} (h : OwnZ B w (.slice A n c) xs) : RdZ w w.heap.size A n c xs ∧ ∀ ad, A = some ad → B ≤ ad.block := by
  have h0 : World.ownsRow w B 3 1 (.slice A n c) xs.length (xs.map ival) := h
  rcases h0.2 with ⟨e, h1⟩ | ⟨g, cap, cur, hv, hg, hh, hc, _⟩
  · injection e with e1 e2 e3
    subst e1 e2 e3
    exact ⟨⟨h1, Nat.le_refl _, fun hn => absurd hn (by omega)⟩, fun ad e => by cases e⟩
  · injection hv with e1 e2 e3
    subst e1 e2 e3
    refine ⟨⟨rfl, hc, fun hn => ⟨_, rfl, ((h0.lt g rfl).2), fun j hj => ?_⟩⟩, fun ad e => by injection e with e; rw [← e]; exact hg⟩
    exact h0.cells (g := g) rfl j (ival (xs.getD j 0)) (by simp [List.getD_eq_getElem?_getD, hj])

end Go.Proofs.YtkjkdiijlgoagaaGreatDoor
