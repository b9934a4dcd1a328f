/-
  Texts of this proof, one behind the other: UvPut, IdxMay, IdxLens, IdxMayBe.
-/
import Derived.Test.YtaebljoacffghaaGreatDoorWords
import Derived.Test.YtaebljoacffghaaGreatDoorIdxP
import Derived.Test.YtaebljoacffghaaGreatDoorEntsA
import Derived.BigQuiet
import Derived.Deep.RegionWith
import Derived.Deep.RegionHeld3
import Derived.Deep.QuietTactic
import Derived.Deep.CutBlock

/-
  The contract of the program's own Put: a number's bytes, in new memory.
-/
namespace Go.Proofs.YtaebljoacffghaaGreatDoor
open Go.RowKit

theorem or_128 : ∀ r : Fin 256, r.val ||| 128 = r.val % 128 + 128 := by decide +kernel
theorem low_or (x z : Nat) (hz : z = x % 128 + 128) : bits .or .u8 ((x : Int) % 256) 128 = (z : Int) := by
  have e : (x : Int) % 256 = ((x % 256 : Nat) : Int) := by simp
  rw [e, show (128 : Int) = ((128 : Nat) : Int) from rfl, u8_or_nat _ _ (by omega) (by omega), or_128 ⟨x % 256, by omega⟩, hz]
  congr 1
  simp only
  omega

/-- the loop's relation: what is laid, and what is left, are the number's bytes -/
def AtPut (w : World) (v : Nat) (x b : Value) (wr : World) : Prop :=
  ∃ (p : List Nat) (y : Nat), p ++ uvB y = uvB v ∧ y ≤ 18446744073709551615 ∧ x = .int .u64 (y : Int) ∧ Own w wr b p

theorem put_len {p : List Nat} {y v : Nat} (h : p ++ uvB y = uvB v) (hv : v ≤ 18446744073709551615) : p.length ≤ 10 := by
  have := uvB_ten v hv
  rw [← h, List.length_append] at this
  omega

set_option maxRecDepth 20000 in
set_option maxHeartbeats 400000 in
theorem uput_any (v : Nat) (w : World) (hv : v ≤ 18446744073709551615) :
    Calls Tryz.prog 66 #[.int .u64 (v : Int)] w (RetB w (uvB v)) := by
  go_enter Tryz.func66, Tryz.ntmps66
  go_wp2
  go_loopw [0, 3] (fun x b wr => AtPut w v x b wr) (fun x _ _ => (intOf x).toNat)
  case atStart => exact ⟨[], v, rfl, hv, rfl, Own.nil_ _ _ (Below.refl _ _)⟩
  case round =>
    obtain ⟨p, y, he, hy, rfl, hown⟩ := hrel
    have HE := Lib.hid he
    have hp := put_len he hv
    clear he
    by_cases hlt : 127 < y
    · obtain ⟨z, HZ⟩ : ∃ z, Hid (z = y % 128 + 128) := ⟨_, Lib.hid rfl⟩
      have hor := low_or y z HZ.out
      go_wp2_with (at_builtin; (refine wpList_app rfl (.tmp 6) (.tmp 10) rfl rfl rfl (hown.alloc _) (Rd.one _ z) (by omega) ?_; intro v' w' hown3))
      clear hor
      go_roundw
      case rel =>
        refine ⟨p ++ [z], y / 128, ?_, by omega, by go_num, hown3⟩
        rw [← HE.out, uvB_more hlt, ← HZ.out]
        simp
      case measure => simp [intOf]; omega
    · go_wp2_with (at_builtin; (refine wpList_app rfl (.tmp 14) (.tmp 17) rfl rfl rfl (hown.alloc _) (Rd.one _ y) (by omega) ?_; intro v' w' hown3))
      go_ret
      rw [← HE.out, uvB_last hlt]
      exact RetB.mk hown3

end Go.Proofs.YtaebljoacffghaaGreatDoor

/-
  The contracts of the program's isKind and entryMayBe: what an index may be.
-/
namespace Go.Proofs.YtaebljoacffghaaGreatDoor
open Go.RowKit

/-- what a function that decides p comes to: it may make memory -/
def RetDP (w : World) (p : Prop) (e : Ending) (w' : World) : Prop := ∃ b : Bool, (b = true ↔ p) ∧ e = .returned (.bool b) ∧ Below w.heap.size w w'

set_option maxRecDepth 20000 in
set_option maxHeartbeats 400000 in
theorem iskind_any (k : Int) (w : World) :
    Calls Tryz.prog 76 #[.int .i64 k] w fun e w' => (∃ b : Bool, (b = true ↔ (k = 1 ∨ k = 2)) ∧ e = .returned (.bool b)) ∧ w = w' := by
  by_cases h1 : k = 1
  · subst h1
    go_enter Tryz.func76, Tryz.ntmps76
    go_wp2
    go_ret
    exact ⟨⟨true, by simp, rfl⟩, rfl⟩
  · by_cases h2 : k = 2
    · subst h2
      go_enter Tryz.func76, Tryz.ntmps76
      go_wp2
      go_ret
      exact ⟨⟨true, by simp, rfl⟩, rfl⟩
    · have H : Hid (false = true ↔ (k = 1 ∨ k = 2)) := Lib.hid (by simp [h1, h2])
      have e1 : (k == 1) = false := by simp [h1]
      have e2 : (k == 2) = false := by simp [h2]
      clear h1 h2
      go_enter Tryz.func76, Tryz.ntmps76
      go_wp2
      go_ret
      exact ⟨⟨false, H.out, rfl⟩, rfl⟩

set_option maxRecDepth 20000 in
set_option maxHeartbeats 400000 in
theorem entmay_any (e : Ent) (w : World) :
    Calls Tryz.prog 80 #[eagg e] w (RetDP w (MayE e)) := by
  obtain ⟨m, x, c, l⟩ := e
  have HB : Below w.heap.size w (w.alloc (.cells #[.int .i64 m, .int .i64 x, .int .i64 c, .int .i64 l] 103)) := (Below.refl w.heap.size w).alloc (Nat.le_refl _) _
  have HT : (1 ≤ c ∧ c ≤ 65535 ∧ 4 ≤ l ∧ l ≤ 2147483647 ∧ m ≤ x) → RetDP w (MayE ⟨m, x, c, l⟩) (.returned (.bool true)) (w.alloc (.cells #[.int .i64 m, .int .i64 x, .int .i64 c, .int .i64 l] 103)) :=
    fun h => ⟨true, ⟨fun _ => ⟨⟨h.1, h.2.1⟩, ⟨h.2.2.1, h.2.2.2.1⟩, h.2.2.2.2⟩, fun _ => rfl⟩, rfl, HB⟩
  have HF : ¬ (1 ≤ c ∧ c ≤ 65535 ∧ 4 ≤ l ∧ l ≤ 2147483647 ∧ m ≤ x) → RetDP w (MayE ⟨m, x, c, l⟩) (.returned (.bool false)) (w.alloc (.cells #[.int .i64 m, .int .i64 x, .int .i64 c, .int .i64 l] 103)) :=
    fun h => ⟨false, ⟨fun h2 => (by cases h2), fun h2 => absurd ⟨h2.1.1, h2.1.2, h2.2.1.1, h2.2.1.2, h2.2.2⟩ h⟩, rfl, HB⟩
  have HT := Lib.hid HT
  have HF := Lib.hid HF
  clear HB
  unfold eagg
  go_enter Tryz.func80, Tryz.ntmps80
  by_cases h1 : 1 ≤ c
  · by_cases h2 : c ≤ 65535
    · by_cases h3 : 4 ≤ l
      · by_cases h4 : l ≤ 2147483647
        · by_cases h5 : m ≤ x
          · go_wp2
            go_ret
            exact HT.out ⟨h1, h2, h3, h4, h5⟩
          · go_wp2
            go_ret
            exact HF.out (by omega)
        · go_wp2
          go_ret
          exact HF.out (by omega)
      · go_wp2
        go_ret
        exact HF.out (by omega)
    · go_wp2
      go_ret
      exact HF.out (by omega)
  · go_wp2
    go_ret
    exact HF.out (by omega)


end Go.Proofs.YtaebljoacffghaaGreatDoor

/-
  The contract of the program's lens: all Lens together.
-/
namespace Go.Proofs.YtaebljoacffghaaGreatDoor
open Go.RowKit

set_option maxRecDepth 20000 in
set_option maxHeartbeats 400000 in
theorem lens_any (A : Option Addr) (n c B : Nat) (es : List Ent) (w : World) (h : RdE w B A n c es) (hB : B ≤ w.heap.size) (hn : n ≤ 65535) (hl : ∀ e ∈ es, 0 ≤ e.ln ∧ e.ln ≤ 2147483647) :
    Calls Tryz.prog 58 #[.slice A n c] w fun e w' => e = .returned (.int .u64 ((lensN es : Nat) : Int)) ∧ Below w.heap.size w w' := by
  have HL := Lib.hid h.len
  have HH := Lib.hid h
  have HB := Lib.hid hB
  have HE := Lib.hid hl
  clear h hB hl
  go_enter Tryz.func58, Tryz.ntmps58
  go_wp2
  go_loopw [3, 8] (fun v i wr => ∃ k : Nat, k ≤ n ∧ i = .int .i64 (k : Int) ∧ v = .int .u64 ((lensN (es.take k) : Nat) : Int) ∧ lensN (es.take k) ≤ 2147483647 * k ∧ Below w.heap.size w wr) (fun _ i _ => n - (intOf i).toNat)
  case atStart => exact ⟨0, by omega, rfl, rfl, by simp [lensN], Below.refl _ _⟩
  case round =>
    obtain ⟨k, hk, rfl, rfl, hs, hbel⟩ := hrel
    by_cases hlt : k < n
    · obtain ⟨ad, rfl, hbb, hc⟩ := (HH.out.below (hbel.mono HB.out)).at_ hlt
      obtain ⟨c0, c1, c2, c3⟩ := hc
      have hx : 0 ≤ (es.getD k ent0).ln ∧ (es.getD k ent0).ln ≤ 2147483647 := by
        have hk2 : k < es.length := by have := HL.out; omega
        have := HE.out (es.getD k ent0) (by rw [List.getD_eq_getElem?_getD, List.getElem?_eq_getElem hk2]; exact List.getElem_mem hk2)
        exact this
      have H3 := Lib.hid (lensN_take (es := es) (k := k) (by have := HL.out; omega))
      generalize lensN (es.take k) = y at *
      generalize es.getD k ent0 = x at *
      obtain ⟨m, x1, ct, l⟩ := x
      simp only at c0 c1 c2 c3 hx
      obtain ⟨l', rfl⟩ := Int.eq_ofNat_of_zero_le hx.1
      have hl2 : l' ≤ 2147483647 := by omega
      clear hx
      go_wp2
      go_roundw
      case rel => exact ⟨k + 1, by omega, by go_num, by rw [H3.out]; go_num, by rw [H3.out]; simp; omega, hbel.alloc hbel.size _⟩
      case measure => simp [intOf]; omega
    · have e : es.take k = es := List.take_of_length_le (by have := HL.out; omega)
      rw [e]
      go_wp2
      go_ret
      exact ⟨rfl, hbel⟩

end Go.Proofs.YtaebljoacffghaaGreatDoor

/-
  The contract of the program's mayBe: whether an index may be.
-/
namespace Go.Proofs.YtaebljoacffghaaGreatDoor
open Go.RowKit

theorem entmay_yes {e : Ent} (h : MayE e) (w : World) : Calls Tryz.prog 80 #[.agg #[.int .i64 e.mn, .int .i64 e.mx, .int .i64 e.ct, .int .i64 e.ln]] w fun r w' => r = .returned (.bool true) ∧ Below w.heap.size w w' :=
  (entmay_any e w).mono fun r w' ⟨b, hb, hr, hw⟩ => ⟨by rw [hr, hb.2 h], hw⟩
theorem entmay_no {e : Ent} (h : ¬ MayE e) (w : World) : Calls Tryz.prog 80 #[.agg #[.int .i64 e.mn, .int .i64 e.mx, .int .i64 e.ct, .int .i64 e.ln]] w fun r w' => r = .returned (.bool false) ∧ Below w.heap.size w w' :=
  (entmay_any e w).mono fun r w' ⟨b, hb, hr, hw⟩ => ⟨by rw [hr]; congr 2; cases b with | true => exact absurd (hb.1 rfl) h | false => rfl, hw⟩

theorem iskind_yes {k : Int} (h : k = 1 ∨ k = 2) (w : World) : Calls Tryz.prog 76 #[.int .i64 k] w fun r w' => r = .returned (.bool true) ∧ w = w' :=
  (iskind_any k w).mono fun r w' ⟨⟨b, hb, hr⟩, hw⟩ => ⟨by rw [hr, hb.2 h], hw⟩
theorem iskind_no {k : Int} (h : ¬ (k = 1 ∨ k = 2)) (w : World) : Calls Tryz.prog 76 #[.int .i64 k] w fun r w' => r = .returned (.bool false) ∧ w = w' :=
  (iskind_any k w).mono fun r w' ⟨⟨b, hb, hr⟩, hw⟩ => ⟨by rw [hr]; congr 2; cases b with | true => exact absurd (hb.1 rfl) h | false => rfl, hw⟩
/-- the cells of an index in a box -/
theorem head_cells {w wr : World} {k : Int} {s : Value} {t : TypeId} (h : Below (w.alloc (.cells #[.int .i64 k, s] t)).heap.size (w.alloc (.cells #[.int .i64 k, s] t)) wr) :
    wr.cell? ⟨w.heap.size, 0, none⟩ = some (.int .i64 k) ∧ wr.cell? ⟨w.heap.size, 1, none⟩ = some s := by
  obtain ⟨h0, h1, _, _⟩ := two_new h
  exact ⟨h0, h1⟩

set_option maxRecDepth 20000 in
set_option maxHeartbeats 1000000 in
theorem maybe_any (k : Int) (A : Option Addr) (n c B : Nat) (es : List Ent) (w : World) (h : RdE w B A n c es) (hB : B ≤ w.heap.size) (hn : n ≤ 9223372036854775807) :
    Calls Tryz.prog 57 #[.agg #[.int .i64 k, .slice A n c]] w (RetDP w (May k es)) := by
  have HL := Lib.hid h.len
  have HB := Lib.hid hB
  obtain ⟨w1, hw1⟩ : ∃ w1, w1 = w.alloc (.cells #[.int .i64 k, .slice A n c] 86) := ⟨_, rfl⟩
  have HW1 := Lib.hid hw1
  have HBW : Hid (Below w.heap.size w w1) := Lib.hid (by rw [hw1]; exact (Below.refl _ _).alloc (Nat.le_refl _) _)
  have HH := Lib.hid (h.below (HBW.out.mono hB))
  have HS1 : Hid (w1.heap.size = w.heap.size + 1) := Lib.hid (by rw [hw1]; simp)
  have HT : May k es → ∀ w', Below w1.heap.size w1 w' → RetDP w (May k es) (.returned (.bool true)) w' := fun h w' hb => ⟨true, ⟨fun _ => h, fun _ => rfl⟩, rfl, HBW.out.trans (hb.mono (by have := HS1.out; omega))⟩
  have HF : ¬ May k es → ∀ w', Below w1.heap.size w1 w' → RetDP w (May k es) (.returned (.bool false)) w' := fun h w' hb => ⟨false, ⟨fun h2 => (by cases h2), fun h2 => absurd h2 h⟩, rfl, HBW.out.trans (hb.mono (by have := HS1.out; omega))⟩
  replace HT := Lib.hid HT
  replace HF := Lib.hid HF
  clear h hB hw1
  by_cases hk : k = 1 ∨ k = 2
  · have hik := fun w => iskind_yes hk w
    have HK := Lib.hid hk
    clear hk
    by_cases h6 : n ≤ 65535
    · go_enter Tryz.func57, Tryz.ntmps57
      go_wp2_with (go_at_call 76; refine (hik _).mono ?_; rintro e w2 ⟨rfl, rfl⟩)
      rw [← HW1.out]
      go_loopw [18] (fun i wr => ∃ j : Nat, j ≤ n ∧ i = .int .i64 (j : Int) ∧ MayTo es j ∧ Below w1.heap.size w1 wr) (fun i _ => n - (intOf i).toNat)
      case atStart => exact ⟨0, by omega, rfl, MayTo.zero _, Below.refl _ _⟩
      case round =>
        obtain ⟨j, hj, rfl, hto, hbel⟩ := hrel
        have HTO := Lib.hid hto
        clear hto
        by_cases hlt : j < n
        · have hadA := (HH.out.below (hbel.mono (Nat.le_trans HB.out (by have := HS1.out; omega)))).at_ hlt
          have hadP := fun h : j - 1 < n => (HH.out.below (hbel.mono (Nat.le_trans HB.out (by have := HS1.out; omega)))).at_ h
          obtain ⟨ad, rfl, hbb, hc⟩ := hadA
          have hsz := hbel.size
          have hs1 := HS1.out
          have hbw := HB.out
          have hbh : Below (w.alloc (.cells #[.int .i64 k, .slice (some ad) n c] 86)).heap.size (w.alloc (.cells #[.int .i64 k, .slice (some ad) n c] 86)) wr := by rw [← HW1.out]; exact hbel
          obtain ⟨hh0, hh1⟩ := head_cells hbh
          clear hbh hh0
          have HXJ : Hid (es.getD j ent0 = es.getD j ent0) := Lib.hid rfl
          obtain ⟨x, HX⟩ : ∃ x, Hid (x = es.getD j ent0) := ⟨_, Lib.hid rfl⟩
          rw [← HX.out] at hc
          clear HXJ
          obtain ⟨c0, c1, c2, c3⟩ := hc
          -- the world behind the entry's own box
          obtain ⟨V, hV⟩ : ∃ V, V = wr.alloc (.cells #[.int .i64 x.mn, .int .i64 x.mx, .int .i64 x.ct, .int .i64 x.ln] 103) := ⟨_, rfl⟩
          have hVb : Below w1.heap.size w1 V.drew := by rw [hV]; exact (hbel.alloc hbel.size _).drew
          have e0 : V.drew.cell? ⟨wr.heap.size, 0, none⟩ = some (.int .i64 x.mn) := by rw [hV]; simp
          have e1 : V.drew.cell? ⟨wr.heap.size, 1, none⟩ = some (.int .i64 x.mx) := by rw [hV]; simp
          have e2 : V.drew.cell? ⟨wr.heap.size, 2, none⟩ = some (.int .i64 x.ct) := by rw [hV]; simp
          have e3 : V.drew.cell? ⟨wr.heap.size, 3, none⟩ = some (.int .i64 x.ln) := by rw [hV]; simp
          have hVs : V.drew.heap.size = wr.heap.size + 1 := by rw [hV]; simp
          have hVw : Below wr.heap.size wr V.drew := by rw [hV]; exact ((Below.refl _ _).alloc (Nat.le_refl _) _).drew
          have hhV : V.drew.cell? ⟨w.heap.size, 1, none⟩ = some (.slice (some ad) n c) := by rw [hVw.cell (p := ⟨w.heap.size, 1, none⟩) (by simp only; omega)]; exact hh1
          have HKEEP : Hid (∀ w', Below V.drew.heap.size V.drew w' → (w'.cell? ⟨wr.heap.size, 0, none⟩ = some (.int .i64 x.mn) ∧ w'.cell? ⟨wr.heap.size, 1, none⟩ = some (.int .i64 x.mx) ∧ w'.cell? ⟨wr.heap.size, 2, none⟩ = some (.int .i64 x.ct) ∧ w'.cell? ⟨wr.heap.size, 3, none⟩ = some (.int .i64 x.ln)) ∧ w'.cell? ⟨w.heap.size, 1, none⟩ = some (.slice (some ad) n c)) :=
            Lib.hid (fun w' hb => ⟨⟨(hb.cell (p := ⟨wr.heap.size, 0, none⟩) (by simp only; omega)).trans e0, (hb.cell (p := ⟨wr.heap.size, 1, none⟩) (by simp only; omega)).trans e1, (hb.cell (p := ⟨wr.heap.size, 2, none⟩) (by simp only; omega)).trans e2, (hb.cell (p := ⟨wr.heap.size, 3, none⟩) (by simp only; omega)).trans e3⟩, (hb.cell (p := ⟨w.heap.size, 1, none⟩) (by simp only; omega)).trans hhV⟩)
          have HK0 := HKEEP.out _ (Below.refl _ _)
          clear hhV e0 e1 e2 e3
          by_cases hm : MayE x
          · have hy := fun w => entmay_yes hm w
            rcases Nat.eq_zero_or_pos j with hj0 | hjp
            · subst hj0
              clear hadP
              rw [show ad.add (0 * 4) = ad by simp [Addr.add]] at c0 c1 c2 c3
              go_wp2_with fail
              rw [← hV]
              clear hV
              obtain ⟨⟨q0, q1, q2, q3⟩, q4⟩ := HK0
              refine wp_region_any (by kernel_rfl) ?_
              change wpAny _ _ _ _ _ _ _ (World.drew _)
              refine wpAny_ready (rs := [0]) (by kernel_rfl) (by simp) ?_
              refine AllReady.cons rfl (fun K hK => ?_) AllReady.nil
              go_simp
              refine hK _ _ ?_
              clear hK K
              try simp only [Act.put, List.setIfInBounds_toArray, List.set_cons_zero, List.set_cons_succ, List.getElem_toArray, List.getElem_cons_succ, List.getElem_cons_zero]
              refine wpAny_ready (rs := [1]) (by kernel_rfl) (by simp) ?_
              refine AllReady.cons rfl (fun K hK => ?_) AllReady.nil
              go_simp
              go_wp2_with (go_at_call 80; refine (hy _).mono ?_; rintro r w5 ⟨rfl, hb5⟩)
              refine wpAny_take (i := 2) (v := .bool false) rfl (by kernel_rfl) (by kernel_rfl) (by kernel_rfl) (fun _ _ _ h => h) (Or.inl ⟨by rfl, fun w => by go_simp⟩) ?_
              simp only [Act.put, List.setIfInBounds_toArray, List.set_cons_zero, List.set_cons_succ, List.getElem_toArray, List.getElem_cons_succ, List.getElem_cons_zero]
              refine wpAny_take (i := 3) (v := .bool false) rfl (by kernel_rfl) (by kernel_rfl) (by kernel_rfl) (fun _ _ _ h => h) (Or.inl ⟨by rfl, fun w => by go_simp⟩) ?_
              simp only [Act.put, List.setIfInBounds_toArray, List.set_cons_zero, List.set_cons_succ, List.getElem_toArray, List.getElem_cons_succ, List.getElem_cons_zero]
              refine wpAny_take (i := 4) (v := .int .i64 0) rfl (by kernel_rfl) (by kernel_rfl) (by kernel_rfl) (fun _ _ _ h => h) (Or.inl ⟨by rfl, fun w => by go_simp⟩) ?_
              simp only [Act.put, List.setIfInBounds_toArray, List.set_cons_zero, List.set_cons_succ, List.getElem_toArray, List.getElem_cons_succ, List.getElem_cons_zero]
              refine wpAny_take (i := 5) (v := .bool false) rfl (by kernel_rfl) (by kernel_rfl) (by kernel_rfl) (fun _ _ _ h => h) (Or.inl ⟨by rfl, fun w => by go_simp⟩) ?_
              simp only [Act.put, List.setIfInBounds_toArray, List.set_cons_zero, List.set_cons_succ, List.getElem_toArray, List.getElem_cons_succ, List.getElem_cons_zero]
              refine wpAny_take (i := 6) (v := .bool false) rfl (by kernel_rfl) (by kernel_rfl) (by kernel_rfl) (fun _ _ _ h => h) (Or.inl ⟨by rfl, fun w => by go_simp⟩) ?_
              simp only [Act.put, List.setIfInBounds_toArray, List.set_cons_zero, List.set_cons_succ, List.getElem_toArray, List.getElem_cons_succ, List.getElem_cons_zero]
              refine wpAny_take (i := 7) (v := undef) rfl (by kernel_rfl) (by kernel_rfl) (by kernel_rfl) (fun _ _ _ h => h) (Or.inr ⟨by rfl, rfl⟩) ?_
              simp only [Act.put, List.setIfInBounds_toArray, List.set_cons_zero, List.set_cons_succ, List.getElem_toArray, List.getElem_cons_succ, List.getElem_cons_zero]
              refine wpAny_take (i := 8) (v := undef) rfl (by kernel_rfl) (by kernel_rfl) (by kernel_rfl) (fun _ _ _ h => h) (Or.inr ⟨by rfl, rfl⟩) ?_
              simp only [Act.put, List.setIfInBounds_toArray, List.set_cons_zero, List.set_cons_succ, List.getElem_toArray, List.getElem_cons_succ, List.getElem_cons_zero]
              refine wpAny_take (i := 9) (v := undef) rfl (by kernel_rfl) (by kernel_rfl) (by kernel_rfl) (fun _ _ _ h => h) (Or.inr ⟨by rfl, rfl⟩) ?_
              simp only [Act.put, List.setIfInBounds_toArray, List.set_cons_zero, List.set_cons_succ, List.getElem_toArray, List.getElem_cons_succ, List.getElem_cons_zero]
              refine wpAny_take (i := 10) (v := undef) rfl (by kernel_rfl) (by kernel_rfl) (by kernel_rfl) (fun _ _ _ h => h) (Or.inr ⟨by rfl, rfl⟩) ?_
              simp only [Act.put, List.setIfInBounds_toArray, List.set_cons_zero, List.set_cons_succ, List.getElem_toArray, List.getElem_cons_succ, List.getElem_cons_zero]
              refine wpAny_take (i := 11) (v := undef) rfl (by kernel_rfl) (by kernel_rfl) (by kernel_rfl) (fun _ _ _ h => h) (Or.inr ⟨by rfl, rfl⟩) ?_
              simp only [Act.put, List.setIfInBounds_toArray, List.set_cons_zero, List.set_cons_succ, List.getElem_toArray, List.getElem_cons_succ, List.getElem_cons_zero]
              refine wpAny_take (i := 12) (v := undef) rfl (by kernel_rfl) (by kernel_rfl) (by kernel_rfl) (fun _ _ _ h => h) (Or.inr ⟨by rfl, rfl⟩) ?_
              simp only [Act.put, List.setIfInBounds_toArray, List.set_cons_zero, List.set_cons_succ, List.getElem_toArray, List.getElem_cons_succ, List.getElem_cons_zero]
              refine wpAny_take (i := 13) (v := undef) rfl (by kernel_rfl) (by kernel_rfl) (by kernel_rfl) (fun _ _ _ h => h) (Or.inr ⟨by rfl, rfl⟩) ?_
              simp only [Act.put, List.setIfInBounds_toArray, List.set_cons_zero, List.set_cons_succ, List.getElem_toArray, List.getElem_cons_succ, List.getElem_cons_zero]
              refine wpAny_take (i := 14) (v := undef) rfl (by kernel_rfl) (by kernel_rfl) (by kernel_rfl) (fun _ _ _ h => h) (Or.inr ⟨by rfl, rfl⟩) ?_
              simp only [Act.put, List.setIfInBounds_toArray, List.set_cons_zero, List.set_cons_succ, List.getElem_toArray, List.getElem_cons_succ, List.getElem_cons_zero]
              refine wpAny_take (i := 15) (v := undef) rfl (by kernel_rfl) (by kernel_rfl) (by kernel_rfl) (fun _ _ _ h => h) (Or.inr ⟨by rfl, rfl⟩) ?_
              simp only [Act.put, List.setIfInBounds_toArray, List.set_cons_zero, List.set_cons_succ, List.getElem_toArray, List.getElem_cons_succ, List.getElem_cons_zero]
              refine wpAny_take (i := 16) (v := undef) rfl (by kernel_rfl) (by kernel_rfl) (by kernel_rfl) (fun _ _ _ h => h) (Or.inr ⟨by rfl, rfl⟩) ?_
              simp only [Act.put, List.setIfInBounds_toArray, List.set_cons_zero, List.set_cons_succ, List.getElem_toArray, List.getElem_cons_succ, List.getElem_cons_zero]
              refine wpAny_take (i := 17) (v := .bool false) rfl (by kernel_rfl) (by kernel_rfl) (by kernel_rfl) (fun _ _ _ h => h) (Or.inl ⟨by rfl, fun w => by go_simp⟩) ?_
              simp only [Act.put, List.setIfInBounds_toArray, List.set_cons_zero, List.set_cons_succ, List.getElem_toArray, List.getElem_cons_succ, List.getElem_cons_zero]
              refine wpAny_take (i := 18) (v := .bool false) rfl (by kernel_rfl) (by kernel_rfl) (by kernel_rfl) (fun _ _ _ h => h) (Or.inl ⟨by rfl, fun w => by go_simp⟩) ?_
              simp only [Act.put, List.setIfInBounds_toArray, List.set_cons_zero, List.set_cons_succ, List.getElem_toArray, List.getElem_cons_succ, List.getElem_cons_zero]
              refine wpAny_done (by kernel_rfl) ?_ _
              all_goals
                have hb6 := hVb.trans (hb5.mono (by omega))
                go_wp2_with fail
                go_roundw
                case rel =>
                  exact ⟨0 + 1, by omega, by go_num, HTO.out.succ (by rw [← HX.out]; exact hm) (by omega), hb6⟩
                case measure => simp [intOf]; omega
            · obtain ⟨i, rfl⟩ : ∃ i, j = i + 1 := ⟨j - 1, by omega⟩
              have hin : i < n := by omega
              have hin0 : (0 : Int) ≤ (i : Int) := by omega
              have hin1 : (i : Int) < (n : Int) := by omega
              have hwr : IntKind.i64.wrap (i : Int) = (i : Int) := by rw [IntKind.wrap_i64]; omega
              obtain ⟨adP, hadE, hbP, hcP⟩ := hadP (by omega)
              injection hadE with hadE
              subst hadE
              rw [show i + 1 - 1 = i by omega] at hcP
              have cP := hcP.c1
              clear hcP hadP
              obtain ⟨y, HY⟩ : ∃ y, Hid (y = (es.getD i ent0).mx) := ⟨_, Lib.hid rfl⟩
              rw [← HY.out] at cP
              have HKP : Hid (∀ w', Below V.drew.heap.size V.drew w' → ((w'.cell? ⟨wr.heap.size, 0, none⟩ = some (.int .i64 x.mn) ∧ w'.cell? ⟨wr.heap.size, 1, none⟩ = some (.int .i64 x.mx) ∧ w'.cell? ⟨wr.heap.size, 2, none⟩ = some (.int .i64 x.ct) ∧ w'.cell? ⟨wr.heap.size, 3, none⟩ = some (.int .i64 x.ln)) ∧ w'.cell? ⟨w.heap.size, 1, none⟩ = some (.slice (some ad) n c)) ∧ w'.cell? ⟨(ad.add (i * 4)).block, (ad.add (i * 4)).off + 1, none⟩ = some (.int .i64 y)) := Lib.hid (fun w' hb =>
                ⟨HKEEP.out w' hb, (hb.cell (p := ⟨(ad.add (i * 4)).block, (ad.add (i * 4)).off + 1, none⟩) (by simp only [add_block] at hbP ⊢; omega)).trans ((hVw.cell (p := ⟨(ad.add (i * 4)).block, (ad.add (i * 4)).off + 1, none⟩) (by simp only [add_block] at hbP ⊢; omega)).trans cP)⟩)
              have HKP0 := HKP.out _ (Below.refl _ _)
              clear HK0
              go_wp2_with fail
              rw [← hV]
              clear hV
              by_cases hlt2 : y < x.mn
              · go_region_held3 (fun w' => ((w'.cell? ⟨wr.heap.size, 0, none⟩ = some (.int .i64 x.mn) ∧ w'.cell? ⟨wr.heap.size, 1, none⟩ = some (.int .i64 x.mx) ∧ w'.cell? ⟨wr.heap.size, 2, none⟩ = some (.int .i64 x.ct) ∧ w'.cell? ⟨wr.heap.size, 3, none⟩ = some (.int .i64 x.ln)) ∧ w'.cell? ⟨w.heap.size, 1, none⟩ = some (.slice (some ad) n c)) ∧ w'.cell? ⟨(ad.add (i * 4)).block, (ad.add (i * 4)).off + 1, none⟩ = some (.int .i64 y)) (first | exact HKP0 | exact HK5) (first
                  | (go_at_call 80; refine (hy _).mono ?_; rintro r w5 ⟨rfl, hb5⟩; have HK5 := HKP.out _ hb5))
                all_goals
                  have hb6 := hVb.trans (hb5.mono (by omega))
                  go_wp2_with fail
                  go_roundw
                  case rel =>
                    refine ⟨i + 1 + 1, by omega, by go_num, HTO.out.succ (by rw [← HX.out]; exact hm) (fun _ => ?_), hb6⟩
                    rw [show i + 1 - 1 = i by omega, ← HX.out, ← HY.out]
                    exact hlt2
                  case measure => simp [intOf]; omega
              · go_region_held3 (fun w' => ((w'.cell? ⟨wr.heap.size, 0, none⟩ = some (.int .i64 x.mn) ∧ w'.cell? ⟨wr.heap.size, 1, none⟩ = some (.int .i64 x.mx) ∧ w'.cell? ⟨wr.heap.size, 2, none⟩ = some (.int .i64 x.ct) ∧ w'.cell? ⟨wr.heap.size, 3, none⟩ = some (.int .i64 x.ln)) ∧ w'.cell? ⟨w.heap.size, 1, none⟩ = some (.slice (some ad) n c)) ∧ w'.cell? ⟨(ad.add (i * 4)).block, (ad.add (i * 4)).off + 1, none⟩ = some (.int .i64 y)) (first | exact HKP0 | exact HK5) (first
                  | (go_at_call 80; refine (hy _).mono ?_; rintro r w5 ⟨rfl, hb5⟩; have HK5 := HKP.out _ hb5))
                all_goals
                  have hb6 := hVb.trans (hb5.mono (by omega))
                  go_wp2_with fail
                  go_ret
                  refine HF.out (fun h => ?_) _ hb6
                  have h2 := (h.2.2 (i + 1) (by have := HL.out; omega)).2 (by omega)
                  rw [show i + 1 - 1 = i by omega, ← HX.out, ← HY.out] at h2
                  omega
          · have hy := fun w => entmay_no hm w
            clear hadP
            go_wp2_with fail
            rw [← hV]
            clear hV
            obtain ⟨⟨q0, q1, q2, q3⟩, q4⟩ := HK0
            refine wp_region_any (by kernel_rfl) ?_
            change wpAny _ _ _ _ _ _ _ (World.drew _)
            refine wpAny_ready (rs := [0]) (by kernel_rfl) (by simp) ?_
            refine AllReady.cons rfl (fun K hK => ?_) AllReady.nil
            go_simp
            refine hK _ _ ?_
            clear hK K
            try simp only [Act.put, List.setIfInBounds_toArray, List.set_cons_zero, List.set_cons_succ, List.getElem_toArray, List.getElem_cons_succ, List.getElem_cons_zero]
            refine wpAny_ready (rs := [1]) (by kernel_rfl) (by simp) ?_
            refine AllReady.cons rfl (fun K hK => ?_) AllReady.nil
            go_simp
            go_wp2_with (go_at_call 80; refine (hy _).mono ?_; rintro r w5 ⟨rfl, hb5⟩)
            refine wpAny_take (i := 2) (v := .bool true) rfl (by kernel_rfl) (by kernel_rfl) (by kernel_rfl) (fun _ _ _ h => h) (Or.inl ⟨by rfl, fun w => by go_simp⟩) ?_
            simp only [Act.put, List.setIfInBounds_toArray, List.set_cons_zero, List.set_cons_succ, List.getElem_toArray, List.getElem_cons_succ, List.getElem_cons_zero]
            refine wpAny_take (i := 3) (v := .bool true) rfl (by kernel_rfl) (by kernel_rfl) (by kernel_rfl) (fun _ _ _ h => h) (Or.inl ⟨by rfl, fun w => by go_simp⟩) ?_
            simp only [Act.put, List.setIfInBounds_toArray, List.set_cons_zero, List.set_cons_succ, List.getElem_toArray, List.getElem_cons_succ, List.getElem_cons_zero]
            refine wpAny_take (i := 4) (v := undef) rfl (by kernel_rfl) (by kernel_rfl) (by kernel_rfl) (fun _ _ _ h => h) (Or.inr ⟨by rfl, rfl⟩) ?_
            simp only [Act.put, List.setIfInBounds_toArray, List.set_cons_zero, List.set_cons_succ, List.getElem_toArray, List.getElem_cons_succ, List.getElem_cons_zero]
            refine wpAny_take (i := 5) (v := undef) rfl (by kernel_rfl) (by kernel_rfl) (by kernel_rfl) (fun _ _ _ h => h) (Or.inr ⟨by rfl, rfl⟩) ?_
            simp only [Act.put, List.setIfInBounds_toArray, List.set_cons_zero, List.set_cons_succ, List.getElem_toArray, List.getElem_cons_succ, List.getElem_cons_zero]
            refine wpAny_take (i := 6) (v := undef) rfl (by kernel_rfl) (by kernel_rfl) (by kernel_rfl) (fun _ _ _ h => h) (Or.inr ⟨by rfl, rfl⟩) ?_
            simp only [Act.put, List.setIfInBounds_toArray, List.set_cons_zero, List.set_cons_succ, List.getElem_toArray, List.getElem_cons_succ, List.getElem_cons_zero]
            refine wpAny_take (i := 7) (v := undef) rfl (by kernel_rfl) (by kernel_rfl) (by kernel_rfl) (fun _ _ _ h => h) (Or.inr ⟨by rfl, rfl⟩) ?_
            simp only [Act.put, List.setIfInBounds_toArray, List.set_cons_zero, List.set_cons_succ, List.getElem_toArray, List.getElem_cons_succ, List.getElem_cons_zero]
            refine wpAny_take (i := 8) (v := undef) rfl (by kernel_rfl) (by kernel_rfl) (by kernel_rfl) (fun _ _ _ h => h) (Or.inr ⟨by rfl, rfl⟩) ?_
            simp only [Act.put, List.setIfInBounds_toArray, List.set_cons_zero, List.set_cons_succ, List.getElem_toArray, List.getElem_cons_succ, List.getElem_cons_zero]
            refine wpAny_take (i := 9) (v := undef) rfl (by kernel_rfl) (by kernel_rfl) (by kernel_rfl) (fun _ _ _ h => h) (Or.inr ⟨by rfl, rfl⟩) ?_
            simp only [Act.put, List.setIfInBounds_toArray, List.set_cons_zero, List.set_cons_succ, List.getElem_toArray, List.getElem_cons_succ, List.getElem_cons_zero]
            refine wpAny_take (i := 10) (v := undef) rfl (by kernel_rfl) (by kernel_rfl) (by kernel_rfl) (fun _ _ _ h => h) (Or.inr ⟨by rfl, rfl⟩) ?_
            simp only [Act.put, List.setIfInBounds_toArray, List.set_cons_zero, List.set_cons_succ, List.getElem_toArray, List.getElem_cons_succ, List.getElem_cons_zero]
            refine wpAny_take (i := 11) (v := undef) rfl (by kernel_rfl) (by kernel_rfl) (by kernel_rfl) (fun _ _ _ h => h) (Or.inr ⟨by rfl, rfl⟩) ?_
            simp only [Act.put, List.setIfInBounds_toArray, List.set_cons_zero, List.set_cons_succ, List.getElem_toArray, List.getElem_cons_succ, List.getElem_cons_zero]
            refine wpAny_take (i := 12) (v := undef) rfl (by kernel_rfl) (by kernel_rfl) (by kernel_rfl) (fun _ _ _ h => h) (Or.inr ⟨by rfl, rfl⟩) ?_
            simp only [Act.put, List.setIfInBounds_toArray, List.set_cons_zero, List.set_cons_succ, List.getElem_toArray, List.getElem_cons_succ, List.getElem_cons_zero]
            refine wpAny_take (i := 13) (v := undef) rfl (by kernel_rfl) (by kernel_rfl) (by kernel_rfl) (fun _ _ _ h => h) (Or.inr ⟨by rfl, rfl⟩) ?_
            simp only [Act.put, List.setIfInBounds_toArray, List.set_cons_zero, List.set_cons_succ, List.getElem_toArray, List.getElem_cons_succ, List.getElem_cons_zero]
            refine wpAny_take (i := 14) (v := undef) rfl (by kernel_rfl) (by kernel_rfl) (by kernel_rfl) (fun _ _ _ h => h) (Or.inr ⟨by rfl, rfl⟩) ?_
            simp only [Act.put, List.setIfInBounds_toArray, List.set_cons_zero, List.set_cons_succ, List.getElem_toArray, List.getElem_cons_succ, List.getElem_cons_zero]
            refine wpAny_take (i := 15) (v := undef) rfl (by kernel_rfl) (by kernel_rfl) (by kernel_rfl) (fun _ _ _ h => h) (Or.inr ⟨by rfl, rfl⟩) ?_
            simp only [Act.put, List.setIfInBounds_toArray, List.set_cons_zero, List.set_cons_succ, List.getElem_toArray, List.getElem_cons_succ, List.getElem_cons_zero]
            refine wpAny_take (i := 16) (v := undef) rfl (by kernel_rfl) (by kernel_rfl) (by kernel_rfl) (fun _ _ _ h => h) (Or.inr ⟨by rfl, rfl⟩) ?_
            simp only [Act.put, List.setIfInBounds_toArray, List.set_cons_zero, List.set_cons_succ, List.getElem_toArray, List.getElem_cons_succ, List.getElem_cons_zero]
            refine wpAny_take (i := 17) (v := undef) rfl (by kernel_rfl) (by kernel_rfl) (by kernel_rfl) (fun _ _ _ h => h) (Or.inr ⟨by rfl, rfl⟩) ?_
            simp only [Act.put, List.setIfInBounds_toArray, List.set_cons_zero, List.set_cons_succ, List.getElem_toArray, List.getElem_cons_succ, List.getElem_cons_zero]
            refine wpAny_take (i := 18) (v := .bool true) rfl (by kernel_rfl) (by kernel_rfl) (by kernel_rfl) (fun _ _ _ h => h) (Or.inl ⟨by rfl, fun w => by go_simp⟩) ?_
            simp only [Act.put, List.setIfInBounds_toArray, List.set_cons_zero, List.set_cons_succ, List.getElem_toArray, List.getElem_cons_succ, List.getElem_cons_zero]
            refine wpAny_done (by kernel_rfl) ?_ _
            all_goals
              have hb6 := hVb.trans (hb5.mono (by omega))
              go_wp2_with fail
              go_ret
              refine HF.out (fun h => ?_) _ hb6
              have h2 := (h.2.2 j (by have := HL.out; omega)).1
              rw [← HX.out] at h2
              exact hm h2
        · go_wp2
          go_ret
          have e : j = es.length := by have := HL.out; omega
          subst e
          exact HT.out ⟨HK.out, by have := HL.out; omega, HTO.out⟩ _ hbel
    · go_enter Tryz.func57, Tryz.ntmps57
      go_wp2_with (go_at_call 76; refine (hik _).mono ?_; rintro e w2 ⟨rfl, rfl⟩)
      go_ret
      rw [← HW1.out]
      exact HF.out (fun h => by have := h.2.1; have := HL.out; omega) _ (Below.refl _ _)
  · have hik := fun w => iskind_no hk w
    have HK := Lib.hid hk
    clear hk
    go_enter Tryz.func57, Tryz.ntmps57
    go_wp2_with (go_at_call 76; refine (hik _).mono ?_; rintro e w2 ⟨rfl, rfl⟩)
    go_ret
    rw [← HW1.out]
    exact HF.out (fun h => HK.out h.1) _ (Below.refl _ _)

end Go.Proofs.YtaebljoacffghaaGreatDoor
