/-
  The contracts of the program's isKind, entryMayBe, mayBe and lens, and of the reference's MayIndex: what an index may be, and all Lens together.
-/
import Derived.Test.YtgmnhfkmneohcaaEnts
import Derived.Test.YtgmnhfkmneohcaaUvPut
import Derived.BigQuiet
namespace Go.Proofs.Ytgmnhfkmneohcaa
open Go.RowKit

/-- what a function that decides p comes to: it may make memory -/
def RetDP (w : World) (p : Prop) (e : Ending) (w' : World) : Prop := ∃ b : Bool, (b = true ↔ p) ∧ e = .returned (.bool b) ∧ Below w.heap.size w w'

set_option maxRecDepth 20000 in
set_option maxHeartbeats 400000 in
theorem iskind_any (k : Int) (w : World) :
    Calls Try.prog 30 #[.int .i64 k] w fun e w' => (∃ b : Bool, (b = true ↔ (k = 1 ∨ k = 2)) ∧ e = .returned (.bool b)) ∧ w = w' := by
  by_cases h1 : k = 1
  · subst h1
    go_enter Try.func30, Try.ntmps30
    go_wp2
    go_ret
    exact ⟨⟨true, by simp, rfl⟩, rfl⟩
  · by_cases h2 : k = 2
    · subst h2
      go_enter Try.func30, Try.ntmps30
      go_wp2
      go_ret
      exact ⟨⟨true, by simp, rfl⟩, rfl⟩
    · have H : Hid (false = true ↔ (k = 1 ∨ k = 2)) := Lib.hid (by simp [h1, h2])
      have e1 : (k == 1) = false := by simp [h1]
      have e2 : (k == 2) = false := by simp [h2]
      clear h1 h2
      go_enter Try.func30, Try.ntmps30
      go_wp2
      go_ret
      exact ⟨⟨false, H.out, rfl⟩, rfl⟩

set_option maxRecDepth 20000 in
set_option maxHeartbeats 400000 in
theorem entmay_any (e : Ent) (w : World) :
    Calls Try.prog 31 #[eagg e] w (RetDP w (MayE e)) := by
  obtain ⟨m, x, c, l⟩ := e
  have HB : Below w.heap.size w (w.alloc (.cells #[.int .i64 m, .int .i64 x, .int .i64 c, .int .i64 l] 48)) := (Below.refl w.heap.size w).alloc (Nat.le_refl _) _
  have HT : (1 ≤ c ∧ c ≤ 65535 ∧ 4 ≤ l ∧ l ≤ 2147483647 ∧ m ≤ x) → RetDP w (MayE ⟨m, x, c, l⟩) (.returned (.bool true)) (w.alloc (.cells #[.int .i64 m, .int .i64 x, .int .i64 c, .int .i64 l] 48)) :=
    fun h => ⟨true, ⟨fun _ => ⟨⟨h.1, h.2.1⟩, ⟨h.2.2.1, h.2.2.2.1⟩, h.2.2.2.2⟩, fun _ => rfl⟩, rfl, HB⟩
  have HF : ¬ (1 ≤ c ∧ c ≤ 65535 ∧ 4 ≤ l ∧ l ≤ 2147483647 ∧ m ≤ x) → RetDP w (MayE ⟨m, x, c, l⟩) (.returned (.bool false)) (w.alloc (.cells #[.int .i64 m, .int .i64 x, .int .i64 c, .int .i64 l] 48)) :=
    fun h => ⟨false, ⟨fun h2 => (by cases h2), fun h2 => absurd ⟨h2.1.1, h2.1.2, h2.2.1.1, h2.2.1.2, h2.2.2⟩ h⟩, rfl, HB⟩
  have HT := Lib.hid HT
  have HF := Lib.hid HF
  clear HB
  unfold eagg
  go_enter Try.func31, Try.ntmps31
  by_cases h1 : 1 ≤ c
  · by_cases h2 : c ≤ 65535
    · by_cases h3 : 4 ≤ l
      · by_cases h4 : l ≤ 2147483647
        · by_cases h5 : m ≤ x
          · go_wp2
            go_ret
            exact HT.out ⟨h1, h2, h3, h4, h5⟩
          · go_wp2
            go_ret
            exact HF.out (by omega)
        · go_wp2
          go_ret
          exact HF.out (by omega)
      · go_wp2
        go_ret
        exact HF.out (by omega)
    · go_wp2
      go_ret
      exact HF.out (by omega)
  · go_wp2
    go_ret
    exact HF.out (by omega)


set_option maxRecDepth 20000 in
set_option maxHeartbeats 400000 in
theorem lens_any (A : Option Addr) (n c B : Nat) (es : List Ent) (w : World) (h : RdE w B A n c es) (hB : B ≤ w.heap.size) (hn : n ≤ 65535) (hl : ∀ e ∈ es, 0 ≤ e.ln ∧ e.ln ≤ 2147483647) :
    Calls Try.prog 27 #[.slice A n c] w fun e w' => e = .returned (.int .u64 ((lensN es : Nat) : Int)) ∧ Below w.heap.size w w' := by
  have HL := Lib.hid h.len
  have HH := Lib.hid h
  have HB := Lib.hid hB
  have HE := Lib.hid hl
  clear h hB hl
  go_enter Try.func27, Try.ntmps27
  go_wp2
  go_loopw [3, 8] (fun v i wr => ∃ k : Nat, k ≤ n ∧ i = .int .i64 (k : Int) ∧ v = .int .u64 ((lensN (es.take k) : Nat) : Int) ∧ lensN (es.take k) ≤ 2147483647 * k ∧ Below w.heap.size w wr) (fun _ i _ => n - (intOf i).toNat)
  case atStart => exact ⟨0, by omega, rfl, rfl, by simp [lensN], Below.refl _ _⟩
  case round =>
    obtain ⟨k, hk, rfl, rfl, hs, hbel⟩ := hrel
    by_cases hlt : k < n
    · obtain ⟨ad, rfl, hbb, hc⟩ := (HH.out.below (hbel.mono HB.out)).at_ hlt
      obtain ⟨c0, c1, c2, c3⟩ := hc
      have hx : 0 ≤ (es.getD k ent0).ln ∧ (es.getD k ent0).ln ≤ 2147483647 := by
        have hk2 : k < es.length := by have := HL.out; omega
        have := HE.out (es.getD k ent0) (by rw [List.getD_eq_getElem?_getD, List.getElem?_eq_getElem hk2]; exact List.getElem_mem hk2)
        exact this
      have H3 := Lib.hid (lensN_take (es := es) (k := k) (by have := HL.out; omega))
      generalize lensN (es.take k) = y at *
      generalize es.getD k ent0 = x at *
      obtain ⟨m, x1, ct, l⟩ := x
      simp only at c0 c1 c2 c3 hx
      obtain ⟨l', rfl⟩ := Int.eq_ofNat_of_zero_le hx.1
      have hl2 : l' ≤ 2147483647 := by omega
      clear hx
      go_wp2
      go_roundw
      case rel => exact ⟨k + 1, by omega, by go_num, by rw [H3.out]; go_num, by rw [H3.out]; simp; omega, hbel.alloc hbel.size _⟩
      case measure => simp [intOf]; omega
    · have e : es.take k = es := List.take_of_length_le (by have := HL.out; omega)
      rw [e]
      go_wp2
      go_ret
      exact ⟨rfl, hbel⟩

end Go.Proofs.Ytgmnhfkmneohcaa
