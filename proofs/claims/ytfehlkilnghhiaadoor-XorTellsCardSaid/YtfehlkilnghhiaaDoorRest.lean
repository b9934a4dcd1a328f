/-
  The contract of the laws' own Rest: all bits of bytes from a place on; none, if there is no such place.
-/
import Derived.Test.YtfehlkilnghhiaaDoorDod1
import Derived.Test.YtfehlkilnghhiaaDoorFlat
namespace Go.Proofs.YtfehlkilnghhiaaDoor
open Go.RowKit

theorem Rd.tail {w : World} {B m c a : Nat} {A : Option Addr} {bs : List Nat} (h : Rd w B A m c bs) (hk : a ≤ m) : Rd w B (A.map (fun x => x.add a)) (m - a) (c - a) (bs.drop a) := by
  have := h.cutTo (a := a) (n := m - a) (by omega)
  rwa [List.take_of_length_le (by rw [List.length_drop, h.len]; omega)] at this
theorem Rd.tailEnd {w : World} {B m a : Nat} {A : Option Addr} {bs : List Nat} (h : Rd w B A m a bs) (hk : a ≤ m) : Rd w B A (m - a) 0 (bs.drop a) := by
  have := h.cutEnd (n := m - a) (by omega)
  rwa [List.take_of_length_le (by rw [List.length_drop, h.len]; omega)] at this
theorem enc_drop (p : List Bool) (a : Nat) : (enc p).drop a = enc (p.drop a) := by simp [enc]

/-- a slice of bits -/
def RetP (w : World) (p : List Bool) (e : Ending) (w' : World) : Prop := ∃ A n c, e = .returned (.slice A n c) ∧ Rd w' w'.heap.size A n c (enc p) ∧ Below w.heap.size w w'

set_option maxHeartbeats 400000 in
theorem rest_any (A : Option Addr) (m c : Nat) (bs : List Nat) (a : Int) (w : World) (h : Rd w w.heap.size A m c bs) (hb : ∀ x ∈ bs, x < 256) (hm : m ≤ 1000) (ha : -9223372036854775808 ≤ a ∧ a ≤ 9223372036854775807) :
    Calls Tryd.prog 12 #[.slice A m c, .int .i64 a] w (RetP w (restL bs a)) := by
  have hl := h.len
  obtain ⟨r, HR⟩ : ∃ r, Hid (enc (flat bs) = r) := ⟨_, Lib.hid rfl⟩
  have HRL : Hid (r.length = 8 * m) := Lib.hid (by rw [← HR.out, enc_length, flat_length, hl])
  by_cases hy : 0 ≤ a ∧ a ≤ 8 * (m : Int)
  · obtain ⟨a', rfl⟩ := Int.eq_ofNat_of_zero_le hy.1
    have hax : a' ≤ 8 * m := by omega
    have HP : Hid (r.drop a' = enc (restL bs (a' : Int))) := Lib.hid (by rw [restL_yes (by omega), ← enc_drop, HR.out])
    generalize restL bs (a' : Int) = p at *
    clear hy hl
    go_enter Tryd.func12, Tryd.ntmps12
    go_wp2_with fail
    refine (flat_any _ _ _ bs _ h hb (by omega)).mono ?_
    rw [HR.out]
    rintro e w1 ⟨A1, c1, rfl, hown⟩
    have hr := hown.rd
    have hc := hr.cap
    have hb1 := hown.bel
    rw [HRL.out] at hr hc ⊢
    generalize 8 * m = n at *
    go_wp2
    · have he : c1 = a' := by assumption
      subst he
      go_ret
      have h5 := hr.tailEnd hax
      rw [HP.out] at h5
      exact ⟨_, _, _, rfl, h5, hb1⟩
    · go_ret
      have h5 := hr.tail hax
      rw [HP.out] at h5
      exact ⟨_, _, _, rfl, h5, hb1⟩
  · rw [restL_no (by omega)]
    have hno : a < 0 ∨ (0 ≤ a ∧ 8 * (m : Int) < a) := by omega
    clear hy hl
    rcases hno with h1 | h1
    all_goals
      go_enter Tryd.func12, Tryd.ntmps12
      go_wp2_with fail
      refine (flat_any _ _ _ bs _ h hb (by omega)).mono ?_
      rw [HR.out]
      rintro e w1 ⟨A1, c1, rfl, hown⟩
      rw [HRL.out]
      go_wp2
      go_ret
      exact ⟨_, _, _, rfl, Rd.nil_, hown.bel⟩

end Go.Proofs.YtfehlkilnghhiaaDoor
