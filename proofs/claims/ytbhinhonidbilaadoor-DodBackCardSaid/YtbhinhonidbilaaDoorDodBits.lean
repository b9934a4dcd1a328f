/-
  What DodBack's walk wants: Join and Bits with names; a code amid other bits is got, cut off it ends too early; sizes above the law's own.
-/
import Derived.Test.YtbhinhonidbilaaDoorDodUp
import Derived.Test.YtbhinhonidbilaaDoorLawBits
import Derived.Test.YtbhinhonidbilaaDoorIs
import Derived.Test.YtbhinhonidbilaaDoorFlat
import Derived.Test.YtbhinhonidbilaaDoorPick
import Derived.Test.YtbhinhonidbilaaDoorLaw
namespace Go.Proofs.YtbhinhonidbilaaDoor
open Go.RowKit

set_option maxHeartbeats 400000 in
theorem dback_big (A1 A2 A3 : Option Addr) (m1 c1 m2 c2 m3 c3 : Nat) (v a : Int) (w : World) (_hl : m1 ≤ 9223372036854775807 ∧ m2 ≤ 9223372036854775807 ∧ m3 ≤ 9223372036854775807)
    (h : 300 < m1 ∨ (m1 ≤ 300 ∧ 300 < m2) ∨ (m1 ≤ 300 ∧ m2 ≤ 300 ∧ 300 < m3)) (hR : RoomW w) :
    Calls Tryd.prog 4 #[.slice A1 m1 c1, .int .i64 v, .slice A2 m2 c2, .slice A3 m3 c3, .int .i64 a] w (RetTrue w) := by
  rcases h with h | h | h
  all_goals
    go_enter Tryd.func4, Tryd.ntmps4
    go_wp2_with (go_at_call 5; refine (up5_any _ hR).mono ?_; rintro e w1 ⟨rfl, hb1⟩)
    go_ret
    exact ⟨rfl, hb1⟩

theorem Rd.onA {w : World} {A : Option Addr} {n c : Nat} {bs : List Nat} (h : Rd w w.heap.size A n c bs) (o : Obj) : Rd (w.alloc o) (w.alloc o).heap.size A n c bs :=
  (h.below ((Below.refl _ _).alloc (Nat.le_refl _) o)).more (by simp)
theorem BoxAt.onA {w : World} {b : Nat} {s n : Value} (h : BoxAt w b s n) (o : Obj) : BoxAt (w.alloc o) b s n := h.below ((Below.refl _ _).alloc (Nat.le_refl _) o)
theorem BoxAt.then_ {w : World} {b : Nat} {s n : Value} (_ : BoxAt w b s n) (s' n' : Value) (t : TypeId) : BoxAt (w.alloc (.cells #[s', n'] t)) w.heap.size s' n' := BoxAt.new w s' n' t

/-- Join, its lists and numbers under names -/
theorem join_as (A1 A2 : Option Addr) (m1 c1 m2 c2 : Nat) (p q r : List Bool) (L1 L2 : Int) (M : Nat) (w : World) (h1 : Rd w w.heap.size A1 m1 c1 (pack p)) (h2 : Rd w w.heap.size A2 m2 c2 (pack q)) (hL1 : L1 = ((p.length : Nat) : Int)) (hL2 : L2 = ((q.length : Nat) : Int)) (hr : r = p ++ q) (hM : r.length = M) (hp : p.length ≤ 100000) (hq : q.length ≤ 100000) :
    Calls Tryd.prog 13 #[.agg #[.slice A1 m1 c1, .int .i64 L1], .agg #[.slice A2 m2 c2, .int .i64 L2]] w
      fun e w' => ∃ A c, e = .returned (.agg #[.slice A (pack r).length c, .int .i64 (M : Int)]) ∧ Own w w' (.slice A (pack r).length c) (pack r) := by
  subst hL1 hL2 hM hr
  exact join_any A1 A2 m1 c1 m2 c2 p q w h1 h2 (by omega) (by omega)
/-- Bits, its list and number under names -/
theorem bits_as (A : Option Addr) (n c : Nat) (l : List Nat) (p : List Bool) (w : World) (h : Rd w w.heap.size A n c l) (hb : ∀ x ∈ l, x < 256) (hn : n ≤ 1000) (hp : p = odd l) :
    Calls Tryd.prog 14 #[.slice A n c] w fun e w' => ∃ A' c', e = .returned (.agg #[.slice A' (pack p).length c', .int .i64 (n : Int)]) ∧ Own w w' (.slice A' (pack p).length c') (pack p) := by
  subst hp
  refine (lawbits_any A n c l w h hb (by omega)).mono ?_
  rintro e w' ⟨A', c', he, ho⟩
  rw [odd_length, h.len] at he
  exact ⟨A', c', he, ho⟩

/-- a number's code amid other bits is got -/
theorem back_got {v : Int} (hv : -9223372036854775808 ≤ v ∧ v ≤ 9223372036854775807) (p q r : List Bool) (a : Nat) (hr : r = p ++ codeD v ++ q) (ha : p.length = a) : DGets (restL (pack r) (a : Int)) v (codeD v).length 0 := by
  subst ha
  have h1 : (flat (pack r)).drop p.length = codeD v ++ (q ++ (flat (pack r)).drop r.length) := by
    have h2 : flat (pack r) = r ++ (flat (pack r)).drop r.length := by
      have := List.take_append_drop r.length (flat (pack r))
      rw [take_flat_pack] at this
      exact this.symm
    conv => lhs; rw [h2]
    generalize (flat (pack r)).drop r.length = s
    subst hr
    rw [List.append_assoc, List.append_assoc, List.drop_left]
  have h3 : p.length ≤ 8 * (pack r).length := by
    rw [pack_length, hr, List.length_append, List.length_append]; omega
  rw [restL_yes h3, h1]
  exact dgets_put hv _
theorem flat_head (bs : List Nat) (t : Nat) (h : t ≤ bs.length) : flat (bs.take t) = (flat bs).take (8 * t) := by
  apply getD_ext
  · rw [flat_length, List.length_take, List.length_take, flat_length]; omega
  · intro i hi
    rw [flat_length, List.length_take] at hi
    rw [flat_getD, take_getD', if_pos (by omega), flat_getD]
    unfold bit
    congr 1
    rw [List.getD_eq_getElem?_getD, List.getElem?_take_of_lt (by omega), ← List.getD_eq_getElem?_getD]
/-- a number's code, cut off at a byte's end, ends too early -/
theorem back_short {v : Int} (z k t : Nat) (s : List Bool) (hs : s = low 0 z ++ codeD v) (hk : k < (codeD v).length) (ht : 8 * t = z + k) : DGets (restL ((pack s).take t) (z : Int)) 0 0 2 := by
  have hl : s.length = z + (codeD v).length := by rw [hs, List.length_append, low_length]
  have h1 : t ≤ (pack s).length := by rw [pack_length]; omega
  have h2 : (flat (pack s)).take (8 * t) = s.take (8 * t) := by
    have h3 := take_flat_pack s
    have h4 : (flat (pack s)).take (8 * t) = ((flat (pack s)).take s.length).take (8 * t) := by rw [List.take_take, Nat.min_eq_left (by omega)]
    rw [h4, h3]
  have h5 : z ≤ 8 * ((pack s).take t).length := by rw [List.length_take]; omega
  have h6 : (s.take (8 * t)).drop z = (codeD v).take k := by
    have e : (low 0 z ++ codeD v).drop z = codeD v := by
      have := List.drop_left (l₁ := low 0 z) (l₂ := codeD v)
      rwa [low_length] at this
    rw [ht, hs, List.drop_take, Nat.add_sub_cancel_left, e]
  rw [restL_yes h5, flat_head _ _ h1, h2, h6]
  exact dgets_cut hk
/-- Get, where what is there is known -/
theorem back_get (A : Option Addr) (n c B : Nat) (bs : List Nat) (a : Nat) (v : Int) (L : Nat) (w : World) (h : Rd w B A n c bs) (hb : ∀ x ∈ bs, x < 256) (hn : n ≤ 100000) (ha : a ≤ 100000) (hR : RoomW w) (hG : DGets (restL bs (a : Int)) v L 0) :
    Calls Tryd.prog 6 #[.slice A n c, .int .i64 (a : Int)] w fun e w' => e = .returned (.tuple #[.int .i64 v, .int .i64 (L : Int), .nilIface]) ∧ Below w.heap.size w w' := by
  refine (dget_all A n c B bs a w h hb hn (by omega) hR).mono ?_
  rintro e w' ⟨v', n', k', hu, he, hw⟩
  obtain ⟨rfl, rfl, rfl⟩ := hG.same hu
  exact ⟨he, hw⟩
theorem back_none (A : Option Addr) (n c B : Nat) (bs : List Nat) (a : Nat) (w : World) (h : Rd w B A n c bs) (hb : ∀ x ∈ bs, x < 256) (hn : n ≤ 100000) (ha : a ≤ 100000) (hR : RoomW w) (hG : DGets (restL bs (a : Int)) 0 0 2) :
    Calls Tryd.prog 6 #[.slice A n c, .int .i64 (a : Int)] w fun e w' => e = .returned (.tuple #[.int .i64 0, .int .i64 0, .iface 47 (.int .i64 2)]) ∧ Below w.heap.size w w' := by
  refine (dget_all A n c B bs a w h hb hn (by omega) hR).mono ?_
  rintro e w' ⟨v', n', k', hu, he, hw⟩
  obtain ⟨rfl, rfl, rfl⟩ := hG.same hu
  exact ⟨he, hw⟩
theorem back_pick (a : Int) (n : Nat) (h : 0 < n) : ∃ p : Nat, a % (n : Int) = (p : Int) ∧ p < n := by
  have h1 := Int.emod_nonneg a (show (n : Int) ≠ 0 by omega)
  have h2 := Int.emod_lt_of_pos a (show (0 : Int) < n by omega)
  exact ⟨(a % n).toNat, by omega, by omega⟩
/-- as many 0s as go up to a whole byte behind k bits -/
theorem back_pad (k : Nat) : ∃ z t : Nat, z ≤ 7 ∧ 8 * t = z + k ∧ (IntKind.i64.wrap (64 - ((k : Nat) : Int).tmod 8)).tmod 8 = (z : Int) := by
  refine ⟨(64 - k % 8) % 8, ((64 - k % 8) % 8 + k) / 8, by omega, by omega, ?_⟩
  have e1 : ((k : Nat) : Int).tmod 8 = ((k % 8 : Nat) : Int) := by rw [Int.tmod_eq_emod_of_nonneg (by omega)]; omega
  have e2 : IntKind.i64.wrap (64 - ((k % 8 : Nat) : Int)) = ((64 - k % 8 : Nat) : Int) := by rw [IntKind.wrap_i64]; omega
  rw [e1, e2, Int.tmod_eq_emod_of_nonneg (by omega)]
  omega
theorem restL_zero (bs : List Nat) : restL bs 0 = flat bs := by
  have := restL_yes (bs := bs) (a := 0) (by omega)
  rw [List.drop_zero] at this
  exact this

end Go.Proofs.YtbhinhonidbilaaDoor
