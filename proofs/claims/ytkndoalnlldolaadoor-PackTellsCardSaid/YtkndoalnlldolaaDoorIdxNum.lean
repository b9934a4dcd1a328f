/-
  The contracts of the program's putNumber and of the reference's big: a number's bytes with the highest first.
-/
import Derived.Test.YtkndoalnlldolaaDoorWords
import Derived.Test.YtkndoalnlldolaaDoorIdx1
import Derived.Test.YtkndoalnlldolaaDoorCrc
import Derived.Test.YtkndoalnlldolaaDoorWrapLe
namespace Go.Proofs.YtkndoalnlldolaaDoor
open Go.RowKit

/-- every block that is no row of bytes is kept -/
def KeepO (w w' : World) : Prop := w.heap.size ≤ w'.heap.size ∧ ∀ g, g < w.heap.size → (∀ cs q, w.heap[g]? ≠ some (.cells cs 5 q)) → w'.heap[g]? = w.heap[g]?
theorem KeepO.refl (w : World) : KeepO w w := ⟨Nat.le_refl _, fun _ _ _ => rfl⟩
theorem KeepO.trans {w w1 w2 : World} (h : KeepO w w1) (h' : KeepO w1 w2) : KeepO w w2 :=
  ⟨Nat.le_trans h.1 h'.1, fun g hg hn => by
    have e := h.2 g hg hn
    rw [← e]
    exact h'.2 g (Nat.lt_of_lt_of_le hg h.1) (fun cs q => by rw [e]; exact hn cs q)⟩
theorem KeepO.of_below {w w' : World} (h : Below w.heap.size w w') : KeepO w w' := ⟨h.size, fun g hg _ => h.block g hg⟩
theorem KeepO.of_grown {w0 w w' : World} {v : Value} {bs : List Nat} (hown : Own w0 w v bs) (h : w.grownBy w' v.ownBlock) : KeepO w w' := by
  refine ⟨h.size, fun g hg hn => h.block g hg (fun e => ?_)⟩
  rcases hown.row.2 with ⟨rfl, _⟩ | ⟨g', cap, cur, rfl, _, hh, _⟩
  · cases e
  · have e' : some g' = some g := e.symm
    injection e' with e'
    subst e'
    exact hn _ _ hh
/-- what a function that lays bytes behind those of the call's own comes to -/
def RetOB (w0 w : World) (bs : List Nat) (e : Ending) (w' : World) : Prop := ∃ v, e = .returned v ∧ Own w0 w' v bs ∧ KeepO w w'
/-- append in a plain region: what is kept, too -/
theorem wpList_appK {ops : Array Oper} {rest : List Oper} {o : Oper} {a : Act} {Q : Exit → Act → World → Prop} (hgd : o.guard = none) (s x : Operand)
    (ho : o.op = .call { callee := .builtin .append, args := #[s, x], argTypes := #[24, 24] })
    {w0 w : World} {B : Nat} {v : Value} {bs cs : List Nat} {A : Option Addr} {m c : Nat} (hs : a.eval s = v) (hx : a.eval x = .slice A m c) (hown : Own w0 w v bs) (hr : Rd w B A m c cs)
    (hm : bs.length + m ≤ 1073741824)
    (h : ∀ v' w', Own w0 w' v' (bs ++ cs) → KeepO w w' → wpList Tryd.prog ops Q rest (a.put o.dst v') w') : wpList Tryd.prog ops Q (o :: rest) a w :=
  wpList_plain hgd fun _ hK => wp_app s x ho hs hx hown hr hm fun v' w' h2 hg => hK _ _ (h v' w' h2 (KeepO.of_grown hown hg))

theorem bigB_step (k m v : Nat) : bigB (k + 1) (v / 256 ^ m) = bigB k (v / 256 ^ (m + 1)) ++ [v / 256 ^ m % 256] := by
  rw [bigB, Nat.div_div_eq_div_mul, Nat.pow_succ]
theorem pow_eight (k : Nat) : 2 ^ (8 * k) = 256 ^ k := by rw [Nat.pow_mul]

/-- a loop's relation: k bytes are laid, the highest ones first -/
def AtNum (w0 w : World) (bs : List Nat) (v size : Nat) (b i : Value) (wr : World) : Prop :=
  ∃ k : Nat, k ≤ size ∧ i = .int .i64 ((size : Int) - 1 - k) ∧ Own w0 wr b (bs ++ bigB k (v / 256 ^ (size - k))) ∧ KeepO w wr
theorem byte_of (v m : Nat) : (v : Int) / 2 ^ (8 * m) % 256 = ((v / 256 ^ m % 256 : Nat) : Int) := by
  rw [← pow_eight]
  simp
set_option maxRecDepth 20000 in
set_option maxHeartbeats 400000 in
theorem putnum_any (w0 w : World) (A : Option Addr) (n c : Nat) (bs : List Nat) (v size : Nat) (hown : Own w0 w (.slice A n c) bs) (_hv : v ≤ 18446744073709551615) (hs : size ≤ 8) (hl : bs.length ≤ 1000000000) :
    Calls Tryd.prog 26 #[.slice A n c, .int .u64 (v : Int), .int .i64 (size : Int)] w (RetOB w0 w (bs ++ bigB size v)) := by
  have HL := Lib.hid hl
  clear hl
  go_enter Tryd.func26, Tryd.ntmps26
  go_wp2
  go_loopw [0, 7] (fun b i wr => AtNum w0 w bs v size b i wr) (fun _ i _ => (intOf i + 1).toNat)
  case atStart => exact ⟨0, by omega, by simp, by simpa [bigB] using hown, KeepO.refl _⟩
  case round =>
    obtain ⟨k, hk, rfl, hown2, hkeep⟩ := hrel
    by_cases hlt : k < size
    · obtain ⟨m, HM⟩ : ∃ m, Hid (size = k + m + 1) := ⟨size - k - 1, Lib.hid (by omega)⟩
      have hi : (size : Int) - 1 - (k : Int) = (m : Int) := by have := HM.out; omega
      rw [hi]
      have hm8 : m ≤ 7 := by have := HM.out; omega
      rw [show size - k = m + 1 by have := HM.out; omega] at hown2
      clear hi
      obtain ⟨z, HZ⟩ : ∃ z, Hid (z = v / 256 ^ m % 256) := ⟨_, Lib.hid rfl⟩
      have hz : (v : Int) / 2 ^ (8 * m) % 256 = (z : Int) := by rw [byte_of, HZ.out]
      obtain ⟨q, HQ⟩ : ∃ q, Hid (q = bs ++ bigB k (v / 256 ^ (m + 1))) := ⟨_, Lib.hid rfl⟩
      rw [← HQ.out] at hown2
      have hq : q.length + 1 ≤ 1073741824 := by
        rw [HQ.out, List.length_append, bigB_length]
        have := HL.out
        omega
      have HQ2 := Lib.hid hq
      clear hq
      go_wp2_with (at_builtin; (refine wpList_appK rfl (.tmp 14) (.tmp 20) rfl rfl rfl (hown2.alloc _) (Rd.one _ z) HQ2.out ?_; intro v' w' hown3 hk3))
      go_roundw
      case rel =>
        have hsz := HM.out
        refine ⟨k + 1, by omega, by simp <;> omega, ?_, (hkeep.trans (KeepO.of_below ((Below.refl _ _).alloc (Nat.le_refl _) _))).trans hk3⟩
        rw [show size - (k + 1) = m by omega, bigB_step, ← HZ.out, ← List.append_assoc, ← HQ.out]
        exact hown3
      case measure => simp [intOf]
    · obtain rfl : k = size := by omega
      have hi : (k : Int) - 1 - (k : Int) = -1 := by omega
      rw [hi]
      clear hi
      go_wp2
      go_ret
      refine ⟨_, rfl, ?_, hkeep⟩
      simpa using hown2

set_option maxRecDepth 20000 in
set_option maxHeartbeats 400000 in
theorem big_any (v n : Nat) (w : World) (hv : v ≤ 18446744073709551615) (hn : n ≤ 8) :
    Calls Tryd.prog 17 #[.int .u64 (v : Int), .int .i64 (n : Int)] w (RetB w (bigB n v)) := by
  go_enter Tryd.func17, Tryd.ntmps17
  go_wp2_with (refine wpList_mk rfl (.tmp 7) (.tmp 7) rfl (Below.refl _ _) n rfl rfl rfl rfl (by omega) ?_; intro w' hown hbel)
  generalize hg : w.heap.size = g at hown
  clear hbel
  go_loopw [0, 6] (fun x i wr => ∃ (k m : Nat), n = k + m ∧ i = .int .i64 ((m : Int) - 1) ∧ x = .int .u64 ((v / 256 ^ k : Nat) : Int) ∧ Own w wr (.slice (some ⟨g, 0, none⟩) n n) (List.replicate m 0 ++ bigB k v)) (fun _ i _ => (intOf i + 1).toNat)
  case atStart => exact ⟨0, n, by omega, by simp, by simp, by simpa [bigB] using hown⟩
  case round =>
    obtain ⟨k, m, rfl, rfl, rfl, hown2⟩ := hrel
    cases m with
    | zero =>
      have hi : ((0 : Nat) : Int) - 1 = -1 := rfl
      rw [hi]
      go_wp2
      go_ret
      exact RetB.mk (by simpa using hown2)
    | succ m =>
      have hi : ((m + 1 : Nat) : Int) - 1 = (m : Int) := by omega
      rw [hi]
      have hcell := hown2.cell m (by omega)
      have hfree := hown2.free m
      have H3 := Lib.hid (hown2.set m (v / 256 ^ k % 256))
      have hy : v / 256 ^ k ≤ 18446744073709551615 := Nat.le_trans (Nat.div_le_self _ _) hv
      have HD : Hid (v / 256 ^ k / 256 = v / 256 ^ (k + 1)) := Lib.hid (by rw [Nat.div_div_eq_div_mul, Nat.pow_succ])
      have HB : Hid (bigB (k + 1) v = (v / 256 ^ k % 256) :: bigB k v) := Lib.hid (bigB_cons k v)
      generalize v / 256 ^ k = y at *
      clear hown2
      go_wp2
      go_roundw
      case rel =>
        refine ⟨k + 1, m, by omega, by simp, by rw [← HD.out]; simp, ?_⟩
        have e : (List.replicate (m + 1) 0 ++ bigB k v).set m (y % 256) = List.replicate m 0 ++ bigB (k + 1) v := by
          rw [HB.out, List.replicate_succ', List.append_assoc, List.set_append_right _ _ (by simp)]
          simp
        have h3 := H3.out
        rw [e] at h3
        have e2 : k + (m + 1) = k + 1 + m := by omega
        simpa [e2] using h3
      case measure => simp [intOf]

end Go.Proofs.YtkndoalnlldolaaDoor
