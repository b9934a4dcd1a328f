/-
  The contract of the example at the head of the laws of layer 3: it holds.
-/
import Derived.Test.YtnngbbkkjmcgkaaUvPut
import Derived.Test.YtnngbbkkjmcgkaaUvGet
import Derived.Deep.RegionWith
namespace Go.Proofs.Ytnngbbkkjmcgkaa
open Go.RowKit

theorem up3_put : uvB 300 = [172, 2] := by
  rw [uvB_more (by omega), uvB_last (by omega)]
theorem up3_got : UGets [172, 2] 300 2 0 := by
  have := gets_put 300 [] (by omega)
  rw [up3_put] at this
  simpa using this
theorem Rd.two (w : World) (x y : Nat) : Rd (w.alloc (.cells #[.int .u8 (x : Int), .int .u8 (y : Int)] 5)) (w.heap.size + 1) (some ⟨w.heap.size, 0, none⟩) 2 2 [x, y] := by
  obtain ⟨h0, h1, _, _⟩ := two_new (w := w) (a := .int .u8 (x : Int)) (b := .int .u8 (y : Int)) (t := 5) (Below.refl _ _)
  refine ⟨rfl, Nat.le_refl _, fun h => (by cases h), fun _ => ⟨_, rfl, by simp, fun j hj => ?_⟩⟩
  rcases (by omega : j = 0 ∨ j = 1) with rfl | rfl
  · exact h0
  · exact h1

theorem up3_get (w : World) : Calls Try.prog 6 #[.slice (some ⟨w.heap.size, 0, none⟩) 2 2, .int .i64 0] (w.alloc (.cells #[.int .u8 172, .int .u8 2] 5)) fun e w' => e = .returned (.tuple #[.int .u64 300, .int .i64 2, .nilIface]) ∧ (w.alloc (.cells #[.int .u8 172, .int .u8 2] 5)) = w' := by
  refine (uget_all _ 2 2 _ [172, 2] 0 _ (Rd.two w 172 2) (by simp) (by omega) (by omega)).mono ?_
  rintro e w' ⟨v, n, k, hu, he, hw⟩
  obtain ⟨rfl, rfl, rfl⟩ := hu.same (.inr ⟨0, rfl, by simp, up3_got⟩)
  exact ⟨he, hw⟩

theorem up3_str (w : World) : (convert 23 9 (.slice (some ⟨w.heap.size, 0, none⟩) 2 2)).run Try.prog (w.alloc (.cells #[.int .u8 172, .int .u8 2] 5)) = .ok (.string (strB [172, 2])) (w.alloc (.cells #[.int .u8 172, .int .u8 2] 5)) := run_str (Rd.two w 172 2)
theorem up3_strd (w : World) : (convert 23 9 (.slice (some ⟨w.heap.size, 0, none⟩) 2 2)).run Try.prog (w.alloc (.cells #[.int .u8 172, .int .u8 2] 5)).drew = .ok (.string (strB [172, 2])) (w.alloc (.cells #[.int .u8 172, .int .u8 2] 5)).drew := run_str (Rd.two w 172 2).drew
theorem up3_late {w w1 : World} (h : Below (w.alloc (.cells #[.int .u8 172, .int .u8 2] 5)).drew.heap.size (w.alloc (.cells #[.int .u8 172, .int .u8 2] 5)).drew w1) :
    (convert 23 9 (.slice (some ⟨w.heap.size, 0, none⟩) 2 2)).run Try.prog w1 = .ok (.string (strB [172, 2])) w1 := by
  refine run_str (((Rd.two w 172 2).drew.more ?_).below h)
  simp
theorem up3_put' (w : World) : Calls Try.prog 8 #[.int .u64 300] w fun e w' => ∃ A c, e = .returned (.slice A 2 c) ∧ Own w w' (.slice A 2 c) [172, 2] := by
  refine (uput_any 300 w (by omega)).mono ?_
  rw [up3_put]
  rintro e w' ⟨A, c, he, hown⟩
  exact ⟨A, c, he, hown⟩

theorem up3_get' (w : World) (v1 n1 e1 : Value) (hv : v1 = .int .u64 300) (hn : n1 = .int .i64 2) (he : e1 = .nilIface) : Calls Try.prog 6 #[.slice (some ⟨w.heap.size, 0, none⟩) 2 2, .int .i64 0] (w.alloc (.cells #[.int .u8 172, .int .u8 2] 5)) fun e w' => e = .returned (.tuple #[v1, n1, e1]) ∧ (w.alloc (.cells #[.int .u8 172, .int .u8 2] 5)) = w' := by
  subst hv hn he
  exact up3_get w
theorem run_eq_str (w : World) (s : Value) (b : ByteArray) (h : Value.string b = s) : (binOp .eql 9 s s).run Try.prog w = .ok (.bool true) w := by
  subst h
  simp [go_sem]
theorem run_eq_int (w : World) (t : TypeId) (v u : Value) (k : IntKind) (x : Int) (h : v = .int k x) (h' : u = .int k x) : (binOp .eql t v u).run Try.prog w = .ok (.bool true) w := by
  subst h h'
  simp [go_sem]
theorem guard_str (t : TypeId) (x y : Operand) (w : World) (s : Value) (b : ByteArray) (h : Value.string b = s) : (eqGuard .eql t x y s s).run Try.prog w = .ok () w := by
  subst h
  simp [go_sem]
theorem guard_int (t : TypeId) (x y : Operand) (w : World) (v u : Value) (k : IntKind) (a b : Int) (h : v = .int k a) (h' : u = .int k b) : (eqGuard .eql t x y v u).run Try.prog w = .ok () w := by
  subst h h'
  simp [go_sem]
theorem run_eq_nil (w : World) (v : Value) (h : v = .nilIface) : (binOp .eql 26 v .nilIface).run Try.prog w = .ok (.bool true) w := by
  subst h
  simp [go_sem]
theorem guard_nil (x : Operand) (w : World) (v : Value) (h : v = .nilIface) : (eqGuard .eql 26 x (.const .nilIface) v .nilIface).run Try.prog w = .ok () w := by
  subst h
  simp [go_sem]
theorem up3_first {w w1 : World} {o : Obj} (h : Below w.drew.heap.size w.drew w1) : Below w.heap.size w (w1.alloc o) :=
  (undrew (a := w) h).alloc (undrew (a := w) h).size o
theorem up3_below {w w1 : World} {o : Obj} (h : Below (w.alloc o).drew.heap.size (w.alloc o).drew w1) : Below w.heap.size w w1 :=
  ((Below.refl w.heap.size w).alloc (Nat.le_refl _) o).trans ((undrew h).mono (by simp))

set_option maxHeartbeats 1000000 in
theorem up3_any (w : World) : Calls Try.prog 5 #[] w fun e w' => e = .returned (.bool true) ∧ Below w.heap.size w w' := by
  obtain ⟨s, HS⟩ : ∃ s, Hid (Value.string (strB [172, 2]) = s) := ⟨_, Lib.hid rfl⟩
  obtain ⟨v1, HV⟩ : ∃ v1, Hid (v1 = Value.int .u64 300) := ⟨_, Lib.hid rfl⟩
  obtain ⟨n1, HN⟩ : ∃ n1, Hid (n1 = Value.int .i64 2) := ⟨_, Lib.hid rfl⟩
  obtain ⟨e1, HE⟩ : ∃ e1, Hid (e1 = Value.nilIface) := ⟨_, Lib.hid rfl⟩
  go_enter Try.func5, Try.ntmps5
  go_wp2_with fail
  refine (up3_get' w v1 n1 e1 HV.out HN.out HE.out).mono ?_
  rintro e w' ⟨rfl, rfl⟩
  go_wp2_with fail
  have hb0 : Below w.heap.size w (w.alloc (.cells #[.int .u8 172, .int .u8 2] 5)) := (Below.refl _ _).alloc (Nat.le_refl _) _
  generalize w.alloc (.cells #[.int .u8 172, .int .u8 2] 5) = W at *
  have hg1 := fun x y w => guard_str 9 x y w s _ HS.out
  have hg2 := fun x y w => guard_int 22 x y w v1 _ .u64 _ 300 HV.out rfl
  have hg3 := fun x y w => guard_int 3 x y w n1 _ .i64 _ 2 HN.out rfl
  have hg4 := fun x w => guard_nil x w e1 HE.out
  have hl0 := up3_strd W
  rw [HS.out] at hl0
  go_region_with (first
    | (go_at_call 8; ((with_reducible refine (up3_put' _).mono ?_); rintro e w1 ⟨A, c, rfl, hown⟩; have hs1 := run_str hown.rd; have hs2 := run_str (hown.alloc (.cells #[.int .u8 172, .int .u8 2] 5)).rd; have hs3 := up3_str w1; rw [HS.out] at hs1 hs2 hs3; have q1 := run_eq_str w1 s _ HS.out; have q2 := run_eq_str (w1.alloc (.cells #[.int .u8 172, .int .u8 2] 5)) s _ HS.out; have q3 := run_eq_int w1 22 v1 _ .u64 300 HV.out rfl; have q4 := run_eq_int (w1.alloc (.cells #[.int .u8 172, .int .u8 2] 5)) 22 v1 _ .u64 300 HV.out rfl; have q5 := run_eq_int w1 3 n1 _ .i64 2 HN.out rfl; have q6 := run_eq_int (w1.alloc (.cells #[.int .u8 172, .int .u8 2] 5)) 3 n1 _ .i64 2 HN.out rfl; have q7 := run_eq_nil w1 e1 HE.out; have q8 := run_eq_nil (w1.alloc (.cells #[.int .u8 172, .int .u8 2] 5)) e1 HE.out; (try (with_reducible have hs4 := up3_late (w := W) hown.bel; rw [HS.out] at hs4)); have hb1 := hown.bel; clear hown)))
  all_goals
    clear hg1 hg2 hg3 hg4 hl0 hs1 hs2 hs3 q1 q2 q3 q4 q5 q6 q7 q8
    (try clear hs4)
    go_wp2
    go_ret
    refine ⟨rfl, hb0.trans (Below.mono ?_ hb0.size)⟩
    first
      | with_reducible exact up3_first hb1
      | with_reducible exact up3_below hb1

end Go.Proofs.Ytnngbbkkjmcgkaa
