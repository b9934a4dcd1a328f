/-
  UvarTells, walked: it returns true, whatever the arguments.
-/
import Derived.Test.YtnngbbkkjmcgkaaUvUp
import Derived.Test.YtnngbbkkjmcgkaaRefGet
import Derived.Test.YtnngbbkkjmcgkaaLaw
namespace Go.Proofs.Ytnngbbkkjmcgkaa
open Go.RowKit

set_option maxHeartbeats 400000 in
theorem utells_big (A : Option Addr) (m c : Nat) (v a : Int) (w : World) (_hl : m ≤ 9223372036854775807) (h : 1000 < m) :
    Calls Try.prog 3 #[.int .u64 v, .slice A m c, .int .i64 a] w (RetTrue w) := by
  go_enter Try.func3, Try.ntmps3
  go_wp2_with (go_at_call 5; refine (up3_any _).mono ?_; rintro e w1 ⟨rfl, hb1⟩)
  go_ret
  exact ⟨rfl, hb1⟩

theorem utells_below {w W w1 w2 : World} (hW : Below w.heap.size w W) (h1 : Below W.drew.heap.size W.drew w1) (h2 : Below w1.heap.size w1 w2) : Below w.heap.size w w2 := by
  have h3 := undrew (a := W) h1
  have h4 : Below W.heap.size W w2 := h3.trans (h2.mono h3.size)
  exact hW.trans (h4.mono hW.size)

/-- both answers, under names -/
theorem uget_as (A : Option Addr) (m c B : Nat) (bs : List Nat) (a : Int) (w : World) (h : Rd w B A m c bs) (hb : ∀ x ∈ bs, x < 256) (hm : m ≤ 1000) (ha : -9223372036854775808 ≤ a ∧ a ≤ 9223372036854775807) :
    Calls Try.prog 6 #[.slice A m c, .int .i64 a] w fun e w' => ∃ (v n k : Nat) (xv nv : Value), k ≤ 9 ∧ Hid (UAt bs a v n k) ∧ Hid (xv = .int .u64 (v : Int)) ∧ Hid (nv = .int .i64 (n : Int)) ∧ e = .returned (.tuple #[xv, nv, errV k]) ∧ w = w' := by
  refine (uget_all A m c B bs a w h hb (by omega) ha).mono ?_
  rintro e w' ⟨v, n, k, hu, he, hw⟩
  refine ⟨v, n, k, _, _, ?_, Lib.hid hu, Lib.hid rfl, Lib.hid rfl, he, hw⟩
  rcases hu with ⟨_, _, _, h4⟩ | ⟨_, _, _, h4⟩
  · omega
  · have := gets_le h4; omega
theorem rget_as (A : Option Addr) (m c B : Nat) (bs : List Nat) (a : Int) (w : World) (h : Rd w B A m c bs) (hb : ∀ x ∈ bs, x < 256) (hm : m ≤ 1000) (ha : -9223372036854775808 ≤ a ∧ a ≤ 9223372036854775807)
    (v n k : Nat) (xv nv : Value) (hu : UAt bs a v n k) (hx : xv = .int .u64 (v : Int)) (hn : nv = .int .i64 (n : Int)) :
    Calls Try.prog 7 #[.slice A m c, .int .i64 a] w fun e w' => e = .returned (.tuple #[xv, nv, .int .i64 (k : Int)]) ∧ w = w' := by
  refine (rget_all A m c B bs a w h hb (by omega) ha).mono ?_
  rintro e w' ⟨v', n', k', hu', he, hw⟩
  obtain ⟨rfl, rfl, rfl⟩ := hu.same hu'
  subst hx hn
  exact ⟨he, hw⟩

set_option maxRecDepth 100000 in
set_option maxHeartbeats 2000000 in
theorem utells_in (A : Option Addr) (m c : Nat) (bs : List Nat) (v : Nat) (a : Int) (w : World) (h : Rd w w.heap.size A m c bs) (hb : ∀ x ∈ bs, x < 256) (hm : m ≤ 1000) (hv : v ≤ 18446744073709551615)
    (ha : -9223372036854775808 ≤ a ∧ a ≤ 9223372036854775807) :
    Calls Try.prog 3 #[.int .u64 (v : Int), .slice A m c, .int .i64 a] w (RetTrue w) := by
  obtain ⟨bl, HBL⟩ : ∃ bl, Hid (uvB v = bl) := ⟨_, Lib.hid rfl⟩
  obtain ⟨s, HS⟩ : ∃ s, Hid (Value.string (strB bl) = s) := ⟨_, Lib.hid rfl⟩
  go_enter Try.func3, Try.ntmps3
  go_wp2_with fail
  refine (up3_any w).mono ?_
  rintro e W ⟨rfl, hW⟩
  go_wp2_with fail
  refine (uget_as A m c _ bs a W (h.below hW) hb hm ha).mono ?_
  rintro e w' ⟨x, n, k, xv, nv, hk, HU, HX, HN, rfl, rfl⟩
  go_wp2_with fail
  refine (rget_as A m c _ bs a W (h.below hW) hb hm ha x n k xv nv HU.out HX.out HN.out).mono ?_
  rintro e w' ⟨rfl, rfl⟩
  go_wp2_with fail
  clear h hb ha
  have hg1 := fun x y w => guard_str 9 x y w s _ HS.out
  have hg2 := fun x y w => guard_int 22 x y w xv xv .u64 _ _ HX.out HX.out
  have hg3 := fun x y w => guard_int 3 x y w nv nv .i64 _ _ HN.out HN.out
  go_region_with (first
    | (go_at_call 8; ((with_reducible refine (uput_any v _ hv).mono ?_); rw [HBL.out]; rintro e w1 ⟨A1, c1, rfl, hown1⟩; have hs1 := run_str hown1.rd; rw [HS.out] at hs1; (try (have hs3 := run_str (hown2.keep hown1.bel).rd; rw [HS.out] at hs3)); have q1 := run_eq_str w1 s _ HS.out; have q2 := run_eq_int w1 22 xv xv .u64 _ HX.out HX.out; have q3 := run_eq_int w1 3 nv nv .i64 _ HN.out HN.out))
    | (go_at_call 9; ((with_reducible refine (refuv_any v _ hv).mono ?_); rw [HBL.out]; rintro e w2 ⟨A2, c2, rfl, hown2⟩; have hs2 := run_str hown2.rd; rw [HS.out] at hs2; (try (have hs3 := run_str (hown1.keep hown2.bel).rd; rw [HS.out] at hs3)); have q4 := run_eq_str w2 s _ HS.out; have q5 := run_eq_int w2 22 xv xv .u64 _ HX.out HX.out; have q6 := run_eq_int w2 3 nv nv .i64 _ HN.out HN.out))
    | (go_at_call 10; ((with_reducible refine (code_any k _ hk).mono ?_); rintro e w3 ⟨rfl, rfl⟩)))
  all_goals
    clear hg1 hg2 hg3 hs1 hs2 hs3 q1 q2 q3 q4 q5 q6
    go_wp2
    go_ret
    exact ⟨rfl, utells_below hW hown1.bel hown2.bel⟩

theorem utells_all (A : Option Addr) (m c : Nat) (bs : List Nat) (v : Nat) (a : Int) (w : World) (h : Rd w w.heap.size A m c bs) (hb : ∀ x ∈ bs, x < 256) (hm : m ≤ 9223372036854775807) (hv : v ≤ 18446744073709551615)
    (ha : -9223372036854775808 ≤ a ∧ a ≤ 9223372036854775807) :
    Calls Try.prog 3 #[.int .u64 (v : Int), .slice A m c, .int .i64 a] w (RetTrue w) := by
  by_cases hs : m ≤ 1000
  · exact utells_in A m c bs v a w h hb hs hv ha
  · exact utells_big A m c v a w hm (by omega)

end Go.Proofs.Ytnngbbkkjmcgkaa
