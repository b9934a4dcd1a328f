/-
  UvarBack, walked: it returns true, whatever the arguments.
-/
import Derived.Test.YtnngbbkkjmcgkaaUvUp
import Derived.Test.YtnngbbkkjmcgkaaPick
import Derived.Test.YtnngbbkkjmcgkaaLaw
namespace Go.Proofs.Ytnngbbkkjmcgkaa
open Go.RowKit

set_option maxHeartbeats 400000 in
theorem uback_big (A1 A2 : Option Addr) (m1 c1 m2 c2 : Nat) (v a : Int) (w : World) (_hl : m1 ≤ 9223372036854775807 ∧ m2 ≤ 9223372036854775807) (h : 1000 < m1 ∨ (m1 ≤ 1000 ∧ 1000 < m2)) :
    Calls Try.prog 4 #[.int .u64 v, .slice A1 m1 c1, .slice A2 m2 c2, .int .i64 a] w (RetTrue w) := by
  rcases h with h | h
  all_goals
    go_enter Try.func4, Try.ntmps4
    go_wp2_with (go_at_call 5; refine (up3_any _).mono ?_; rintro e w1 ⟨rfl, hb1⟩)
    go_ret
    exact ⟨rfl, hb1⟩

/-- a number's bytes amid others are got -/
theorem uback_got (A : Option Addr) (m c B : Nat) (b bl rest r : List Nat) (v : Nat) (w : World) (h : Rd w B A m c r) (hr : r = b ++ bl ++ rest) (hbl : uvB v = bl) (hb : ∀ x ∈ b, x < 256) (hrest : ∀ x ∈ rest, x < 256) (hm : m ≤ 10000) (hv : v ≤ 18446744073709551615) (mb : Nat) (hmb : b.length = mb) :
    Calls Try.prog 6 #[.slice A m c, .int .i64 (mb : Int)] w fun e w' => e = .returned (.tuple #[.int .u64 (v : Int), .int .i64 ((bl.length : Nat) : Int), .nilIface]) ∧ w = w' := by
  subst hr hbl hmb
  have hl := h.len
  rw [List.length_append, List.length_append] at hl
  refine (uget_all A m c B _ _ w h (fun x hx => ?_) (by omega) (by omega)).mono ?_
  · rcases List.mem_append.1 hx with hx | hx
    · rcases List.mem_append.1 hx with hx | hx
      · exact hb x hx
      · exact uvB_lt v x hx
    · exact hrest x hx
  · rintro e w' ⟨v', n', k', hu, he, hw⟩
    obtain ⟨rfl, rfl, rfl⟩ := hu.same (v' := v) (n' := (uvB v).length) (e' := 0) (.inr ⟨b.length, rfl, by simp, by rw [List.append_assoc, List.drop_left]; exact gets_put v rest hv⟩)
    exact ⟨he, hw⟩
/-- cut off they end too early -/
theorem uback_cut (A : Option Addr) (p c B : Nat) (bl : List Nat) (v : Nat) (w : World) (h : Rd w B A p c (bl.take p)) (hbl : uvB v = bl) (hp : p < bl.length) (hv : v ≤ 18446744073709551615) :
    Calls Try.prog 6 #[.slice A p c, .int .i64 0] w fun e w' => e = .returned (.tuple #[.int .u64 0, .int .i64 0, .iface 36 (.int .i64 2)]) ∧ w = w' := by
  subst hbl
  have ht := uvB_ten v hv
  refine (uget_all A p c B _ 0 w h (fun x hx => uvB_lt v x (List.mem_of_mem_take hx)) (by omega) (by omega)).mono ?_
  rintro e w' ⟨v', n', k', hu, he, hw⟩
  obtain ⟨rfl, rfl, rfl⟩ := hu.same (v' := 0) (n' := 0) (e' := 2) (.inr ⟨0, rfl, by omega, by rw [List.drop_zero]; exact gets_cut v p hv hp⟩)
  exact ⟨he, hw⟩
/-- what is got, put, is those bytes -/
theorem uback_back (A : Option Addr) (m c B : Nat) (b : List Nat) (w : World) (h : Rd w B A m c b) (hb : ∀ x ∈ b, x < 256) (hm : m ≤ 1000) :
    Calls Try.prog 6 #[.slice A m c, .int .i64 0] w fun e w' => ∃ (y n k : Nat) (mv : Value), (k = 0 → n ≤ m ∧ uvB y = b.take n) ∧ n ≤ 10 ∧ y ≤ 18446744073709551615 ∧ Hid (mv = .int .i64 (n : Int)) ∧ e = .returned (.tuple #[.int .u64 (y : Int), mv, errV k]) ∧ w = w' := by
  refine (uget_all A m c B b 0 w h hb (by omega) (by omega)).mono ?_
  rintro e w' ⟨v', n', k', hu, he, hw⟩
  rcases hu with ⟨h1, _⟩ | ⟨j, h1, h2, h3⟩
  · have := h.len; omega
  · obtain rfl : j = 0 := by omega
    rw [List.drop_zero] at h3
    have h4 := gets_le h3
    refine ⟨v', n', k', _, fun hk => ?_, h4.2.1, h4.1, Lib.hid rfl, he, hw⟩
    have h5 := gets_back hb h3 hk
    rw [h.len] at h5
    exact h5

theorem pick_fact (a : Int) (n : Nat) (h : 0 < n) : ∃ p : Nat, a % (n : Int) = (p : Int) ∧ p < n := by
  have h1 := Int.emod_nonneg a (show (n : Int) ≠ 0 by omega)
  have h2 := Int.emod_lt_of_pos a (show (0 : Int) < n by omega)
  exact ⟨(a % n).toNat, by omega, by omega⟩

theorem guard_err0 (x : Operand) (w : World) : (eqGuard .neq 26 x (.const .nilIface) (errV 0) .nilIface).run Try.prog w = .ok () w := by
  unfold errV
  simp [go_sem]
theorem neq_err0 (w : World) : (binOp .neq 26 (errV 0) .nilIface).run Try.prog w = .ok (.bool false) w := by
  unfold errV
  simp [go_sem]
theorem run_leq_int (w : World) (t : TypeId) (v : Value) (n m : Nat) (h : v = .int .i64 (n : Int)) (hn : n ≤ m) : (binOp .leq t v (.int .i64 (m : Int))).run Try.prog w = .ok (.bool true) w := by
  subst h
  simp [go_sem, hn]

theorem uback_below {w w1 w2 : World} (h : Below w.heap.size w w1) (h2 : Below w1.drew.heap.size w1.drew w2) : Below w.heap.size w w2 := h.trans ((undrew (a := w1) h2).mono h.size)
theorem uback_drewN {B : Nat} {w w1 : World} (h : Below B w w1) (n : Nat) : Below B w (w1.drewN n) := ⟨h.os, h.tape, h.output, h.size, h.block⟩
theorem bound_as (w : World) (v : Value) (n c : Nat) (h : v = .int .i64 (n : Int)) (hn : n ≤ c) : (Instr.sliceBound v c .sliceAcap).run Try.prog w = .ok n w := by
  subst h
  simp [go_sem, hn]

set_option maxRecDepth 100000 in
set_option maxHeartbeats 4000000 in
theorem uback_in (A1 A2 : Option Addr) (m1 c1 m2 c2 : Nat) (b rest : List Nat) (v : Nat) (a : Int) (w : World) (h1 : Rd w w.heap.size A1 m1 c1 b) (h2 : Rd w w.heap.size A2 m2 c2 rest)
    (hb1 : ∀ x ∈ b, x < 256) (hb2 : ∀ x ∈ rest, x < 256) (hm1 : m1 ≤ 1000) (hm2 : m2 ≤ 1000) (hv : v ≤ 18446744073709551615) :
    Calls Try.prog 4 #[.int .u64 (v : Int), .slice A1 m1 c1, .slice A2 m2 c2, .int .i64 a] w (RetTrue w) := by
  obtain ⟨bl, HBL⟩ : ∃ bl, Hid (uvB v = bl) := ⟨_, Lib.hid rfl⟩
  have hl1 : 0 < bl.length := by rw [← HBL.out]; exact uvB_pos v
  have hl2 : bl.length ≤ 10 := by rw [← HBL.out]; exact uvB_ten v hv
  have hne0 : (bl.length : Int) ≠ 0 := by omega
  have hd0 : ((bl.length : Int) == 0) = false := beq_eq_false_iff_ne.mpr hne0
  obtain ⟨p, hp, hpl⟩ := pick_fact a bl.length hl1
  have HP := Lib.hid hp
  clear hp hne0
  go_enter Try.func4, Try.ntmps4
  go_wp2_with fail
  refine (up3_any w).mono ?_
  rintro e W ⟨rfl, hW⟩
  go_wp2_with fail
  refine (uput_any v W hv).mono ?_
  rw [HBL.out]
  rintro e W1 ⟨Ac, cc, rfl, hown⟩
  have hW1 := hW.trans (hown.bel.mono hW.size)
  have hr1 := (h1.below hW1).more hW1.size
  have hr2 := (h2.below hW1).more hW1.size
  have hrc := hown.rd
  obtain ⟨r, HR⟩ : ∃ r, Hid (r = b ++ bl ++ rest) := ⟨_, Lib.hid rfl⟩
  have HRL : Hid (r.length = m1 + bl.length + m2) := Lib.hid (by rw [HR.out, List.length_append, List.length_append, h1.len, h2.len])
  have HBM : Hid (b.length = m1) := Lib.hid h1.len
  go_wp2_with (first
    | (at_builtin; (refine wpList_app rfl (.tmp 41) (.tmp 42) rfl rfl rfl (Own.lit0 (Below.refl _ W1)) (hr1.below ((Below.refl _ W1).alloc (Nat.le_refl _) _)) (by simp; omega) ?_; intro v5 w5 ho5; rw [List.nil_append] at ho5))
    | (at_builtin; (refine wpList_app rfl (.tmp 43) (.tmp 44) rfl rfl rfl ho5 (hrc.below ho5.bel) (by have := HBM.out; omega) ?_; intro v6 w6 ho6))
    | (at_builtin; (refine wpList_app rfl (.tmp 45) (.tmp 46) rfl rfl rfl ho6 (hr2.below ho6.bel) (by rw [List.length_append]; have := HBM.out; omega) ?_; intro v7 w7 ho7; rw [← HR.out] at ho7; obtain ⟨A7, c7, rfl, hr7⟩ := ho7.form)))
  refine (uback_got A7 _ c7 _ b bl rest r v _ hr7 HR.out HBL.out hb1 hb2 (by have := HRL.out; omega) hv m1 HBM.out).mono ?_
  rintro e w' ⟨rfl, rfl⟩
  have hW7 := hW1.trans (ho7.bel.mono hW1.size)
  replace hr1 := (hr1.below ho7.bel).more ho7.bel.size
  replace hrc := (hrc.below ho7.bel).more ho7.bel.size
  clear ho5 ho6 hr2 h2 hb2 hr7 ho7 hown hW hW1
  go_wp2_with fail
  refine (pick_any a bl.length w7 (by omega) (by omega)).mono ?_
  rw [HP.out]
  rintro e w' ⟨rfl, rfl⟩
  have hcap := hrc.cap
  have hpc : p ≤ cc := by omega
  go_wp2_with fail
  refine (uback_cut Ac p cc _ bl v w7 (hrc.cutHead (Nat.le_of_lt hpl)) HBL.out hpl hv).mono ?_
  rintro e w' ⟨rfl, rfl⟩
  go_wp2_with fail
  refine (code_some 2 w7 (by omega) (by omega)).mono ?_
  rintro e w' ⟨rfl, rfl⟩
  go_wp2_with fail
  refine (uback_back A1 m1 c1 _ b w7 hr1 hb1 hm1).mono ?_
  rintro e w' ⟨y, n, k, mv, hyk, hn, hy, HM, rfl, rfl⟩
  by_cases hk : k = 0
  · obtain ⟨hnm, hyb⟩ := hyk hk
    have HYB := Lib.hid hyb
    clear hyk hyb
    subst hk
    obtain ⟨s, HS⟩ : ∃ s, Hid (Value.string (strB (uvB y)) = s) := ⟨_, Lib.hid rfl⟩
    go_wp2_with fail
    have hg1 := fun x y w => guard_str 9 x y w s _ HS.out
    have hg2 := fun x w => guard_err0 x w
    have hc1 := hr1.cap
    have hsb := fun w => bound_as w mv n c1 HM.out (by omega)
    have q0 := neq_err0 w7.drew
    have q1 := run_leq_int w7.drew 3 mv n m1 HM.out hnm
    have hz := run_str (hr1.cutHead hnm).drew
    rw [← HYB.out, HS.out] at hz
    go_region_with (first
      | (go_at_call 8; ((with_reducible refine (uput_any y _ hy).mono ?_); rintro e w8 ⟨A8, c8, rfl, ho8⟩; have hs1 := run_str ho8.rd; rw [HS.out] at hs1; have hs3 := run_str ((hr1.cutHead hnm).drew.below ho8.bel); rw [← HYB.out, HS.out] at hs3; have q4 := run_eq_str w8 s _ HS.out; have hb8 := ho8.bel)))
    all_goals
      clear hg1 hg2 hsb q0 q1 hz hs1 hs3 q4 ho8
      go_wp2
      go_ret
      exact ⟨by kernel_rfl, uback_below hW7 hb8⟩
  · clear hyk
    have he : errV k = .iface 36 (.int .i64 (k : Int)) := if_neg hk
    rw [he]
    clear he
    go_wp2_with fail
    go_quiet (fail)
    go_wp2
    go_ret
    exact ⟨rfl, uback_drewN hW7 _⟩

theorem uback_all (A1 A2 : Option Addr) (m1 c1 m2 c2 : Nat) (b rest : List Nat) (v : Nat) (a : Int) (w : World) (h1 : Rd w w.heap.size A1 m1 c1 b) (h2 : Rd w w.heap.size A2 m2 c2 rest)
    (hb1 : ∀ x ∈ b, x < 256) (hb2 : ∀ x ∈ rest, x < 256) (hl : m1 ≤ 9223372036854775807 ∧ m2 ≤ 9223372036854775807) (hv : v ≤ 18446744073709551615) :
    Calls Try.prog 4 #[.int .u64 (v : Int), .slice A1 m1 c1, .slice A2 m2 c2, .int .i64 a] w (RetTrue w) := by
  by_cases hs : m1 ≤ 1000 ∧ m2 ≤ 1000
  · exact uback_in A1 A2 m1 c1 m2 c2 b rest v a w h1 h2 hb1 hb2 hs.1 hs.2 hv
  · exact uback_big A1 A2 m1 c1 m2 c2 v a w hl (by omega)

end Go.Proofs.Ytnngbbkkjmcgkaa
