/-
  Texts of this proof, one behind the other: Kin2G, Kin5.
-/
import Derived.Test.YtaebljoacffghaaGreatDoorKinsG
import Derived.Test.YtaebljoacffghaaGreatDoorGets
import Derived.Test.YtaebljoacffghaaGreatDoorXorGets
import Derived.Handy

/-
  The contract of layer 8's getWord.
-/
namespace Go.Proofs.YtaebljoacffghaaGreatDoor
open Go.RowKit

/-- what getWord comes to -/
def RetW (w : World) (p : List Bool) (e : Ending) (w' : World) : Prop :=
  (64 ≤ p.length ∧ e = .returned (.tuple #[.int .u64 ((num (cut p 0 64) : Nat) : Int), .int .i64 64, .nilIface]) ∧ w = w') ∨
  (p.length < 64 ∧ e = .returned (.tuple #[.int .u64 0, .int .i64 0, .iface 59 (.int .i64 2)]) ∧ w = w')
theorem getword_any (A : Option Addr) (m c B : Nat) (bs : List Nat) (a : Int) (w : World) (h : Rd w B A m c bs) (hb : ∀ x ∈ bs, x < 256) (hm : m ≤ 140737488355328)
    (ha : -9223372036854775808 ≤ a ∧ a ≤ 9223372036854775807) :
    Calls Tryz.prog 121 #[.slice A m c, .int .i64 a] w (RetW w (restL bs a)) := by
  have hT := fun w (h : Rd w B A m c bs) => take_all A m c B bs a ((64 : Nat) : Int) w h hb hm ha (by omega)
  have hl := h.len
  by_cases hy : 64 ≤ (restL bs a).length
  · have hin : 0 ≤ a ∧ a ≤ 8 * (m : Int) := by
      by_cases g : 0 ≤ a ∧ a ≤ 8 * (m : Int)
      · exact g
      · rw [restL_no (by omega)] at hy
        simp at hy
    obtain ⟨a', rfl⟩ := Int.eq_ofNat_of_zero_le hin.1
    have h1 := take_rest (bs := bs) (a := a') (j := 0) (n := 64) (by omega) (by omega)
    rw [decide_eq_true (by omega)] at h1
    have H1 : Hid (takeB bs (a' : Int) ((64 : Nat) : Int) = true) := Lib.hid h1.1
    have H2 : Hid (takeN bs (a' : Int) ((64 : Nat) : Int) = num (cut (restL bs (a' : Int)) 0 64)) := Lib.hid (h1.2 (by omega))
    clear h1
    go_enter Tryz.func121, Tryz.ntmps121
    go_wp2_with (go_at_call 110; refine (hT _ h).mono ?_; rintro e w1 ⟨rfl, rfl⟩; rw [H1.out, H2.out])
    go_ret3
    exact .inl ⟨hy, rfl, rfl⟩
  · have H1 : Hid (takeB bs a ((64 : Nat) : Int) = false) := Lib.hid (by
      by_cases g : 0 ≤ a ∧ a ≤ 8 * (m : Int)
      · obtain ⟨a', rfl⟩ := Int.eq_ofNat_of_zero_le g.1
        have h1 := take_rest (bs := bs) (a := a') (j := 0) (n := 64) (by omega) (by omega)
        rw [decide_eq_false (by omega)] at h1
        exact h1.1
      · exact (takeB_no (by omega)).1)
    go_enter Tryz.func121, Tryz.ntmps121
    go_wp2_with (go_at_call 110; refine (hT _ h).mono ?_; rintro e w1 ⟨rfl, rfl⟩; rw [H1.out])
    go_ret3
    exact .inr ⟨by omega, rfl, rfl⟩

end Go.Proofs.YtaebljoacffghaaGreatDoor

/-
  The contracts of layer 8's getTime and getValue.
-/
namespace Go.Proofs.YtaebljoacffghaaGreatDoor
open Go.RowKit

theorem sumT_wrap (a b c : Int) : wrap64 (wrap64 (a + b) + c) = w64 (a + b + c) := by
  rw [w64_wrap, w64_wrap]
  unfold w64
  omega
theorem sumE_wrap (a b : Nat) (c : Int) : IntKind.u64.wrap (IntKind.u64.wrap ((a : Int) + (b : Int)) + IntKind.u64.wrap c) = ((un64 ((a : Int) + (b : Int) + c) : Nat) : Int) := by
  rw [u64_mod, u64_mod, u64_mod, un64_cast]
  omega
theorem errV_zero : errV 0 = .nilIface := rfl
theorem errV_some {e : Nat} (h : e ≠ 0) : errV e = .iface 59 (.int .i64 (e : Int)) := by unfold errV; rw [if_neg h]

set_option maxRecDepth 20000 in
set_option maxHeartbeats 1000000 in
theorem gettime_first (A : Option Addr) (m c B : Nat) (bs : List Nat) (a : Int) (s : KS) (w : World) (h : Rd w B A m c bs) (hB : B ≤ w.heap.size) (hb : ∀ x ∈ bs, x < 256) (hm : m ≤ 140737488355328)
    (ha : -9223372036854775808 ≤ a ∧ a ≤ 9223372036854775807) (h0 : s.n = 0) :
    Calls Tryz.prog 108 #[(.agg #[.int .i64 (s.n : Int), .int .i64 s.t, .int .i64 s.d, .int .u64 (s.v : Int), .int .u64 (s.e : Int), .int .u64 (s.x.prev : Int), .int .i64 (s.x.lead : Int), .int .i64 (s.x.len : Int)]), .slice A m c, .int .i64 a] w fun e w' =>
      ((64 ≤ (restL bs a).length ∧ e = .returned (.tuple #[.int .i64 (sgnN (num (cut (restL bs a) 0 64)) 64), .int .i64 64, .nilIface])) ∨
      ((restL bs a).length < 64 ∧ e = .returned (.tuple #[.int .i64 0, .int .i64 0, .iface 59 (.int .i64 2)]))) ∧ Below w.heap.size w w' := by
  have h1 : ((s.n : Int) == 0) = true := by simp [h0]
  clear h0
  have hb0 : Below w.heap.size w (w.alloc (.cells #[.int .i64 (s.n : Int), .int .i64 s.t, .int .i64 s.d, .int .u64 (s.v : Int), .int .u64 (s.e : Int), .int .u64 (s.x.prev : Int), .int .i64 (s.x.lead : Int), .int .i64 (s.x.len : Int)] 151)) := by repeat (first | with_reducible exact Below.refl _ _ | assumption | with_reducible refine Below.drew ?_ | with_reducible refine Below.alloc ?_ (by (first | assumption | omega | (simp; done) | (simp; omega))) _)
  have hG := fun X (hX : Rd X B A m c bs) => getword_any A m c B bs a X hX hb hm ha
  unfold RetW at hG
  have hsg := sg_64 (num (cut (restL bs a) 0 64))
  generalize restL bs a = p at *
  generalize num (cut p 0 64) = x at *
  generalize sgnN x 64 = z at *
  have hz : wrap64 (0 : Int) = 0 := by rw [w64_wrap]; decide
  go_enter Tryz.func108, Tryz.ntmps108
  go_wp2_with fail
  refine (hG _ (h.keep fun _ hp => hb0.cell (Nat.lt_of_lt_of_le hp hB))).mono ?_
  rintro e w1 (⟨hl, rfl, rfl⟩ | ⟨hl, rfl, rfl⟩)
  · go_wp2
    go_ret3
    exact ⟨.inl ⟨hl, by rw [← hsg]; rfl⟩, hb0⟩
  · go_wp2
    go_ret3
    exact ⟨.inr ⟨hl, rfl⟩, hb0⟩

set_option maxRecDepth 20000 in
set_option maxHeartbeats 1000000 in
theorem gettime_later (A : Option Addr) (m c B : Nat) (bs : List Nat) (a : Int) (s : KS) (w : World) (h : Rd w B A m c bs) (hB : B ≤ w.heap.size) (hb : ∀ x ∈ bs, x < 256) (hm : m ≤ 140737488355328)
    (ha : -9223372036854775808 ≤ a ∧ a ≤ 9223372036854775807) (h0 : s.n ≠ 0) (hR : RoomW w) :
    Calls Tryz.prog 108 #[(.agg #[.int .i64 (s.n : Int), .int .i64 s.t, .int .i64 s.d, .int .u64 (s.v : Int), .int .u64 (s.e : Int), .int .u64 (s.x.prev : Int), .int .i64 (s.x.lead : Int), .int .i64 (s.x.len : Int)]), .slice A m c, .int .i64 a] w fun e w' =>
      ∃ st n k, DGets (restL bs a) st n k ∧ e = .returned (.tuple #[.int .i64 (w64 (s.t + s.d + st)), .int .i64 ((n : Nat) : Int), errV k]) ∧ Below w.heap.size w w' := by
  have h1 : ((s.n : Int) == 0) = false := by simp [h0]
  have hb0 : Below w.heap.size w (w.alloc (.cells #[.int .i64 (s.n : Int), .int .i64 s.t, .int .i64 s.d, .int .u64 (s.v : Int), .int .u64 (s.e : Int), .int .u64 (s.x.prev : Int), .int .i64 (s.x.lead : Int), .int .i64 (s.x.len : Int)] 151)) := by repeat (first | with_reducible exact Below.refl _ _ | assumption | with_reducible refine Below.drew ?_ | with_reducible refine Below.alloc ?_ (by (first | assumption | omega | (simp; done) | (simp; omega))) _)
  have hG := fun X (hX : Rd X B A m c bs) hR => dget_all A m c B bs a X hX hb hm ha hR
  have b3 := BoxL.new w [.int .i64 (s.n : Int), .int .i64 s.t, .int .i64 s.d, .int .u64 (s.v : Int), .int .u64 (s.e : Int), .int .u64 (s.x.prev : Int), .int .i64 (s.x.lead : Int), .int .i64 (s.x.len : Int)] 151
  have hRA := hR.bel hb0
  unfold RetD at hG
  generalize restL bs a = p at *
  go_enter Tryz.func108, Tryz.ntmps108
  go_wp2_with fail
  refine (hG _ (h.keep fun _ hp => hb0.cell (Nat.lt_of_lt_of_le hp hB)) hRA).mono ?_
  rintro e w1 ⟨st, n, k, hd, rfl, hw1⟩
  have HD := Lib.hid hd
  clear hd
  obtain ⟨ev, HE⟩ : ∃ ev, Hid (errV k = ev) := ⟨_, Lib.hid rfl⟩
  rw [HE.out]
  obtain ⟨q0, q1, q2, q3, q4, q5, q6, q7⟩ := (b3.below hw1).get8
  have hw := sumT_wrap s.t s.d st
  replace hw1 := hb0.trans (hw1.mono hb0.size)
  clear b3 hG
  go_wp2
  go_ret3
  exact ⟨st, n, k, HD.out, by rw [HE.out, ← hw]; rfl, hw1⟩

/-- what getValue comes to, behind the first sample -/
def RetGV (w : World) (k : Nat) (s : KS) (p : List Bool) (e : Ending) (w' : World) : Prop :=
  ∃ v y m e2, VGets k s p v y m e2 ∧ e = .returned (.tuple #[.int .u64 ((v : Nat) : Int), (.agg #[.int .u64 (y.prev : Int), .int .i64 (y.lead : Int), .int .i64 (y.len : Int)]), .int .i64 ((m : Nat) : Int), errV e2]) ∧ Below w.heap.size w w'

/-- the world behind getValue's two boxes -/
theorem gv_boxes (w : World) (s : KS) : Below w.heap.size w ((w.alloc (.cells #[.int .i64 (s.n : Int), .int .i64 s.t, .int .i64 s.d, .int .u64 (s.v : Int), .int .u64 (s.e : Int), .int .u64 (s.x.prev : Int), .int .i64 (s.x.lead : Int), .int .i64 (s.x.len : Int)] 151)).alloc (.cells #[.int .u64 0, .int .i64 0, .int .i64 0] 149)) ∧
    BoxL ((w.alloc (.cells #[.int .i64 (s.n : Int), .int .i64 s.t, .int .i64 s.d, .int .u64 (s.v : Int), .int .u64 (s.e : Int), .int .u64 (s.x.prev : Int), .int .i64 (s.x.lead : Int), .int .i64 (s.x.len : Int)] 151)).alloc (.cells #[.int .u64 0, .int .i64 0, .int .i64 0] 149)) w.heap.size [.int .i64 (s.n : Int), .int .i64 s.t, .int .i64 s.d, .int .u64 (s.v : Int), .int .u64 (s.e : Int), .int .u64 (s.x.prev : Int), .int .i64 (s.x.lead : Int), .int .i64 (s.x.len : Int)] ∧
    BoxL ((w.alloc (.cells #[.int .i64 (s.n : Int), .int .i64 s.t, .int .i64 s.d, .int .u64 (s.v : Int), .int .u64 (s.e : Int), .int .u64 (s.x.prev : Int), .int .i64 (s.x.lead : Int), .int .i64 (s.x.len : Int)] 151)).alloc (.cells #[.int .u64 0, .int .i64 0, .int .i64 0] 149)) (w.heap.size + 1) [.int .u64 0, .int .i64 0, .int .i64 0] := by
  have h2 := BoxL.new (w.alloc (.cells #[.int .i64 (s.n : Int), .int .i64 s.t, .int .i64 s.d, .int .u64 (s.v : Int), .int .u64 (s.e : Int), .int .u64 (s.x.prev : Int), .int .i64 (s.x.lead : Int), .int .i64 (s.x.len : Int)] 151)) [.int .u64 0, .int .i64 0, .int .i64 0] 149
  simp only [World.size_alloc] at h2
  exact ⟨by repeat (first | with_reducible exact Below.refl _ _ | assumption | with_reducible refine Below.drew ?_ | with_reducible refine Below.alloc ?_ (by (first | assumption | omega | (simp; done) | (simp; omega))) _), (BoxL.new w [.int .i64 (s.n : Int), .int .i64 s.t, .int .i64 s.d, .int .u64 (s.v : Int), .int .u64 (s.e : Int), .int .u64 (s.x.prev : Int), .int .i64 (s.x.lead : Int), .int .i64 (s.x.len : Int)] 151).onA _, h2⟩
theorem below_set3' {B : Nat} {a w : World} (h : Below B a w) {d : Nat} (hd : B ≤ d) (u0 u1 u2 : Value) : Below B a (((w.setCell ⟨d, 0, none⟩ (u0)).setCell ⟨d, 1, none⟩ (u1)).setCell ⟨d, 2, none⟩ (u2)) := below_set (below_set (below_set h hd 0 u0) hd 1 u1) hd 2 u2

set_option maxRecDepth 20000 in
set_option maxHeartbeats 1000000 in
theorem getvalue_first (k : Nat) (A : Option Addr) (m c B : Nat) (bs : List Nat) (a : Int) (s : KS) (w : World) (h : Rd w B A m c bs) (hB : B ≤ w.heap.size) (hb : ∀ x ∈ bs, x < 256) (hm : m ≤ 140737488355328)
    (ha : -9223372036854775808 ≤ a ∧ a ≤ 9223372036854775807) (h0 : s.n = 0) :
    Calls Tryz.prog 109 #[.int .i64 (k : Int), (.agg #[.int .i64 (s.n : Int), .int .i64 s.t, .int .i64 s.d, .int .u64 (s.v : Int), .int .u64 (s.e : Int), .int .u64 (s.x.prev : Int), .int .i64 (s.x.lead : Int), .int .i64 (s.x.len : Int)]), .slice A m c, .int .i64 a] w fun e w' =>
      ((64 ≤ (restL bs a).length ∧ e = .returned (.tuple #[.int .u64 ((num (cut (restL bs a) 0 64) : Nat) : Int), .agg #[.int .u64 0, .int .i64 0, .int .i64 0], .int .i64 64, .nilIface])) ∨
      ((restL bs a).length < 64 ∧ e = .returned (.tuple #[.int .u64 0, .agg #[.int .u64 0, .int .i64 0, .int .i64 0], .int .i64 0, .iface 59 (.int .i64 2)]))) ∧ Below w.heap.size w w' := by
  have h1 : ((s.n : Int) == 0) = true := by simp [h0]
  clear h0
  obtain ⟨hb0, _, _⟩ := gv_boxes w s
  have hG := fun X (hX : Rd X B A m c bs) => getword_any A m c B bs a X hX hb hm ha
  unfold RetW at hG
  generalize restL bs a = p at *
  generalize num (cut p 0 64) = x at *
  go_enter Tryz.func109, Tryz.ntmps109
  go_wp2_with fail
  refine (hG _ (h.keep fun _ hp => hb0.cell (Nat.lt_of_lt_of_le hp hB))).mono ?_
  rintro e w1 (⟨hl, rfl, rfl⟩ | ⟨hl, rfl, rfl⟩)
  · go_wp2
    go_returns
    exact ⟨.inl ⟨hl, rfl⟩, hb0⟩
  · go_wp2
    go_returns
    exact ⟨.inr ⟨hl, rfl⟩, hb0⟩

set_option maxRecDepth 20000 in
set_option maxHeartbeats 1000000 in
theorem getvalue_later (k : Nat) (A : Option Addr) (m c B : Nat) (bs : List Nat) (a : Int) (s : KS) (w : World) (hk : k = 1 ∨ k = 2) (h : Rd w B A m c bs) (hB : B ≤ w.heap.size) (hb : ∀ x ∈ bs, x < 256) (hm : m ≤ 140737488355328)
    (ha : -9223372036854775808 ≤ a ∧ a ≤ 9223372036854775807) (h0 : s.n ≠ 0) (hs : s.May) (hR : RoomW w) (hT : TzW w) :
    Calls Tryz.prog 109 #[.int .i64 (k : Int), (.agg #[.int .i64 (s.n : Int), .int .i64 s.t, .int .i64 s.d, .int .u64 (s.v : Int), .int .u64 (s.e : Int), .int .u64 (s.x.prev : Int), .int .i64 (s.x.lead : Int), .int .i64 (s.x.len : Int)]), .slice A m c, .int .i64 a] w (RetGV w k s (restL bs a)) := by
  have h1 : ((s.n : Int) == 0) = false := by simp [h0]
  obtain ⟨hb0, b5, b9⟩ := gv_boxes w s
  have hr := h.keep fun _ hp => hb0.cell (Nat.lt_of_lt_of_le hp hB)
  have hl9 := b9.lt
  rcases hk with rfl | rfl
  · have hG := fun X (hX : Rd X B A m c bs) (hB : B ≤ X.heap.size) hT => xget_any A m c B bs a s.x.prev s.x.lead s.x.len X hX hB hb hm ha hs.x hT
    unfold RetXG at hG
    have HV : Hid (∀ q, VGets 1 s q (getX s.x q).v (getX s.x q).s (getX s.x q).n (getX s.x q).e) := Lib.hid (fun q => ⟨rfl, rfl, rfl, rfl⟩)
    replace HV := Lib.hid (HV.out (restL bs a))
    unfold RetGV
    change ∀ X, Rd X B A m c bs → B ≤ X.heap.size → TzW X → Calls _ _ _ X (fun e w' => e = .returned (.tuple #[.int .u64 (((getX s.x (restL bs a)).v : Nat) : Int), (.agg #[.int .u64 ((getX s.x (restL bs a)).s.prev : Int), .int .i64 ((getX s.x (restL bs a)).s.lead : Int), .int .i64 ((getX s.x (restL bs a)).s.len : Int)]), .int .i64 (((getX s.x (restL bs a)).n : Nat) : Int), errV (getX s.x (restL bs a)).e]) ∧ Below X.heap.size X w') at hG
    generalize restL bs a = p at *
    generalize getX s.x p = R at *
    obtain ⟨ev, HE⟩ : ∃ ev, Hid (errV R.e = ev) := ⟨_, Lib.hid rfl⟩
    rw [HE.out] at hG
    clear h0
    go_enter Tryz.func109, Tryz.ntmps109
    go_wp2_with fail
    refine (hG _ hr (by have := hb0.size; omega) (hT.bel hb0)).mono ?_
    rintro e w1 ⟨rfl, hw1⟩
    replace b9 := b9.below hw1
    replace hw1 := hb0.trans (hw1.mono hb0.size)
    obtain ⟨u0, u1, u2⟩ := b9.get3
    obtain ⟨v0, v1, v2⟩ := b9.free3
    clear b5 hG hr hb0
    go_wp2
    have hbs := below_set3' hw1 (d := w.heap.size + 1) (by omega) (.int .u64 (R.s.prev : Int)) (.int .i64 (R.s.lead : Int)) (.int .i64 (R.s.len : Int))
    replace b9 := b9.all3 (.int .u64 (R.s.prev : Int)) (.int .i64 (R.s.lead : Int)) (.int .i64 (R.s.len : Int))
    clear u0 u1 u2 v0 v1 v2 hw1
    generalize (((w1.setCell ⟨w.heap.size + 1, 0, none⟩ (.int .u64 (R.s.prev : Int))).setCell ⟨w.heap.size + 1, 1, none⟩ (.int .i64 (R.s.lead : Int))).setCell ⟨w.heap.size + 1, 2, none⟩ (.int .i64 (R.s.len : Int))) = X at *
    obtain ⟨u0, u1, u2⟩ := b9.get3
    refine bodyPost_ret (v := .tuple #[.int .u64 (R.v : Int), (.agg #[.int .u64 (R.s.prev : Int), .int .i64 (R.s.lead : Int), .int .i64 (R.s.len : Int)]), .int .i64 (R.n : Int), ev]) ?_ rfl ⟨_, _, _, _, HV.out, by rw [HE.out], hbs⟩
    simp [results, Tryz.results109, go_sem, u0, u1, u2]
  · have hG := fun X (hX : Rd X B A m c bs) hR => dget_all A m c B bs a X hX hb hm ha hR
    unfold RetD at hG
    unfold RetGV
    generalize restL bs a = p at *
    clear h0
    go_enter Tryz.func109, Tryz.ntmps109
    go_wp2_with fail
    refine (hG _ hr (hR.bel hb0)).mono ?_
    rintro e w1 ⟨st, n, e2, hd, rfl, hw1⟩
    have HV : Hid (VGets 2 s p (un64 ((s.v : Int) + (s.e : Int) + st)) zeroX n e2) := Lib.hid (by unfold VGets; rw [if_neg (by omega)]; exact ⟨st, hd, rfl, rfl⟩)
    have hw := sumE_wrap s.v s.e st
    clear hd
    obtain ⟨ev, HE⟩ : ∃ ev, Hid (errV e2 = ev) := ⟨_, Lib.hid rfl⟩
    rw [HE.out]
    replace b9 := b9.below hw1
    replace b5 := b5.below hw1
    replace hw1 := hb0.trans (hw1.mono hb0.size)
    obtain ⟨q0, q1, q2, q3, q4, q5, q6, q7⟩ := b5.get8
    obtain ⟨u0, u1, u2⟩ := b9.get3
    obtain ⟨v0, v1, v2⟩ := b9.free3
    clear b5 hG hr hb0
    generalize un64 ((s.v : Int) + (s.e : Int) + st) = v at *
    go_wp2
    have hbs := below_set3' hw1 (d := w.heap.size + 1) (by omega) (.int .u64 0) (.int .i64 0) (.int .i64 0)
    replace b9 := b9.all3 (.int .u64 0) (.int .i64 0) (.int .i64 0)
    clear u0 u1 u2 v0 v1 v2 hw1 q0 q1 q2 q3 q4 q5 q6 q7
    generalize (((w1.setCell ⟨w.heap.size + 1, 0, none⟩ (.int .u64 0)).setCell ⟨w.heap.size + 1, 1, none⟩ (.int .i64 0)).setCell ⟨w.heap.size + 1, 2, none⟩ (.int .i64 0)) = X at *
    obtain ⟨u0, u1, u2⟩ := b9.get3
    refine bodyPost_ret (v := .tuple #[.int .u64 (v : Int), (.agg #[.int .u64 (zeroX.prev : Int), .int .i64 (zeroX.lead : Int), .int .i64 (zeroX.len : Int)]), .int .i64 (n : Int), ev]) ?_ rfl ⟨v, zeroX, n, e2, HV.out, by rw [HE.out], hbs⟩
    simp [results, Tryz.results109, go_sem, u0, u1, u2, zeroX]

end Go.Proofs.YtaebljoacffghaaGreatDoor
