/-
  The contracts of layer 17's New, Next, Look and Err, and of its stand.
-/
import Derived.Test.YtcnhagngcgoiaaaDoorCur1
import Derived.Deep.DeepCutAuto
import Derived.Deep.RegionHeld3
namespace Go.Proofs.YtcnhagngcgoiaaaDoor
open Go.RowKit

set_option maxRecDepth 20000 in
set_option maxHeartbeats 2000000 in
theorem cur_new (A : Option Addr) (n c : Nat) (er : Value) (w : World) (he : IsErr er) :
    Calls Tryd.prog 22 #[.slice A n c, er] w fun e w' => e = .returned (.agg #[.slice A n c, er, .int .i64 (-1), .bool false]) ∧ Below w.heap.size w w' := by
  rcases he with rfl | ⟨k, rfl⟩
  all_goals
    go_enter Tryd.func22, Tryd.ntmps22
    go_wp2
    refine bodyPost_ret ?_ rfl ⟨rfl, by repeat (first | with_reducible exact Below.refl _ _ | with_reducible assumption | with_reducible refine Below.drew ?_ | with_reducible refine below_drewN ?_ _ | with_reducible refine Below.alloc ?_ (by (first | assumption | omega | (simp; done) | (simp; omega))) _ | with_reducible refine below_set ?_ (by (first | assumption | omega | (simp; done) | (simp; omega))) _ _)⟩
    simp [results, Tryd.results22, go_sem]

/-- a cursor and an answer -/
def RetCur (w : World) (A : Option Addr) (n c : Nat) (er : Value) (R : Bool → Int → Prop) (e : Ending) (w' : World) : Prop :=
  ∃ ok a', e = .returned (.tuple #[.agg #[.slice A n c, er, .int .i64 a', .bool (!ok)], .bool ok]) ∧ R ok a' ∧ Below w.heap.size w w'
/-- what stand comes to -/
def StandR (n : Nat) (a b : Int) (ok : Bool) (a' : Int) : Prop := (b < (n : Int) ∧ ok = true ∧ a' = b) ∨ ((n : Int) ≤ b ∧ ok = false ∧ a' = a)

set_option maxRecDepth 20000 in
set_option maxHeartbeats 2000000 in
theorem stand_any (A : Option Addr) (n c : Nat) (er : Value) (a b : Int) (w : World) (he : IsErr er) :
    Calls Tryd.prog 41 #[.agg #[.slice A n c, er, .int .i64 a, .bool false], .int .i64 b] w (RetCur w A n c er (StandR n a b)) := by
  rcases he with rfl | ⟨k, rfl⟩
  all_goals
    go_enter Tryd.func41, Tryd.ntmps41
    by_cases hb : b < (n : Int)
    · have hn : ¬ (n : Int) ≤ b := by omega
      go_wp2
      refine bodyPost_ret ?_ rfl ⟨true, b, rfl, .inl ⟨hb, rfl, rfl⟩, by repeat (first | with_reducible exact Below.refl _ _ | with_reducible assumption | with_reducible refine Below.drew ?_ | with_reducible refine below_drewN ?_ _ | with_reducible refine Below.alloc ?_ (by (first | assumption | omega | (simp; done) | (simp; omega))) _ | with_reducible refine below_set ?_ (by (first | assumption | omega | (simp; done) | (simp; omega))) _ _)⟩
      simp [results, Tryd.results41, go_sem]
    · have hn : (n : Int) ≤ b := by omega
      go_wp2
      refine bodyPost_ret ?_ rfl ⟨false, a, rfl, .inr ⟨hn, rfl, rfl⟩, by repeat (first | with_reducible exact Below.refl _ _ | with_reducible assumption | with_reducible refine Below.drew ?_ | with_reducible refine below_drewN ?_ _ | with_reducible refine Below.alloc ?_ (by (first | assumption | omega | (simp; done) | (simp; omega))) _ | with_reducible refine below_set ?_ (by (first | assumption | omega | (simp; done) | (simp; omega))) _ _)⟩
      simp [results, Tryd.results41, go_sem]

set_option maxRecDepth 20000 in
set_option maxHeartbeats 2000000 in
theorem cur_next (A : Option Addr) (n c : Nat) (er : Value) (a : Int) (d : Bool) (w : World) (he : IsErr er) (ha : StandsAt n a) (hn : n ≤ 100000) :
    Calls Tryd.prog 28 #[.agg #[.slice A n c, er, .int .i64 a, .bool d]] w (RetCur w A n c er (NextR n a d)) := by
  have hS := fun X => stand_any A n c er a (a + 1) X he
  have hw : IntKind.i64.wrap (a + 1) = a + 1 := IntWalk.i64_in _ (by unfold StandsAt at ha; omega)
  have HA := Lib.hid ha
  clear ha
  rcases he with rfl | ⟨k, rfl⟩
  · go_enter Tryd.func28, Tryd.ntmps28
    cases d
    · go_wp2_with fail
      refine (hS _).mono ?_
      rintro e w3 ⟨ok, a', rfl, hr, hb⟩
      have hR : NextR n a false ok a' := by
        have := HA.out
        unfold StandsAt at this
        rcases hr with ⟨h1, rfl, rfl⟩ | ⟨h1, rfl, rfl⟩
        · exact .inl ⟨rfl, h1, rfl, rfl⟩
        · exact .inr ⟨.inr (by omega), rfl, rfl⟩
      clear hr
      have x1 := (BoxL.new_at0 (w := w.alloc (.cells #[.slice A n c, .nilIface, .int .i64 a, .bool false] 55)) (g := w.heap.size + 1) [.slice none 0 0, .nilIface, .int .i64 0, .bool false] 55 (by simp)).below hb
      have hb1 : Below w.heap.size w w3 := Below.trans (by repeat (first | with_reducible exact Below.refl _ _ | with_reducible assumption | with_reducible refine Below.drew ?_ | with_reducible refine below_drewN ?_ _ | with_reducible refine Below.alloc ?_ (by (first | assumption | omega | (simp; done) | (simp; omega))) _ | with_reducible refine below_set ?_ (by (first | assumption | omega | (simp; done) | (simp; omega))) _ _)) (hb.mono (by simp; omega))
      obtain ⟨u0, u1, u2, u3⟩ := x1.get4c
      obtain ⟨f0, f1, f2, f3⟩ := x1.free4c
      go_wp2
      replace x1 := x1.all4c (.slice A n c) .nilIface (.int .i64 a') (.bool (!ok))
      obtain ⟨v0, v1, v2, v3⟩ := x1.get4c
      refine bodyPost_ret ?_ rfl ⟨ok, a', rfl, hR, below_set4c hb1 (by omega) _ _ _ _⟩
      simp [results, Tryd.results28, go_sem, v0, v1, v2, v3]
    · go_wp2
      refine bodyPost_ret ?_ rfl ⟨false, a, rfl, .inr ⟨.inl rfl, rfl, rfl⟩, by repeat (first | with_reducible exact Below.refl _ _ | with_reducible assumption | with_reducible refine Below.drew ?_ | with_reducible refine below_drewN ?_ _ | with_reducible refine Below.alloc ?_ (by (first | assumption | omega | (simp; done) | (simp; omega))) _ | with_reducible refine below_set ?_ (by (first | assumption | omega | (simp; done) | (simp; omega))) _ _)⟩
      simp [results, Tryd.results28, go_sem]
  · go_enter Tryd.func28, Tryd.ntmps28
    cases d
    · go_wp2_with fail
      refine (hS _).mono ?_
      rintro e w3 ⟨ok, a', rfl, hr, hb⟩
      have hR : NextR n a false ok a' := by
        have := HA.out
        unfold StandsAt at this
        rcases hr with ⟨h1, rfl, rfl⟩ | ⟨h1, rfl, rfl⟩
        · exact .inl ⟨rfl, h1, rfl, rfl⟩
        · exact .inr ⟨.inr (by omega), rfl, rfl⟩
      clear hr
      have x1 := (BoxL.new_at0 (w := w.alloc (.cells #[.slice A n c, (.iface 69 (.int .i64 k)), .int .i64 a, .bool false] 55)) (g := w.heap.size + 1) [.slice none 0 0, .nilIface, .int .i64 0, .bool false] 55 (by simp)).below hb
      have hb1 : Below w.heap.size w w3 := Below.trans (by repeat (first | with_reducible exact Below.refl _ _ | with_reducible assumption | with_reducible refine Below.drew ?_ | with_reducible refine below_drewN ?_ _ | with_reducible refine Below.alloc ?_ (by (first | assumption | omega | (simp; done) | (simp; omega))) _ | with_reducible refine below_set ?_ (by (first | assumption | omega | (simp; done) | (simp; omega))) _ _)) (hb.mono (by simp; omega))
      obtain ⟨u0, u1, u2, u3⟩ := x1.get4c
      obtain ⟨f0, f1, f2, f3⟩ := x1.free4c
      go_wp2
      replace x1 := x1.all4c (.slice A n c) (.iface 69 (.int .i64 k)) (.int .i64 a') (.bool (!ok))
      obtain ⟨v0, v1, v2, v3⟩ := x1.get4c
      refine bodyPost_ret ?_ rfl ⟨ok, a', rfl, hR, below_set4c hb1 (by omega) _ _ _ _⟩
      simp [results, Tryd.results28, go_sem, v0, v1, v2, v3]
    · go_wp2
      refine bodyPost_ret ?_ rfl ⟨false, a, rfl, .inr ⟨.inl rfl, rfl, rfl⟩, by repeat (first | with_reducible exact Below.refl _ _ | with_reducible assumption | with_reducible refine Below.drew ?_ | with_reducible refine below_drewN ?_ _ | with_reducible refine Below.alloc ?_ (by (first | assumption | omega | (simp; done) | (simp; omega))) _ | with_reducible refine below_set ?_ (by (first | assumption | omega | (simp; done) | (simp; omega))) _ _)⟩
      simp [results, Tryd.results28, go_sem]

set_option maxRecDepth 20000 in
set_option maxHeartbeats 2000000 in
theorem cur_err (A : Option Addr) (n c : Nat) (er : Value) (a : Int) (d : Bool) (w : World) (he : IsErr er) :
    Calls Tryd.prog 26 #[.agg #[.slice A n c, er, .int .i64 a, .bool d]] w fun e w' => e = .returned (bif d then er else .nilIface) ∧ Below w.heap.size w w' := by
  rcases he with rfl | ⟨k, rfl⟩
  all_goals
    go_enter Tryd.func26, Tryd.ntmps26
    cases d
    · go_wp2
      go_ret
      exact ⟨rfl, by repeat (first | with_reducible exact Below.refl _ _ | with_reducible assumption | with_reducible refine Below.drew ?_ | with_reducible refine below_drewN ?_ _ | with_reducible refine Below.alloc ?_ (by (first | assumption | omega | (simp; done) | (simp; omega))) _ | with_reducible refine below_set ?_ (by (first | assumption | omega | (simp; done) | (simp; omega))) _ _)⟩
    · go_wp2
      go_ret
      exact ⟨rfl, by repeat (first | with_reducible exact Below.refl _ _ | with_reducible assumption | with_reducible refine Below.drew ?_ | with_reducible refine below_drewN ?_ _ | with_reducible refine Below.alloc ?_ (by (first | assumption | omega | (simp; done) | (simp; omega))) _ | with_reducible refine below_set ?_ (by (first | assumption | omega | (simp; done) | (simp; omega))) _ _)⟩

set_option maxRecDepth 20000 in
set_option maxHeartbeats 2000000 in
theorem cur_look (A : Option Addr) (n c : Nat) (xs : List (Int × Nat)) (er : Value) (a : Int) (d : Bool) (w : World) (he : IsErr er) (ha : StandsAt n a) (h : RdQ w w.heap.size A n c xs) :
    Calls Tryd.prog 25 #[.agg #[.slice A n c, er, .int .i64 a, .bool d]] w fun e w' => e = .returned (.tuple #[.int .i64 (lookQ xs a d).1, .int .u64 ((lookQ xs a d).2 : Int)]) ∧ Below w.heap.size w w' := by
  have HL := Lib.hid h.len
  unfold lookQ
  rcases he with rfl | ⟨k, rfl⟩
  · go_enter Tryd.func25, Tryd.ntmps25
    cases d
    · by_cases h0 : a < 0
      · rw [if_pos (.inr h0)]
        go_wp2
        refine bodyPost_ret ?_ rfl ⟨rfl, by repeat (first | with_reducible exact Below.refl _ _ | with_reducible assumption | with_reducible refine Below.drew ?_ | with_reducible refine below_drewN ?_ _ | with_reducible refine Below.alloc ?_ (by (first | assumption | omega | (simp; done) | (simp; omega))) _ | with_reducible refine below_set ?_ (by (first | assumption | omega | (simp; done) | (simp; omega))) _ _)⟩
        simp [results, Tryd.results25, go_sem]
      · rw [if_neg (by simp [h0])]
        obtain ⟨m, rfl⟩ := Int.eq_ofNat_of_zero_le (Int.not_lt.1 h0)
        have hm : m < n := by unfold StandsAt at ha; omega
        have hmi : (m : Int) < (n : Int) := by omega
        obtain ⟨ad, rfl, hbl, hc0, hc1⟩ := h.at_ hm
        rw [Int.toNat_natCast]
        generalize xs.getD m (0, 0) = x at *
        obtain ⟨t, v⟩ := x
        simp only at hc0 hc1 ⊢
        have hd0 : ∀ o, (w.alloc o).cell? (ad.add (m * 2)) = some (.int .i64 t) := fun o => (((Below.refl _ w).alloc (Nat.le_refl _) o).cell (p := ad.add (m * 2)) (by rw [add_block]; exact hbl)).trans hc0
        have hd1 : ∀ o, (w.alloc o).cell? ⟨(ad.add (m * 2)).block, (ad.add (m * 2)).off + 1, none⟩ = some (.int .u64 (v : Int)) := fun o => (((Below.refl _ w).alloc (Nat.le_refl _) o).cell (p := ⟨(ad.add (m * 2)).block, (ad.add (m * 2)).off + 1, none⟩) (by show (ad.add (m * 2)).block < _; rw [add_block]; exact hbl)).trans hc1
        clear hc0 hc1
        go_upto_region 4 with fail
        have x1 := BoxL.new_at0 (w := w.alloc (.cells #[.slice (some ad) n c, .nilIface, .int .i64 (m : Int), .bool false] 55)) (g := w.heap.size + 1) [.int .i64 t, .int .u64 (v : Int)] 50 (by simp)
        obtain ⟨u0, u1⟩ := x1.get2
        go_quiet (fail)
        go_wp2
        refine bodyPost_ret ?_ rfl ⟨rfl, by repeat (first | with_reducible exact Below.refl _ _ | with_reducible assumption | with_reducible refine Below.drew ?_ | with_reducible refine below_drewN ?_ _ | with_reducible refine Below.alloc ?_ (by (first | assumption | omega | (simp; done) | (simp; omega))) _ | with_reducible refine below_set ?_ (by (first | assumption | omega | (simp; done) | (simp; omega))) _ _)⟩
        simp [results, Tryd.results25, go_sem]
    · rw [if_pos (.inl rfl)]
      go_wp2
      refine bodyPost_ret ?_ rfl ⟨rfl, by repeat (first | with_reducible exact Below.refl _ _ | with_reducible assumption | with_reducible refine Below.drew ?_ | with_reducible refine below_drewN ?_ _ | with_reducible refine Below.alloc ?_ (by (first | assumption | omega | (simp; done) | (simp; omega))) _ | with_reducible refine below_set ?_ (by (first | assumption | omega | (simp; done) | (simp; omega))) _ _)⟩
      simp [results, Tryd.results25, go_sem]
  · go_enter Tryd.func25, Tryd.ntmps25
    cases d
    · by_cases h0 : a < 0
      · rw [if_pos (.inr h0)]
        go_wp2
        refine bodyPost_ret ?_ rfl ⟨rfl, by repeat (first | with_reducible exact Below.refl _ _ | with_reducible assumption | with_reducible refine Below.drew ?_ | with_reducible refine below_drewN ?_ _ | with_reducible refine Below.alloc ?_ (by (first | assumption | omega | (simp; done) | (simp; omega))) _ | with_reducible refine below_set ?_ (by (first | assumption | omega | (simp; done) | (simp; omega))) _ _)⟩
        simp [results, Tryd.results25, go_sem]
      · rw [if_neg (by simp [h0])]
        obtain ⟨m, rfl⟩ := Int.eq_ofNat_of_zero_le (Int.not_lt.1 h0)
        have hm : m < n := by unfold StandsAt at ha; omega
        have hmi : (m : Int) < (n : Int) := by omega
        obtain ⟨ad, rfl, hbl, hc0, hc1⟩ := h.at_ hm
        rw [Int.toNat_natCast]
        generalize xs.getD m (0, 0) = x at *
        obtain ⟨t, v⟩ := x
        simp only at hc0 hc1 ⊢
        have hd0 : ∀ o, (w.alloc o).cell? (ad.add (m * 2)) = some (.int .i64 t) := fun o => (((Below.refl _ w).alloc (Nat.le_refl _) o).cell (p := ad.add (m * 2)) (by rw [add_block]; exact hbl)).trans hc0
        have hd1 : ∀ o, (w.alloc o).cell? ⟨(ad.add (m * 2)).block, (ad.add (m * 2)).off + 1, none⟩ = some (.int .u64 (v : Int)) := fun o => (((Below.refl _ w).alloc (Nat.le_refl _) o).cell (p := ⟨(ad.add (m * 2)).block, (ad.add (m * 2)).off + 1, none⟩) (by show (ad.add (m * 2)).block < _; rw [add_block]; exact hbl)).trans hc1
        clear hc0 hc1
        go_upto_region 4 with fail
        have x1 := BoxL.new_at0 (w := w.alloc (.cells #[.slice (some ad) n c, .iface 69 (.int .i64 k), .int .i64 (m : Int), .bool false] 55)) (g := w.heap.size + 1) [.int .i64 t, .int .u64 (v : Int)] 50 (by simp)
        obtain ⟨u0, u1⟩ := x1.get2
        go_quiet (fail)
        go_wp2
        refine bodyPost_ret ?_ rfl ⟨rfl, by repeat (first | with_reducible exact Below.refl _ _ | with_reducible assumption | with_reducible refine Below.drew ?_ | with_reducible refine below_drewN ?_ _ | with_reducible refine Below.alloc ?_ (by (first | assumption | omega | (simp; done) | (simp; omega))) _ | with_reducible refine below_set ?_ (by (first | assumption | omega | (simp; done) | (simp; omega))) _ _)⟩
        simp [results, Tryd.results25, go_sem]
    · rw [if_pos (.inl rfl)]
      go_wp2
      refine bodyPost_ret ?_ rfl ⟨rfl, by repeat (first | with_reducible exact Below.refl _ _ | with_reducible assumption | with_reducible refine Below.drew ?_ | with_reducible refine below_drewN ?_ _ | with_reducible refine Below.alloc ?_ (by (first | assumption | omega | (simp; done) | (simp; omega))) _ | with_reducible refine below_set ?_ (by (first | assumption | omega | (simp; done) | (simp; omega))) _ _)⟩
      simp [results, Tryd.results25, go_sem]

end Go.Proofs.YtcnhagngcgoiaaaDoor
