/-
  Texts of this proof, one behind the other: RiseQ, Pick, Cur1, CurErr, Cur, CurSeek, CurTo, RefCur.
-/
import Derived.Test.YtaebljoacffghaaGreatDoorWords
import Derived.Deep.DeepCutAuto
import Derived.Deep.RegionHeld3

/-
  Plain: samples whose times rise.
-/
namespace Go.Proofs.YtaebljoacffghaaGreatDoor
open Go.RowKit

/-- the times rise -/
def RiseQ (xs : List (Int × Nat)) : Prop := ∀ i, i + 1 < xs.length → (xs.getD i (0, 0)).1 < (xs.getD (i + 1) (0, 0)).1
theorem RiseQ.nil_ : RiseQ [] := fun i h => absurd h (by simp)
theorem RiseQ.one (x : Int × Nat) : RiseQ [x] := fun i h => absurd h (by simp)
theorem RiseQ.more {xs : List (Int × Nat)} {m : Nat} (h : RiseQ xs) (hm : xs.length = m + 1) (x : Int × Nat) (hx : (xs.getD m (0, 0)).1 < x.1) : RiseQ (xs ++ [x]) := by
  intro i hi
  rw [List.length_append, List.length_singleton] at hi
  simp only [List.getD_eq_getElem?_getD] at *
  by_cases e : i + 1 < xs.length
  · rw [List.getElem?_append_left (by omega), List.getElem?_append_left e]
    have := h i e
    simpa only [List.getD_eq_getElem?_getD] using this
  · obtain rfl : i = m := by omega
    rw [List.getElem?_append_left (by omega), List.getElem?_append_right (by omega)]
    have : i + 1 - xs.length = 0 := by omega
    rw [this]
    simpa using hx

end Go.Proofs.YtaebljoacffghaaGreatDoor

/-
  The contract of Pick: a number modulo another one, from 0 on; it changes nothing.
-/
namespace Go.Proofs.YtaebljoacffghaaGreatDoor
open Go.RowKit

theorem tmod_fact (n b : Int) (hb : 0 < b) : (n.tmod b < 0 → n.tmod b + b = n % b) ∧ (0 ≤ n.tmod b → n.tmod b = n % b) ∧ -b < n.tmod b ∧ n.tmod b < b := by
  have h5 : n.tmod b < b := Int.tmod_lt_of_pos n hb
  have h6 : -b < n.tmod b := by
    have := Int.tmod_lt_of_pos (-n) hb
    rw [Int.neg_tmod] at this
    omega
  have h7 : n.tmod b % b = n % b := by
    have h8 := Int.tmod_add_mul_tdiv n b
    conv => rhs; rw [← h8]
    rw [Int.add_mul_emod_self_left]
  refine ⟨fun h => ?_, fun h => ?_, h6, h5⟩
  · rw [← h7, ← Int.add_emod_right, Int.emod_eq_of_lt (by omega) (by omega)]
  · rw [← h7, Int.emod_eq_of_lt h h5]

set_option maxRecDepth 20000 in
set_option maxHeartbeats 400000 in
theorem pick_any (n b : Int) (w : World) (hb : 0 < b) (hb2 : b ≤ 1000000000) :
    Calls Tryz.prog 23 #[.int .i64 n, .int .i64 b] w fun e w' => e = .returned (.int .i64 (n % b)) ∧ w = w' := by
  obtain ⟨h1, h2, h3, h4⟩ := tmod_fact n b hb
  have H1 := Lib.hid h1
  have H2 := Lib.hid h2
  clear h1 h2
  have h0 : ¬ b = 0 := by omega
  go_enter Tryz.func23, Tryz.ntmps23
  go_wp2
  · go_ret
    rw [← H1.out ‹_›]
    exact ⟨rfl, rfl⟩
  · go_ret
    rw [← H2.out ‹_›]
    exact ⟨rfl, rfl⟩

end Go.Proofs.YtaebljoacffghaaGreatDoor

/-
  Words for a cursor over samples: what Next and Seek come to, as relations of one answer; samples from a place on.
-/
namespace Go.Proofs.YtaebljoacffghaaGreatDoor
open Go.RowKit

/-- from place a on, k is the first sample's place whose time is t at least, or behind all -/
structure Sought (xs : List (Int × Nat)) (t : Int) (a k : Nat) : Prop where
  lo : a ≤ k
  hi : k ≤ xs.length
  less : ∀ i, a ≤ i → i < k → (xs.getD i (0, 0)).1 < t
  here : k < xs.length → t ≤ (xs.getD k (0, 0)).1

theorem Sought.one {xs : List (Int × Nat)} {t : Int} {a k j : Nat} (h : Sought xs t a k) (g : Sought xs t a j) : k = j := by
  have h1 := h.lo
  have h2 := h.hi
  have g1 := g.lo
  have g2 := g.hi
  rcases Nat.lt_trichotomy k j with e | e | e
  · have := g.less k h1 e
    have := h.here (by omega)
    omega
  · exact e
  · have := h.less j g1 e
    have := g.here (by omega)
    omega
theorem Sought.shift {xs : List (Int × Nat)} {t : Int} {a k : Nat} (h : Sought (xs.drop a) t 0 k) (ha : a ≤ xs.length) : Sought xs t a (a + k) := by
  have h2 := h.hi
  rw [List.length_drop] at h2
  refine ⟨by omega, by omega, fun i h1 h3 => ?_, fun h3 => ?_⟩
  · have := h.less (i - a) (by omega) (by omega)
    simp only [List.getD_eq_getElem?_getD, List.getElem?_drop] at this ⊢
    rwa [show a + (i - a) = i by omega] at this
  · have := h.here (by rw [List.length_drop]; omega)
    simp only [List.getD_eq_getElem?_getD, List.getElem?_drop] at this ⊢
    exact this

theorem RiseQ.lt {xs : List (Int × Nat)} (h : RiseQ xs) : ∀ {i j : Nat}, i < j → j < xs.length → (xs.getD i (0, 0)).1 < (xs.getD j (0, 0)).1
  | i, j + 1, hij, hj => by
    have h1 := h j hj
    rcases Nat.lt_or_ge i j with e | e
    · have := RiseQ.lt h e (by omega)
      omega
    · obtain rfl : i = j := by omega
      exact h1
theorem RiseQ.le {xs : List (Int × Nat)} (h : RiseQ xs) {i j : Nat} (hij : i ≤ j) (hj : j < xs.length) : (xs.getD i (0, 0)).1 ≤ (xs.getD j (0, 0)).1 := by
  rcases Nat.lt_or_ge i j with e | e
  · exact Int.le_of_lt (h.lt e hj)
  · obtain rfl : i = j := by omega
    exact Int.le_refl _
theorem RiseQ.drop {xs : List (Int × Nat)} (h : RiseQ xs) (a : Nat) : RiseQ (xs.drop a) := by
  intro i hi
  rw [List.length_drop] at hi
  have := h (a + i) (by omega)
  simpa only [List.getD_eq_getElem?_getD, List.getElem?_drop, Nat.add_assoc] using this

/-- what Next comes to: true or false, and where it stands then (Done is the answer's opposite) -/
def NextR (n : Nat) (a : Int) (d ok : Bool) (b : Int) : Prop := (d = false ∧ a + 1 < (n : Int) ∧ ok = true ∧ b = a + 1) ∨ ((d = true ∨ a + 1 = (n : Int)) ∧ ok = false ∧ b = a)
/-- what Seek comes to -/
def SeekR (xs : List (Int × Nat)) (t : Int) (a : Int) (d ok : Bool) (b : Int) : Prop :=
  (d = true ∧ ok = false ∧ b = a) ∨ (d = false ∧ ∃ k : Nat, Sought xs t a.toNat k ∧ ((k < xs.length ∧ ok = true ∧ b = (k : Int)) ∨ (k = xs.length ∧ ok = false ∧ b = a)))
theorem NextR.one {n : Nat} {a : Int} {d ok ok' : Bool} {b b' : Int} (h : NextR n a d ok b) (g : NextR n a d ok' b') : ok = ok' ∧ b = b' := by
  rcases h with ⟨h1, h2, rfl, rfl⟩ | ⟨h1, rfl, rfl⟩ <;> rcases g with ⟨g1, g2, rfl, rfl⟩ | ⟨g1, rfl, rfl⟩
  · exact ⟨rfl, rfl⟩
  · rcases g1 with rfl | g1
    · cases h1
    · omega
  · rcases h1 with rfl | h1
    · cases g1
    · omega
  · exact ⟨rfl, rfl⟩
theorem SeekR.one {xs : List (Int × Nat)} {t a : Int} {d ok ok' : Bool} {b b' : Int} (h : SeekR xs t a d ok b) (g : SeekR xs t a d ok' b') : ok = ok' ∧ b = b' := by
  rcases h with ⟨rfl, rfl, rfl⟩ | ⟨rfl, k, hk, h⟩ <;> rcases g with ⟨g1, rfl, rfl⟩ | ⟨g1, j, hj, g⟩
  · exact ⟨rfl, rfl⟩
  · cases g1
  · cases g1
  · have := hk.one hj
    subst this
    rcases h with ⟨h1, rfl, rfl⟩ | ⟨h1, rfl, rfl⟩ <;> rcases g with ⟨g1, rfl, rfl⟩ | ⟨g1, rfl, rfl⟩
    · exact ⟨rfl, rfl⟩
    · omega
    · omega
    · exact ⟨rfl, rfl⟩
/-- where a cursor may stand -/
def StandsAt (n : Nat) (a : Int) : Prop := -1 ≤ a ∧ a < (n : Int)
theorem NextR.stands {n : Nat} {a b : Int} {d ok : Bool} (h : NextR n a d ok b) (ha : StandsAt n a) : StandsAt n b := by
  unfold StandsAt at *
  rcases h with ⟨h1, h2, rfl, rfl⟩ | ⟨h1, rfl, rfl⟩ <;> omega
theorem SeekR.stands {xs : List (Int × Nat)} {t a b : Int} {d ok : Bool} (h : SeekR xs t a d ok b) (ha : StandsAt xs.length a) : StandsAt xs.length b := by
  unfold StandsAt at *
  rcases h with ⟨h1, rfl, rfl⟩ | ⟨h1, k, hk, ⟨h2, rfl, rfl⟩ | ⟨h2, rfl, rfl⟩⟩ <;> omega
/-- what Look tells -/
def lookQ (xs : List (Int × Nat)) (a : Int) (d : Bool) : Int × Nat := if d = true ∨ a < 0 then (0, 0) else xs.getD a.toNat (0, 0)

section
variable {w w' : World} {B n c g : Nat} {A : Option Addr} {xs : List (Int × Nat)} {l : List Value}
theorem RdQ.from_ {ad : Addr} {f : Nat} (h : RdQ w B (some ad) n c xs) (hf : f ≤ n) : RdQ w B (some (ad.add (f * 2))) (n - f) (c - f) (xs.drop f) := by
  have hc := h.cap
  refine ⟨by rw [List.length_drop, h.len], by omega, (fun e => by cases e), fun hn => ?_, fun x hx => h.fit x (List.mem_of_mem_drop hx)⟩
  obtain ⟨ad', e, hb, hcell⟩ := h.cell (by omega)
  injection e with e
  subst e
  refine ⟨_, rfl, by rw [add_block]; exact hb, fun j hj => ?_⟩
  have := hcell (f + j) (by omega)
  rw [add_add', add_add', show f * 2 + j * 2 = (f + j) * 2 by omega, show f * 2 + (j * 2 + 1) = (f + j) * 2 + 1 by omega]
  simpa only [List.getD_eq_getElem?_getD, List.getElem?_drop] using this
theorem BoxL.new_at0 (l : List Value) (t : TypeId) (hg : g = w.heap.size) : BoxL (w.alloc (.cells l.toArray t)) g l := by
  subst hg
  exact BoxL.new w l t
theorem BoxL.upto (h : BoxL w g l) (hb : Below B w w') (hg : g < B) : BoxL w' g l :=
  ⟨Nat.lt_of_lt_of_le h.lt hb.size, fun i v hi => (hb.cell (p := ⟨g, i, none⟩) hg).trans (h.cell i v hi), fun i v hi => (hb.frozen (p := ⟨g, i, none⟩) hg).trans (h.free i v hi)⟩
/-- four cells, and that none is shut -/
theorem BoxL.get4c {a0 a1 a2 a3 : Value} (h : BoxL w g [a0, a1, a2, a3]) : w.cell? ⟨g, 0, none⟩ = some a0 ∧ w.cell? ⟨g, 1, none⟩ = some a1 ∧ w.cell? ⟨g, 2, none⟩ = some a2 ∧ w.cell? ⟨g, 3, none⟩ = some a3 :=
  ⟨h.cell 0 _ rfl, h.cell 1 _ rfl, h.cell 2 _ rfl, h.cell 3 _ rfl⟩
theorem BoxL.free4c {a0 a1 a2 a3 : Value} (h : BoxL w g [a0, a1, a2, a3]) : w.frozen? ⟨g, 0, none⟩ = false ∧ w.frozen? ⟨g, 1, none⟩ = false ∧ w.frozen? ⟨g, 2, none⟩ = false ∧ w.frozen? ⟨g, 3, none⟩ = false :=
  ⟨h.free 0 _ rfl, h.free 1 _ rfl, h.free 2 _ rfl, h.free 3 _ rfl⟩
theorem BoxL.all4c {a0 a1 a2 a3 : Value} (h : BoxL w g [a0, a1, a2, a3]) (u0 u1 u2 u3 : Value) : BoxL ((((w.setCell ⟨g, 0, none⟩ (u0)).setCell ⟨g, 1, none⟩ (u1)).setCell ⟨g, 2, none⟩ (u2)).setCell ⟨g, 3, none⟩ (u3)) g [u0, u1, u2, u3] :=
  (((h.put 0 u0).put 1 u1).put 2 u2).put 3 u3
theorem BoxL.oth4c (h : BoxL w g l) {d : Nat} (hd : g ≠ d) (u0 u1 u2 u3 : Value) : BoxL ((((w.setCell ⟨d, 0, none⟩ (u0)).setCell ⟨d, 1, none⟩ (u1)).setCell ⟨d, 2, none⟩ (u2)).setCell ⟨d, 3, none⟩ (u3)) g l := (((h.oth hd 0 u0).oth hd 1 u1).oth hd 2 u2).oth hd 3 u3
theorem below_set4c {a : World} (h : Below B a w) {d : Nat} (hd : B ≤ d) (u0 u1 u2 u3 : Value) : Below B a ((((w.setCell ⟨d, 0, none⟩ (u0)).setCell ⟨d, 1, none⟩ (u1)).setCell ⟨d, 2, none⟩ (u2)).setCell ⟨d, 3, none⟩ (u3)) :=
  below_set (below_set (below_set (below_set h hd 0 u0) hd 1 u1) hd 2 u2) hd 3 u3
end

/-- an error's value: none, or one of api's -/
def IsErr (er : Value) : Prop := er = .nilIface ∨ ∃ k : Int, er = .iface 59 (.int .i64 k)

end Go.Proofs.YtaebljoacffghaaGreatDoor

/-
  A cursor's error as a value: stores of it, what Code tells of it.
-/
namespace Go.Proofs.YtaebljoacffghaaGreatDoor
open Go.RowKit

theorem isErr_v (k : Nat) : IsErr (errV k) := by
  unfold errV
  split
  · exact .inl rfl
  · exact .inr ⟨_, rfl⟩

section
variable {w w' : World} {g : Nat} {A : Option Addr} {n c : Nat} {er : Value}
/-- a box of a cursor, new, and written anew -/
theorem store_err (he : IsErr er) (m : Mode) (a : Addr) (W : World) : (store a er m).run Tryz.prog W = stored Tryz.prog W a er m := run_store _ W a er m (by rcases he with rfl | ⟨k, rfl⟩ <;> rfl)
theorem curbox_new (_he : IsErr er) (A : Option Addr) (n c : Nat) (a : Int) (d : Bool) (w : World) : BoxL (w.alloc (.cells #[.slice A n c, er, .int .i64 a, .bool d] 80)) w.heap.size [.slice A n c, er, .int .i64 a, .bool d] := BoxL.new_at0 _ _ rfl
theorem code_ev {no : Nat} (h9 : no ≤ 9) (d : Bool) (w : World) : Calls Tryz.prog 7 #[bif d then errV no else .nilIface] w fun e w' => e = .returned (.int .i64 (bif d then (no : Int) else 0)) ∧ w = w' := by
  cases d
  · exact code_nil w
  · exact code_any no w h9
end

end Go.Proofs.YtaebljoacffghaaGreatDoor

/-
  The contracts of layer 17's New, Next, Look and Err, and of its stand.
-/
namespace Go.Proofs.YtaebljoacffghaaGreatDoor
open Go.RowKit

set_option maxRecDepth 20000 in
set_option maxHeartbeats 2000000 in
theorem cur_new (A : Option Addr) (n c : Nat) (er : Value) (w : World) (he : IsErr er) :
    Calls Tryz.prog 33 #[.slice A n c, er] w fun e w' => e = .returned (.agg #[.slice A n c, er, .int .i64 (-1), .bool false]) ∧ Below w.heap.size w w' := by
  rcases he with rfl | ⟨k, rfl⟩
  all_goals
    go_enter Tryz.func33, Tryz.ntmps33
    go_wp2
    refine bodyPost_ret ?_ rfl ⟨rfl, by repeat (first | with_reducible exact Below.refl _ _ | with_reducible assumption | with_reducible refine Below.drew ?_ | with_reducible refine below_drewN ?_ _ | with_reducible refine Below.alloc ?_ (by (first | assumption | omega | (simp; done) | (simp; omega))) _ | with_reducible refine below_set ?_ (by (first | assumption | omega | (simp; done) | (simp; omega))) _ _)⟩
    simp [results, Tryz.results33, go_sem]

/-- a cursor and an answer -/
def RetCur (w : World) (A : Option Addr) (n c : Nat) (er : Value) (R : Bool → Int → Prop) (e : Ending) (w' : World) : Prop :=
  ∃ ok a', e = .returned (.tuple #[.agg #[.slice A n c, er, .int .i64 a', .bool (!ok)], .bool ok]) ∧ R ok a' ∧ Below w.heap.size w w'
/-- what stand comes to -/
def StandR (n : Nat) (a b : Int) (ok : Bool) (a' : Int) : Prop := (b < (n : Int) ∧ ok = true ∧ a' = b) ∨ ((n : Int) ≤ b ∧ ok = false ∧ a' = a)

set_option maxRecDepth 20000 in
set_option maxHeartbeats 2000000 in
theorem stand_any (A : Option Addr) (n c : Nat) (er : Value) (a b : Int) (w : World) (he : IsErr er) :
    Calls Tryz.prog 70 #[.agg #[.slice A n c, er, .int .i64 a, .bool false], .int .i64 b] w (RetCur w A n c er (StandR n a b)) := by
  rcases he with rfl | ⟨k, rfl⟩
  all_goals
    go_enter Tryz.func70, Tryz.ntmps70
    by_cases hb : b < (n : Int)
    · have hn : ¬ (n : Int) ≤ b := by omega
      go_wp2
      refine bodyPost_ret ?_ rfl ⟨true, b, rfl, .inl ⟨hb, rfl, rfl⟩, by repeat (first | with_reducible exact Below.refl _ _ | with_reducible assumption | with_reducible refine Below.drew ?_ | with_reducible refine below_drewN ?_ _ | with_reducible refine Below.alloc ?_ (by (first | assumption | omega | (simp; done) | (simp; omega))) _ | with_reducible refine below_set ?_ (by (first | assumption | omega | (simp; done) | (simp; omega))) _ _)⟩
      simp [results, Tryz.results70, go_sem]
    · have hn : (n : Int) ≤ b := by omega
      go_wp2
      refine bodyPost_ret ?_ rfl ⟨false, a, rfl, .inr ⟨hn, rfl, rfl⟩, by repeat (first | with_reducible exact Below.refl _ _ | with_reducible assumption | with_reducible refine Below.drew ?_ | with_reducible refine below_drewN ?_ _ | with_reducible refine Below.alloc ?_ (by (first | assumption | omega | (simp; done) | (simp; omega))) _ | with_reducible refine below_set ?_ (by (first | assumption | omega | (simp; done) | (simp; omega))) _ _)⟩
      simp [results, Tryz.results70, go_sem]

set_option maxRecDepth 20000 in
set_option maxHeartbeats 2000000 in
theorem cur_next (A : Option Addr) (n c : Nat) (er : Value) (a : Int) (d : Bool) (w : World) (he : IsErr er) (ha : StandsAt n a) (hn : n ≤ 100000) :
    Calls Tryz.prog 59 #[.agg #[.slice A n c, er, .int .i64 a, .bool d]] w (RetCur w A n c er (NextR n a d)) := by
  have hS := fun X => stand_any A n c er a (a + 1) X he
  have hw : IntKind.i64.wrap (a + 1) = a + 1 := IntWalk.i64_in _ (by unfold StandsAt at ha; omega)
  have HA := Lib.hid ha
  clear ha
  rcases he with rfl | ⟨k, rfl⟩
  · go_enter Tryz.func59, Tryz.ntmps59
    cases d
    · go_wp2_with fail
      refine (hS _).mono ?_
      rintro e w3 ⟨ok, a', rfl, hr, hb⟩
      have hR : NextR n a false ok a' := by
        have := HA.out
        unfold StandsAt at this
        rcases hr with ⟨h1, rfl, rfl⟩ | ⟨h1, rfl, rfl⟩
        · exact .inl ⟨rfl, h1, rfl, rfl⟩
        · exact .inr ⟨.inr (by omega), rfl, rfl⟩
      clear hr
      have x1 := (BoxL.new_at0 (w := w.alloc (.cells #[.slice A n c, .nilIface, .int .i64 a, .bool false] 80)) (g := w.heap.size + 1) [.slice none 0 0, .nilIface, .int .i64 0, .bool false] 80 (by simp)).below hb
      have hb1 : Below w.heap.size w w3 := Below.trans (by repeat (first | with_reducible exact Below.refl _ _ | with_reducible assumption | with_reducible refine Below.drew ?_ | with_reducible refine below_drewN ?_ _ | with_reducible refine Below.alloc ?_ (by (first | assumption | omega | (simp; done) | (simp; omega))) _ | with_reducible refine below_set ?_ (by (first | assumption | omega | (simp; done) | (simp; omega))) _ _)) (hb.mono (by simp; omega))
      obtain ⟨u0, u1, u2, u3⟩ := x1.get4c
      obtain ⟨f0, f1, f2, f3⟩ := x1.free4c
      go_wp2
      replace x1 := x1.all4c (.slice A n c) .nilIface (.int .i64 a') (.bool (!ok))
      obtain ⟨v0, v1, v2, v3⟩ := x1.get4c
      refine bodyPost_ret ?_ rfl ⟨ok, a', rfl, hR, below_set4c hb1 (by omega) _ _ _ _⟩
      simp [results, Tryz.results59, go_sem, v0, v1, v2, v3]
    · go_wp2
      refine bodyPost_ret ?_ rfl ⟨false, a, rfl, .inr ⟨.inl rfl, rfl, rfl⟩, by repeat (first | with_reducible exact Below.refl _ _ | with_reducible assumption | with_reducible refine Below.drew ?_ | with_reducible refine below_drewN ?_ _ | with_reducible refine Below.alloc ?_ (by (first | assumption | omega | (simp; done) | (simp; omega))) _ | with_reducible refine below_set ?_ (by (first | assumption | omega | (simp; done) | (simp; omega))) _ _)⟩
      simp [results, Tryz.results59, go_sem]
  · go_enter Tryz.func59, Tryz.ntmps59
    cases d
    · go_wp2_with fail
      refine (hS _).mono ?_
      rintro e w3 ⟨ok, a', rfl, hr, hb⟩
      have hR : NextR n a false ok a' := by
        have := HA.out
        unfold StandsAt at this
        rcases hr with ⟨h1, rfl, rfl⟩ | ⟨h1, rfl, rfl⟩
        · exact .inl ⟨rfl, h1, rfl, rfl⟩
        · exact .inr ⟨.inr (by omega), rfl, rfl⟩
      clear hr
      have x1 := (BoxL.new_at0 (w := w.alloc (.cells #[.slice A n c, (.iface 59 (.int .i64 k)), .int .i64 a, .bool false] 80)) (g := w.heap.size + 1) [.slice none 0 0, .nilIface, .int .i64 0, .bool false] 80 (by simp)).below hb
      have hb1 : Below w.heap.size w w3 := Below.trans (by repeat (first | with_reducible exact Below.refl _ _ | with_reducible assumption | with_reducible refine Below.drew ?_ | with_reducible refine below_drewN ?_ _ | with_reducible refine Below.alloc ?_ (by (first | assumption | omega | (simp; done) | (simp; omega))) _ | with_reducible refine below_set ?_ (by (first | assumption | omega | (simp; done) | (simp; omega))) _ _)) (hb.mono (by simp; omega))
      obtain ⟨u0, u1, u2, u3⟩ := x1.get4c
      obtain ⟨f0, f1, f2, f3⟩ := x1.free4c
      go_wp2
      replace x1 := x1.all4c (.slice A n c) (.iface 59 (.int .i64 k)) (.int .i64 a') (.bool (!ok))
      obtain ⟨v0, v1, v2, v3⟩ := x1.get4c
      refine bodyPost_ret ?_ rfl ⟨ok, a', rfl, hR, below_set4c hb1 (by omega) _ _ _ _⟩
      simp [results, Tryz.results59, go_sem, v0, v1, v2, v3]
    · go_wp2
      refine bodyPost_ret ?_ rfl ⟨false, a, rfl, .inr ⟨.inl rfl, rfl, rfl⟩, by repeat (first | with_reducible exact Below.refl _ _ | with_reducible assumption | with_reducible refine Below.drew ?_ | with_reducible refine below_drewN ?_ _ | with_reducible refine Below.alloc ?_ (by (first | assumption | omega | (simp; done) | (simp; omega))) _ | with_reducible refine below_set ?_ (by (first | assumption | omega | (simp; done) | (simp; omega))) _ _)⟩
      simp [results, Tryz.results59, go_sem]

set_option maxRecDepth 20000 in
set_option maxHeartbeats 2000000 in
theorem cur_err (A : Option Addr) (n c : Nat) (er : Value) (a : Int) (d : Bool) (w : World) (he : IsErr er) :
    Calls Tryz.prog 38 #[.agg #[.slice A n c, er, .int .i64 a, .bool d]] w fun e w' => e = .returned (bif d then er else .nilIface) ∧ Below w.heap.size w w' := by
  rcases he with rfl | ⟨k, rfl⟩
  all_goals
    go_enter Tryz.func38, Tryz.ntmps38
    cases d
    · go_wp2
      go_ret
      exact ⟨rfl, by repeat (first | with_reducible exact Below.refl _ _ | with_reducible assumption | with_reducible refine Below.drew ?_ | with_reducible refine below_drewN ?_ _ | with_reducible refine Below.alloc ?_ (by (first | assumption | omega | (simp; done) | (simp; omega))) _ | with_reducible refine below_set ?_ (by (first | assumption | omega | (simp; done) | (simp; omega))) _ _)⟩
    · go_wp2
      go_ret
      exact ⟨rfl, by repeat (first | with_reducible exact Below.refl _ _ | with_reducible assumption | with_reducible refine Below.drew ?_ | with_reducible refine below_drewN ?_ _ | with_reducible refine Below.alloc ?_ (by (first | assumption | omega | (simp; done) | (simp; omega))) _ | with_reducible refine below_set ?_ (by (first | assumption | omega | (simp; done) | (simp; omega))) _ _)⟩

set_option maxRecDepth 20000 in
set_option maxHeartbeats 2000000 in
theorem cur_look (A : Option Addr) (n c : Nat) (xs : List (Int × Nat)) (er : Value) (a : Int) (d : Bool) (w : World) (he : IsErr er) (ha : StandsAt n a) (h : RdQ w w.heap.size A n c xs) :
    Calls Tryz.prog 37 #[.agg #[.slice A n c, er, .int .i64 a, .bool d]] w fun e w' => e = .returned (.tuple #[.int .i64 (lookQ xs a d).1, .int .u64 ((lookQ xs a d).2 : Int)]) ∧ Below w.heap.size w w' := by
  have HL := Lib.hid h.len
  unfold lookQ
  rcases he with rfl | ⟨k, rfl⟩
  · go_enter Tryz.func37, Tryz.ntmps37
    cases d
    · by_cases h0 : a < 0
      · rw [if_pos (.inr h0)]
        go_wp2
        refine bodyPost_ret ?_ rfl ⟨rfl, by repeat (first | with_reducible exact Below.refl _ _ | with_reducible assumption | with_reducible refine Below.drew ?_ | with_reducible refine below_drewN ?_ _ | with_reducible refine Below.alloc ?_ (by (first | assumption | omega | (simp; done) | (simp; omega))) _ | with_reducible refine below_set ?_ (by (first | assumption | omega | (simp; done) | (simp; omega))) _ _)⟩
        simp [results, Tryz.results37, go_sem]
      · rw [if_neg (by simp [h0])]
        obtain ⟨m, rfl⟩ := Int.eq_ofNat_of_zero_le (Int.not_lt.1 h0)
        have hm : m < n := by unfold StandsAt at ha; omega
        have hmi : (m : Int) < (n : Int) := by omega
        obtain ⟨ad, rfl, hbl, hc0, hc1⟩ := h.at_ hm
        rw [Int.toNat_natCast]
        generalize xs.getD m (0, 0) = x at *
        obtain ⟨t, v⟩ := x
        simp only at hc0 hc1 ⊢
        have hd0 : ∀ o, (w.alloc o).cell? (ad.add (m * 2)) = some (.int .i64 t) := fun o => (((Below.refl _ w).alloc (Nat.le_refl _) o).cell (p := ad.add (m * 2)) (by rw [add_block]; exact hbl)).trans hc0
        have hd1 : ∀ o, (w.alloc o).cell? ⟨(ad.add (m * 2)).block, (ad.add (m * 2)).off + 1, none⟩ = some (.int .u64 (v : Int)) := fun o => (((Below.refl _ w).alloc (Nat.le_refl _) o).cell (p := ⟨(ad.add (m * 2)).block, (ad.add (m * 2)).off + 1, none⟩) (by show (ad.add (m * 2)).block < _; rw [add_block]; exact hbl)).trans hc1
        clear hc0 hc1
        go_upto_region 4 with fail
        have x1 := BoxL.new_at0 (w := w.alloc (.cells #[.slice (some ad) n c, .nilIface, .int .i64 (m : Int), .bool false] 80)) (g := w.heap.size + 1) [.int .i64 t, .int .u64 (v : Int)] 74 (by simp)
        obtain ⟨u0, u1⟩ := x1.get2
        go_quiet (fail)
        go_wp2
        refine bodyPost_ret ?_ rfl ⟨rfl, by repeat (first | with_reducible exact Below.refl _ _ | with_reducible assumption | with_reducible refine Below.drew ?_ | with_reducible refine below_drewN ?_ _ | with_reducible refine Below.alloc ?_ (by (first | assumption | omega | (simp; done) | (simp; omega))) _ | with_reducible refine below_set ?_ (by (first | assumption | omega | (simp; done) | (simp; omega))) _ _)⟩
        simp [results, Tryz.results37, go_sem]
    · rw [if_pos (.inl rfl)]
      go_wp2
      refine bodyPost_ret ?_ rfl ⟨rfl, by repeat (first | with_reducible exact Below.refl _ _ | with_reducible assumption | with_reducible refine Below.drew ?_ | with_reducible refine below_drewN ?_ _ | with_reducible refine Below.alloc ?_ (by (first | assumption | omega | (simp; done) | (simp; omega))) _ | with_reducible refine below_set ?_ (by (first | assumption | omega | (simp; done) | (simp; omega))) _ _)⟩
      simp [results, Tryz.results37, go_sem]
  · go_enter Tryz.func37, Tryz.ntmps37
    cases d
    · by_cases h0 : a < 0
      · rw [if_pos (.inr h0)]
        go_wp2
        refine bodyPost_ret ?_ rfl ⟨rfl, by repeat (first | with_reducible exact Below.refl _ _ | with_reducible assumption | with_reducible refine Below.drew ?_ | with_reducible refine below_drewN ?_ _ | with_reducible refine Below.alloc ?_ (by (first | assumption | omega | (simp; done) | (simp; omega))) _ | with_reducible refine below_set ?_ (by (first | assumption | omega | (simp; done) | (simp; omega))) _ _)⟩
        simp [results, Tryz.results37, go_sem]
      · rw [if_neg (by simp [h0])]
        obtain ⟨m, rfl⟩ := Int.eq_ofNat_of_zero_le (Int.not_lt.1 h0)
        have hm : m < n := by unfold StandsAt at ha; omega
        have hmi : (m : Int) < (n : Int) := by omega
        obtain ⟨ad, rfl, hbl, hc0, hc1⟩ := h.at_ hm
        rw [Int.toNat_natCast]
        generalize xs.getD m (0, 0) = x at *
        obtain ⟨t, v⟩ := x
        simp only at hc0 hc1 ⊢
        have hd0 : ∀ o, (w.alloc o).cell? (ad.add (m * 2)) = some (.int .i64 t) := fun o => (((Below.refl _ w).alloc (Nat.le_refl _) o).cell (p := ad.add (m * 2)) (by rw [add_block]; exact hbl)).trans hc0
        have hd1 : ∀ o, (w.alloc o).cell? ⟨(ad.add (m * 2)).block, (ad.add (m * 2)).off + 1, none⟩ = some (.int .u64 (v : Int)) := fun o => (((Below.refl _ w).alloc (Nat.le_refl _) o).cell (p := ⟨(ad.add (m * 2)).block, (ad.add (m * 2)).off + 1, none⟩) (by show (ad.add (m * 2)).block < _; rw [add_block]; exact hbl)).trans hc1
        clear hc0 hc1
        go_upto_region 4 with fail
        have x1 := BoxL.new_at0 (w := w.alloc (.cells #[.slice (some ad) n c, .iface 59 (.int .i64 k), .int .i64 (m : Int), .bool false] 80)) (g := w.heap.size + 1) [.int .i64 t, .int .u64 (v : Int)] 74 (by simp)
        obtain ⟨u0, u1⟩ := x1.get2
        go_quiet (fail)
        go_wp2
        refine bodyPost_ret ?_ rfl ⟨rfl, by repeat (first | with_reducible exact Below.refl _ _ | with_reducible assumption | with_reducible refine Below.drew ?_ | with_reducible refine below_drewN ?_ _ | with_reducible refine Below.alloc ?_ (by (first | assumption | omega | (simp; done) | (simp; omega))) _ | with_reducible refine below_set ?_ (by (first | assumption | omega | (simp; done) | (simp; omega))) _ _)⟩
        simp [results, Tryz.results37, go_sem]
    · rw [if_pos (.inl rfl)]
      go_wp2
      refine bodyPost_ret ?_ rfl ⟨rfl, by repeat (first | with_reducible exact Below.refl _ _ | with_reducible assumption | with_reducible refine Below.drew ?_ | with_reducible refine below_drewN ?_ _ | with_reducible refine Below.alloc ?_ (by (first | assumption | omega | (simp; done) | (simp; omega))) _ | with_reducible refine below_set ?_ (by (first | assumption | omega | (simp; done) | (simp; omega))) _ _)⟩
      simp [results, Tryz.results37, go_sem]

end Go.Proofs.YtaebljoacffghaaGreatDoor

/-
  The contracts of sort.Search, of the question that layer 17's Seek asks by it, and of Seek.
-/
namespace Go.Proofs.YtaebljoacffghaaGreatDoor
open Go.RowKit

set_option maxRecDepth 20000 in
set_option maxHeartbeats 2000000 in
theorem asked_any (br bt n c i B : Nat) (A : Option Addr) (xs : List (Int × Nat)) (t : Int) (w : World) (h : RdQ w B A n c xs) (hi : i < n) (hr : w.cell? ⟨br, 0, none⟩ = some (.slice A n c)) (ht : w.cell? ⟨bt, 0, none⟩ = some (.int .i64 t)) :
    Calls Tryz.prog 69 #[.int .i64 i, .pointer (some ⟨br, 0, none⟩), .pointer (some ⟨bt, 0, none⟩)] w fun e w' => e = .returned (.bool (decide (t ≤ (xs.getD i (0, 0)).1))) ∧ Below w.heap.size w w' := by
  obtain ⟨ad, rfl, hbl, hc0, hc1⟩ := h.at_ hi
  have hii : (i : Int) < (n : Int) := by omega
  generalize (xs.getD i (0, 0)).1 = x at *
  clear hc1
  go_enter Tryz.func69, Tryz.ntmps69
  go_upto_region 1 with fail
  go_quiet (fail)
  go_wp2
  go_ret
  exact ⟨rfl, by repeat (first | with_reducible exact Below.refl _ _ | with_reducible assumption | with_reducible refine Below.drew ?_ | with_reducible refine below_drewN ?_ _ | with_reducible refine Below.alloc ?_ (by (first | assumption | omega | (simp; done) | (simp; omega))) _ | with_reducible refine below_set ?_ (by (first | assumption | omega | (simp; done) | (simp; omega))) _ _)⟩

set_option maxRecDepth 20000 in
set_option maxHeartbeats 2000000 in
theorem search_any (br bt n c B : Nat) (A : Option Addr) (xs : List (Int × Nat)) (t : Int) (w : World) (h : RdQ w B A n c xs) (hB : B ≤ w.heap.size) (hbr : br < w.heap.size) (hbt : bt < w.heap.size) (hn : n ≤ 100000) (hri : RiseQ xs)
    (hr : w.cell? ⟨br, 0, none⟩ = some (.slice A n c)) (ht : w.cell? ⟨bt, 0, none⟩ = some (.int .i64 t)) :
    Calls Tryz.prog 51 #[.int .i64 n, .func (.func 69) #[] #[.pointer (some ⟨br, 0, none⟩), .pointer (some ⟨bt, 0, none⟩)]] w fun e w' => (∃ k : Nat, e = .returned (.int .i64 k) ∧ Sought xs t 0 k) ∧ Below w.heap.size w w' := by
  have HL := Lib.hid h.len
  have HR := Lib.hid hri
  clear hri
  have HQ := Lib.hid (fun (i : Nat) (hi : i < n) (w' : World) (hb : Below w.heap.size w w') => asked_any br bt n c i B A xs t w' (h.below (hb.mono hB)) hi ((hb.cell (p := ⟨br, 0, none⟩) hbr).trans hr) ((hb.cell (p := ⟨bt, 0, none⟩) hbt).trans ht))
  clear h hr ht
  go_enter Tryz.func51, Tryz.ntmps51
  go_wp2
  go_loopw [5, 6] (fun s5 s6 wr => ∃ lo hi : Nat, s5 = .int .i64 lo ∧ s6 = .int .i64 hi ∧ lo ≤ hi ∧ hi ≤ n ∧ Below w.heap.size w wr ∧ Hid ((∀ i, i < lo → (xs.getD i (0, 0)).1 < t) ∧ (hi < n → t ≤ (xs.getD hi (0, 0)).1))) (fun s5 s6 _ => (intOf s6).toNat - (intOf s5).toNat)
  case atStart => exact ⟨0, n, rfl, rfl, by omega, by omega, Below.refl _ _, Lib.hid ⟨fun i hi => absurd hi (by omega), fun hi => absurd hi (by omega)⟩⟩
  case round =>
    obtain ⟨lo, hi, rfl, rfl, h1, h2, hwr, HI⟩ := hrel
    by_cases hlt : lo < hi
    · have hc := HQ.out ((lo + hi) / 2) (by omega) _ hwr
      rw [show (((lo + hi) / 2 : Nat) : Int) = ((lo : Int) + (hi : Int)) / 2 by omega] at hc
      cases hp : decide (t ≤ (xs.getD ((lo + hi) / 2) (0, 0)).1) <;> rw [hp] at hc
      · have HP := Lib.hid (of_decide_eq_false hp)
        clear hp
        go_wp2_with (go_at_call 69; refine hc.mono ?_; rintro e w' ⟨rfl, hb⟩)
        go_roundw
        case measure => simp [intOf]; omega
        case rel =>
          refine ⟨(lo + hi) / 2 + 1, hi, by rw [show ((lo : Int) + (hi : Int)) / 2 + 1 = (((lo + hi) / 2 + 1 : Nat) : Int) by omega], rfl, by omega, h2, hwr.trans (hb.mono hwr.size), Lib.hid ⟨fun i hi' => ?_, HI.out.2⟩⟩
          have := HR.out.le (i := i) (j := (lo + hi) / 2) (by omega) (by rw [HL.out]; omega)
          have := HP.out
          omega
      · have HP := Lib.hid (of_decide_eq_true hp)
        clear hp
        go_wp2_with (go_at_call 69; refine hc.mono ?_; rintro e w' ⟨rfl, hb⟩)
        go_roundw
        case measure => simp [intOf]; omega
        case rel => exact ⟨lo, (lo + hi) / 2, rfl, by rw [show ((lo : Int) + (hi : Int)) / 2 = (((lo + hi) / 2 : Nat) : Int) by omega], by omega, by omega, hwr.trans (hb.mono hwr.size), Lib.hid ⟨HI.out.1, fun _ => HP.out⟩⟩
    · obtain rfl : hi = lo := by omega
      go_wp2
      go_ret
      refine ⟨⟨hi, rfl, by omega, by rw [HL.out]; exact h2, fun i _ h => HI.out.1 i h, fun h => HI.out.2 (by rw [← HL.out]; exact h)⟩, hwr⟩

end Go.Proofs.YtaebljoacffghaaGreatDoor

/-
  The contract of layer 17's Seek.
-/
namespace Go.Proofs.YtaebljoacffghaaGreatDoor
open Go.RowKit

/-- the world behind Seek's four boxes -/
structure SeekW (w W : World) (A : Option Addr) (n c : Nat) (er : Value) (a t : Int) (R : Value) : Prop where
  bel : Below w.heap.size w W
  size : W.heap.size = w.heap.size + 1 + 1 + 1 + 1
  b0 : BoxL W w.heap.size [.slice A n c, er, .int .i64 a, .bool false]
  b1 : BoxL W (w.heap.size + 1) [.int .i64 t]
  b2 : BoxL W (w.heap.size + 1 + 1) [.slice none 0 0, .nilIface, .int .i64 0, .bool false]
  b3 : BoxL W (w.heap.size + 1 + 1 + 1) [R]
theorem seekW_is (w : World) (A : Option Addr) (n c : Nat) (er : Value) (a t : Int) (R : Value) :
    SeekW w ((((w.alloc (.cells #[.slice A n c, er, .int .i64 a, .bool false] 80)).alloc (.cells #[.int .i64 t] 2)).alloc (.cells #[.slice none 0 0, .nilIface, .int .i64 0, .bool false] 80)).alloc (.cells #[R] 31)) A n c er a t R := by
  refine ⟨by repeat (first | with_reducible exact Below.refl _ _ | assumption | with_reducible refine Below.drew ?_ | with_reducible refine Below.alloc ?_ (by (first | assumption | omega | (simp; done) | (simp; omega))) _), by simp, ?_, ?_, ?_, ?_⟩
  · exact (((BoxL.new_at0 (w := w) [.slice A n c, er, .int .i64 a, .bool false] 80 rfl).onA _).onA _).onA _
  · exact ((BoxL.new_at0 (g := w.heap.size + 1) [.int .i64 t] 2 (by simp)).onA _).onA _
  · exact (BoxL.new_at0 (g := w.heap.size + 1 + 1) [.slice none 0 0, .nilIface, .int .i64 0, .bool false] 80 (by simp)).onA _
  · exact BoxL.new_at0 (g := w.heap.size + 1 + 1 + 1) [R] 31 (by simp)

set_option maxRecDepth 20000 in
set_option maxHeartbeats 2000000 in
theorem cur_seek (A : Option Addr) (n c : Nat) (xs : List (Int × Nat)) (er : Value) (a t : Int) (d : Bool) (w : World) (he : IsErr er) (ha : StandsAt n a) (hn : n ≤ 100000) (h : RdQ w w.heap.size A n c xs) (hri : RiseQ xs) :
    Calls Tryz.prog 48 #[.agg #[.slice A n c, er, .int .i64 a, .bool d], .int .i64 t] w (RetCur w A n c er (SeekR xs t a d)) := by
  have HR := Lib.hid hri
  have HL := Lib.hid h.len
  have hcap := h.cap
  clear hri
  rcases he with rfl | ⟨k, rfl⟩
  · go_enter Tryz.func48, Tryz.ntmps48
    cases d
    · by_cases ha1 : a = -1
      · subst ha1
        go_upto_region 5 with fail
        have hW := seekW_is w A n c .nilIface (-1) t (.slice A n c)
        generalize HWW : ((((w.alloc (.cells #[.slice A n c, .nilIface, .int .i64 (-1), .bool false] 80)).alloc (.cells #[.int .i64 t] 2)).alloc (.cells #[.slice none 0 0, .nilIface, .int .i64 0, .bool false] 80)).alloc (.cells #[(.slice A n c)] 31)) = W at *
        clear HWW
        have hS := search_any (w.heap.size + 1 + 1 + 1) (w.heap.size + 1) n _ w.heap.size _ _ t W (h.below hW.bel) hW.bel.size hW.b3.lt hW.b1.lt (by omega) HR.out (hW.b3.cell 0 _ rfl) (hW.b1.cell 0 _ rfl)
        have q3 := hW.b3.cell 0 _ rfl
        go_wp2_with fail
        refine hS.mono ?_
        rintro e w5 ⟨⟨k5, rfl, hk5⟩, hb5⟩
        have HK := Lib.hid (hk5)
        have hk5n := HK.out.hi
        rw [HL.out] at hk5n
        clear hS q3 hk5
        have hb6 := hW.bel.trans (hb5.mono hW.bel.size)
        have x0 := hW.b0.below hb5
        have x2 := hW.b2.below hb5
        have hs5 := hb6.size
        clear hW hb5
        obtain ⟨u0, u1, u2, u3⟩ := x0.get4c
        go_wp2_with fail
        refine (stand_any A n c .nilIface (-1) (k5 : Int) w5 (.inl rfl)).mono ?_
        rintro e w7 ⟨ok, a', rfl, hr, hb7⟩
        have hR : SeekR xs t (-1) false ok a' := by
          refine .inr ⟨rfl, _, HK.out, ?_⟩
          rw [HL.out]
          rcases hr with ⟨h1, rfl, rfl⟩ | ⟨h1, rfl, rfl⟩
          · exact .inl ⟨by omega, rfl, by omega⟩
          · exact .inr ⟨by omega, rfl, rfl⟩
        clear hr
        replace x2 := x2.below hb7
        replace hb6 := hb6.trans (hb7.mono hb6.size)
        obtain ⟨v0, v1, v2, v3⟩ := x2.get4c
        obtain ⟨f0, f1, f2, f3⟩ := x2.free4c
        clear u0 u1 u2 u3
        go_wp2
        replace x2 := x2.all4c (.slice A n c) .nilIface (.int .i64 a') (.bool (!ok))
        obtain ⟨z0, z1, z2, z3⟩ := x2.get4c
        refine bodyPost_ret ?_ rfl ⟨ok, a', rfl, hR, below_set4c hb6 (by omega) _ _ _ _⟩
        simp [results, Tryz.results48, go_sem, z0, z1, z2, z3]
      · obtain ⟨f, rfl⟩ := Int.eq_ofNat_of_zero_le (a := a) (by unfold StandsAt at ha; omega)
        have hf : f < n := by unfold StandsAt at ha; omega
        obtain ⟨ad, rfl, _⟩ := h.at_ hf
        have hfc : f < c := by omega
        have hmx : max (f : Int) 0 = (f : Int) := by omega
        go_upto_region 5 with fail
        have hW := seekW_is w (some ad) n c .nilIface (f : Int) t (.slice (some (ad.add (f * 2))) (n - f) (c - f))
        generalize HWW : ((((w.alloc (.cells #[.slice (some ad) n c, .nilIface, .int .i64 (f : Int), .bool false] 80)).alloc (.cells #[.int .i64 t] 2)).alloc (.cells #[.slice none 0 0, .nilIface, .int .i64 0, .bool false] 80)).alloc (.cells #[(.slice (some (ad.add (f * 2))) (n - f) (c - f))] 31)) = W at *
        clear HWW
        have hS := search_any (w.heap.size + 1 + 1 + 1) (w.heap.size + 1) (n - f) _ w.heap.size _ _ t W ((h.from_ (by omega)).below hW.bel) hW.bel.size hW.b3.lt hW.b1.lt (by omega) (HR.out.drop f) (hW.b3.cell 0 _ rfl) (hW.b1.cell 0 _ rfl)
        have q3 := hW.b3.cell 0 _ rfl
        go_wp2_with fail
        refine hS.mono ?_
        rintro e w5 ⟨⟨k5, rfl, hk5⟩, hb5⟩
        have HK := Lib.hid (hk5.shift (by rw [HL.out]; omega))
        have hk5n := HK.out.hi
        rw [HL.out] at hk5n
        clear hS q3 hk5
        have hb6 := hW.bel.trans (hb5.mono hW.bel.size)
        have x0 := hW.b0.below hb5
        have x2 := hW.b2.below hb5
        have hs5 := hb6.size
        clear hW hb5
        obtain ⟨u0, u1, u2, u3⟩ := x0.get4c
        go_wp2_with fail
        refine (stand_any (some ad) n c .nilIface (f : Int) ((f : Int) + (k5 : Int)) w5 (.inl rfl)).mono ?_
        rintro e w7 ⟨ok, a', rfl, hr, hb7⟩
        have hR : SeekR xs t (f : Int) false ok a' := by
          refine .inr ⟨rfl, _, HK.out, ?_⟩
          rw [HL.out]
          rcases hr with ⟨h1, rfl, rfl⟩ | ⟨h1, rfl, rfl⟩
          · exact .inl ⟨by omega, rfl, by omega⟩
          · exact .inr ⟨by omega, rfl, rfl⟩
        clear hr
        replace x2 := x2.below hb7
        replace hb6 := hb6.trans (hb7.mono hb6.size)
        obtain ⟨v0, v1, v2, v3⟩ := x2.get4c
        obtain ⟨f0, f1, f2, f3⟩ := x2.free4c
        clear u0 u1 u2 u3
        go_wp2
        replace x2 := x2.all4c (.slice (some ad) n c) .nilIface (.int .i64 a') (.bool (!ok))
        obtain ⟨z0, z1, z2, z3⟩ := x2.get4c
        refine bodyPost_ret ?_ rfl ⟨ok, a', rfl, hR, below_set4c hb6 (by omega) _ _ _ _⟩
        simp [results, Tryz.results48, go_sem, z0, z1, z2, z3]
    · go_wp2
      refine bodyPost_ret ?_ rfl ⟨false, a, rfl, .inl ⟨rfl, rfl, rfl⟩, by repeat (first | with_reducible exact Below.refl _ _ | with_reducible assumption | with_reducible refine Below.drew ?_ | with_reducible refine below_drewN ?_ _ | with_reducible refine Below.alloc ?_ (by (first | assumption | omega | (simp; done) | (simp; omega))) _ | with_reducible refine below_set ?_ (by (first | assumption | omega | (simp; done) | (simp; omega))) _ _)⟩
      simp [results, Tryz.results48, go_sem]
  · go_enter Tryz.func48, Tryz.ntmps48
    cases d
    · by_cases ha1 : a = -1
      · subst ha1
        go_upto_region 5 with fail
        have hW := seekW_is w A n c (.iface 59 (.int .i64 k)) (-1) t (.slice A n c)
        generalize HWW : ((((w.alloc (.cells #[.slice A n c, (.iface 59 (.int .i64 k)), .int .i64 (-1), .bool false] 80)).alloc (.cells #[.int .i64 t] 2)).alloc (.cells #[.slice none 0 0, .nilIface, .int .i64 0, .bool false] 80)).alloc (.cells #[(.slice A n c)] 31)) = W at *
        clear HWW
        have hS := search_any (w.heap.size + 1 + 1 + 1) (w.heap.size + 1) n _ w.heap.size _ _ t W (h.below hW.bel) hW.bel.size hW.b3.lt hW.b1.lt (by omega) HR.out (hW.b3.cell 0 _ rfl) (hW.b1.cell 0 _ rfl)
        have q3 := hW.b3.cell 0 _ rfl
        go_wp2_with fail
        refine hS.mono ?_
        rintro e w5 ⟨⟨k5, rfl, hk5⟩, hb5⟩
        have HK := Lib.hid (hk5)
        have hk5n := HK.out.hi
        rw [HL.out] at hk5n
        clear hS q3 hk5
        have hb6 := hW.bel.trans (hb5.mono hW.bel.size)
        have x0 := hW.b0.below hb5
        have x2 := hW.b2.below hb5
        have hs5 := hb6.size
        clear hW hb5
        obtain ⟨u0, u1, u2, u3⟩ := x0.get4c
        go_wp2_with fail
        refine (stand_any A n c (.iface 59 (.int .i64 k)) (-1) (k5 : Int) w5 (.inr ⟨k, rfl⟩)).mono ?_
        rintro e w7 ⟨ok, a', rfl, hr, hb7⟩
        have hR : SeekR xs t (-1) false ok a' := by
          refine .inr ⟨rfl, _, HK.out, ?_⟩
          rw [HL.out]
          rcases hr with ⟨h1, rfl, rfl⟩ | ⟨h1, rfl, rfl⟩
          · exact .inl ⟨by omega, rfl, by omega⟩
          · exact .inr ⟨by omega, rfl, rfl⟩
        clear hr
        replace x2 := x2.below hb7
        replace hb6 := hb6.trans (hb7.mono hb6.size)
        obtain ⟨v0, v1, v2, v3⟩ := x2.get4c
        obtain ⟨f0, f1, f2, f3⟩ := x2.free4c
        clear u0 u1 u2 u3
        go_wp2
        replace x2 := x2.all4c (.slice A n c) (.iface 59 (.int .i64 k)) (.int .i64 a') (.bool (!ok))
        obtain ⟨z0, z1, z2, z3⟩ := x2.get4c
        refine bodyPost_ret ?_ rfl ⟨ok, a', rfl, hR, below_set4c hb6 (by omega) _ _ _ _⟩
        simp [results, Tryz.results48, go_sem, z0, z1, z2, z3]
      · obtain ⟨f, rfl⟩ := Int.eq_ofNat_of_zero_le (a := a) (by unfold StandsAt at ha; omega)
        have hf : f < n := by unfold StandsAt at ha; omega
        obtain ⟨ad, rfl, _⟩ := h.at_ hf
        have hfc : f < c := by omega
        have hmx : max (f : Int) 0 = (f : Int) := by omega
        go_upto_region 5 with fail
        have hW := seekW_is w (some ad) n c (.iface 59 (.int .i64 k)) (f : Int) t (.slice (some (ad.add (f * 2))) (n - f) (c - f))
        generalize HWW : ((((w.alloc (.cells #[.slice (some ad) n c, (.iface 59 (.int .i64 k)), .int .i64 (f : Int), .bool false] 80)).alloc (.cells #[.int .i64 t] 2)).alloc (.cells #[.slice none 0 0, .nilIface, .int .i64 0, .bool false] 80)).alloc (.cells #[(.slice (some (ad.add (f * 2))) (n - f) (c - f))] 31)) = W at *
        clear HWW
        have hS := search_any (w.heap.size + 1 + 1 + 1) (w.heap.size + 1) (n - f) _ w.heap.size _ _ t W ((h.from_ (by omega)).below hW.bel) hW.bel.size hW.b3.lt hW.b1.lt (by omega) (HR.out.drop f) (hW.b3.cell 0 _ rfl) (hW.b1.cell 0 _ rfl)
        have q3 := hW.b3.cell 0 _ rfl
        go_wp2_with fail
        refine hS.mono ?_
        rintro e w5 ⟨⟨k5, rfl, hk5⟩, hb5⟩
        have HK := Lib.hid (hk5.shift (by rw [HL.out]; omega))
        have hk5n := HK.out.hi
        rw [HL.out] at hk5n
        clear hS q3 hk5
        have hb6 := hW.bel.trans (hb5.mono hW.bel.size)
        have x0 := hW.b0.below hb5
        have x2 := hW.b2.below hb5
        have hs5 := hb6.size
        clear hW hb5
        obtain ⟨u0, u1, u2, u3⟩ := x0.get4c
        go_wp2_with fail
        refine (stand_any (some ad) n c (.iface 59 (.int .i64 k)) (f : Int) ((f : Int) + (k5 : Int)) w5 (.inr ⟨k, rfl⟩)).mono ?_
        rintro e w7 ⟨ok, a', rfl, hr, hb7⟩
        have hR : SeekR xs t (f : Int) false ok a' := by
          refine .inr ⟨rfl, _, HK.out, ?_⟩
          rw [HL.out]
          rcases hr with ⟨h1, rfl, rfl⟩ | ⟨h1, rfl, rfl⟩
          · exact .inl ⟨by omega, rfl, by omega⟩
          · exact .inr ⟨by omega, rfl, rfl⟩
        clear hr
        replace x2 := x2.below hb7
        replace hb6 := hb6.trans (hb7.mono hb6.size)
        obtain ⟨v0, v1, v2, v3⟩ := x2.get4c
        obtain ⟨f0, f1, f2, f3⟩ := x2.free4c
        clear u0 u1 u2 u3
        go_wp2
        replace x2 := x2.all4c (.slice (some ad) n c) (.iface 59 (.int .i64 k)) (.int .i64 a') (.bool (!ok))
        obtain ⟨z0, z1, z2, z3⟩ := x2.get4c
        refine bodyPost_ret ?_ rfl ⟨ok, a', rfl, hR, below_set4c hb6 (by omega) _ _ _ _⟩
        simp [results, Tryz.results48, go_sem, z0, z1, z2, z3]
    · go_wp2
      refine bodyPost_ret ?_ rfl ⟨false, a, rfl, .inl ⟨rfl, rfl, rfl⟩, by repeat (first | with_reducible exact Below.refl _ _ | with_reducible assumption | with_reducible refine Below.drew ?_ | with_reducible refine below_drewN ?_ _ | with_reducible refine Below.alloc ?_ (by (first | assumption | omega | (simp; done) | (simp; omega))) _ | with_reducible refine below_set ?_ (by (first | assumption | omega | (simp; done) | (simp; omega))) _ _)⟩
      simp [results, Tryz.results48, go_sem]

end Go.Proofs.YtaebljoacffghaaGreatDoor

/-
  The contracts of the reference's cursor.
-/
namespace Go.Proofs.YtaebljoacffghaaGreatDoor
open Go.RowKit

set_option maxRecDepth 20000 in
set_option maxHeartbeats 2000000 in
theorem rcur_new (A : Option Addr) (n c : Nat) (bad : Int) (w : World) :
    Calls Tryz.prog 9 #[.slice A n c, .int .i64 bad] w fun e w' => e = .returned (.pointer (some ⟨w.heap.size, 0, none⟩)) ∧ BoxL w' w.heap.size [.slice A n c, .int .i64 bad, .int .i64 (-1), .bool false] ∧ Below w.heap.size w w' := by
  go_enter Tryz.func9, Tryz.ntmps9
  go_wp2
  go_ret
  exact ⟨rfl, BoxL.new_at0 [.slice A n c, .int .i64 bad, .int .i64 (-1), .bool false] 72 rfl, by repeat (first | with_reducible exact Below.refl _ _ | with_reducible assumption | with_reducible refine Below.drew ?_ | with_reducible refine below_drewN ?_ _ | with_reducible refine Below.alloc ?_ (by (first | assumption | omega | (simp; done) | (simp; omega))) _ | with_reducible refine below_set ?_ (by (first | assumption | omega | (simp; done) | (simp; omega))) _ _)⟩

/-- the reference's cursor behind a step -/
def RetRCur (w : World) (g : Nat) (A : Option Addr) (n c : Nat) (bad : Int) (R : Bool → Int → Prop) (e : Ending) (w' : World) : Prop :=
  ∃ ok a', e = .returned (.bool ok) ∧ R ok a' ∧ BoxL w' g [.slice A n c, .int .i64 bad, .int .i64 a', .bool (!ok)] ∧ Below g w w'

set_option maxRecDepth 20000 in
set_option maxHeartbeats 2000000 in
theorem rcur_err (g : Nat) (A : Option Addr) (n c : Nat) (bad a : Int) (d : Bool) (w : World) (h : BoxL w g [.slice A n c, .int .i64 bad, .int .i64 a, .bool d]) :
    Calls Tryz.prog 13 #[.pointer (some ⟨g, 0, none⟩)] w fun e w' => e = .returned (.int .i64 (bif d then bad else 0)) ∧ Below w.heap.size w w' := by
  obtain ⟨u0, u1, u2, u3⟩ := h.get4c
  go_enter Tryz.func13, Tryz.ntmps13
  cases d
  · go_wp2
    go_ret
    exact ⟨rfl, by repeat (first | with_reducible exact Below.refl _ _ | with_reducible assumption | with_reducible refine Below.drew ?_ | with_reducible refine below_drewN ?_ _ | with_reducible refine Below.alloc ?_ (by (first | assumption | omega | (simp; done) | (simp; omega))) _ | with_reducible refine below_set ?_ (by (first | assumption | omega | (simp; done) | (simp; omega))) _ _)⟩
  · go_wp2
    go_ret
    exact ⟨rfl, by repeat (first | with_reducible exact Below.refl _ _ | with_reducible assumption | with_reducible refine Below.drew ?_ | with_reducible refine below_drewN ?_ _ | with_reducible refine Below.alloc ?_ (by (first | assumption | omega | (simp; done) | (simp; omega))) _ | with_reducible refine below_set ?_ (by (first | assumption | omega | (simp; done) | (simp; omega))) _ _)⟩

set_option maxRecDepth 20000 in
set_option maxHeartbeats 2000000 in
theorem rcur_next (g : Nat) (A : Option Addr) (n c : Nat) (bad a : Int) (d : Bool) (w : World) (h : BoxL w g [.slice A n c, .int .i64 bad, .int .i64 a, .bool d]) (ha : StandsAt n a) (hn : n ≤ 100000) :
    Calls Tryz.prog 10 #[.pointer (some ⟨g, 0, none⟩)] w (RetRCur w g A n c bad (NextR n a d)) := by
  have hg := h.lt
  have hgg : Below g w w := Below.refl _ _
  have hw : IntKind.i64.wrap (a + 1) = a + 1 := IntWalk.i64_in _ (by unfold StandsAt at ha; omega)
  have HA := Lib.hid ha
  clear ha
  obtain ⟨u0, u1, u2, u3⟩ := h.get4c
  obtain ⟨f0, f1, f2, f3⟩ := h.free4c
  go_enter Tryz.func10, Tryz.ntmps10
  cases d
  · by_cases hl : a + 1 < (n : Int)
    · have hl2 : ¬ (n : Int) ≤ a + 1 := by omega
      go_upto_region 1 with fail
      go_quiet (fail)
      go_wp2
      go_ret
      exact ⟨true, a + 1, rfl, .inl ⟨rfl, hl, rfl, rfl⟩, (h.drewN _).put 2 (.int .i64 (a + 1)), below_set (below_drewN hgg _) (Nat.le_refl _) _ _⟩
    · have hl2 : (n : Int) ≤ a + 1 := by omega
      have hl3 : a + 1 = (n : Int) := by have := HA.out; unfold StandsAt at this; omega
      have HL3 := Lib.hid hl3
      clear hl3
      go_upto_region 1 with fail
      go_quiet (fail)
      go_wp2
      go_ret
      exact ⟨false, a, rfl, .inr ⟨.inr HL3.out, rfl, rfl⟩, (h.drewN _).put 3 (.bool true), below_set (below_drewN hgg _) (Nat.le_refl _) _ _⟩
  · go_upto_region 1 with fail
    go_quiet (fail)
    go_wp2
    go_ret
    exact ⟨false, a, rfl, .inr ⟨.inl rfl, rfl, rfl⟩, (h.drewN _).put 3 (.bool true), below_set (below_drewN hgg _) (Nat.le_refl _) _ _⟩

set_option maxRecDepth 20000 in
set_option maxHeartbeats 2000000 in
theorem rcur_look (g B : Nat) (A : Option Addr) (n c : Nat) (xs : List (Int × Nat)) (bad a : Int) (d : Bool) (w : World) (h : BoxL w g [.slice A n c, .int .i64 bad, .int .i64 a, .bool d]) (ha : StandsAt n a) (hx : RdQ w B A n c xs) :
    Calls Tryz.prog 12 #[.pointer (some ⟨g, 0, none⟩)] w fun e w' => e = .returned (.tuple #[.int .i64 (lookQ xs a d).1, .int .u64 ((lookQ xs a d).2 : Int)]) ∧ Below w.heap.size w w' := by
  obtain ⟨u0, u1, u2, u3⟩ := h.get4c
  unfold lookQ
  go_enter Tryz.func12, Tryz.ntmps12
  cases d
  · by_cases h0 : a < 0
    · rw [if_pos (.inr h0)]
      go_wp2
      refine bodyPost_ret ?_ rfl ⟨rfl, by repeat (first | with_reducible exact Below.refl _ _ | with_reducible assumption | with_reducible refine Below.drew ?_ | with_reducible refine below_drewN ?_ _ | with_reducible refine Below.alloc ?_ (by (first | assumption | omega | (simp; done) | (simp; omega))) _ | with_reducible refine below_set ?_ (by (first | assumption | omega | (simp; done) | (simp; omega))) _ _)⟩
      simp [results, Tryz.results12, go_sem]
    · rw [if_neg (by simp [h0])]
      obtain ⟨m, rfl⟩ := Int.eq_ofNat_of_zero_le (Int.not_lt.1 h0)
      have hm : m < n := by unfold StandsAt at ha; omega
      have hmi : (m : Int) < (n : Int) := by omega
      obtain ⟨ad, rfl, hbl, hc0, hc1⟩ := hx.at_ hm
      rw [Int.toNat_natCast]
      generalize xs.getD m (0, 0) = x at *
      obtain ⟨t, v⟩ := x
      simp only at hc0 hc1 ⊢
      go_upto_region 3 with fail
      go_quiet (fail)
      go_wp2
      refine bodyPost_ret ?_ rfl ⟨rfl, by repeat (first | with_reducible exact Below.refl _ _ | with_reducible assumption | with_reducible refine Below.drew ?_ | with_reducible refine below_drewN ?_ _ | with_reducible refine Below.alloc ?_ (by (first | assumption | omega | (simp; done) | (simp; omega))) _ | with_reducible refine below_set ?_ (by (first | assumption | omega | (simp; done) | (simp; omega))) _ _)⟩
      simp [results, Tryz.results12, go_sem]
  · rw [if_pos (.inl rfl)]
    go_wp2
    refine bodyPost_ret ?_ rfl ⟨rfl, by repeat (first | with_reducible exact Below.refl _ _ | with_reducible assumption | with_reducible refine Below.drew ?_ | with_reducible refine below_drewN ?_ _ | with_reducible refine Below.alloc ?_ (by (first | assumption | omega | (simp; done) | (simp; omega))) _ | with_reducible refine below_set ?_ (by (first | assumption | omega | (simp; done) | (simp; omega))) _ _)⟩
    simp [results, Tryz.results12, go_sem]

set_option maxRecDepth 20000 in
set_option maxHeartbeats 2000000 in
theorem rcur_seek (g B : Nat) (A : Option Addr) (n c : Nat) (xs : List (Int × Nat)) (bad a t : Int) (d : Bool) (w : World) (h : BoxL w g [.slice A n c, .int .i64 bad, .int .i64 a, .bool d]) (ha : StandsAt n a) (hn : n ≤ 100000) (hx : RdQ w B A n c xs) :
    Calls Tryz.prog 11 #[.pointer (some ⟨g, 0, none⟩), .int .i64 t] w (RetRCur w g A n c bad (SeekR xs t a d)) := by
  have hg := h.lt
  have hgg : Below g w w := Below.refl _ _
  have HL := Lib.hid hx.len
  obtain ⟨u0, u1, u2, u3⟩ := h.get4c
  obtain ⟨f0, f1, f2, f3⟩ := h.free4c
  cases d
  · by_cases ha1 : a = -1
    · subst ha1
      go_enter Tryz.func11, Tryz.ntmps11
      go_wp2_with fail
      go_loopw [5] (fun s5 wr => ∃ k : Nat, s5 = .int .i64 k ∧ 0 ≤ k ∧ k ≤ n ∧ (∃ q, wr = w.drewN q) ∧ Hid (∀ i, 0 ≤ i → i < k → (xs.getD i (0, 0)).1 < t)) (fun s5 _ => n - (intOf s5).toNat)
      case atStart => exact ⟨0, rfl, Nat.le_refl _, Nat.zero_le _, ⟨0, rfl⟩, Lib.hid fun i h1 h2 => absurd h2 (by omega)⟩
      case round =>
        obtain ⟨k, rfl, h1, h2, ⟨q, rfl⟩, HI⟩ := hrel
        by_cases hlt : k < n
        · obtain ⟨ad, rfl, hbl, hc0, hc1⟩ := hx.at_ hlt
          clear hc1
          obtain ⟨x, hx1⟩ : ∃ x, (xs.getD k (0, 0)).1 = x := ⟨_, rfl⟩
          rw [hx1] at hc0
          have HX := Lib.hid hx1
          clear hx1
          have hki : (k : Int) < (n : Int) := by omega
          have hkn : ¬ (n : Int) ≤ (k : Int) := by omega
          by_cases hxt : x < t
          · go_wp2
            go_roundw
            case rel => exact ⟨k + 1, by go_num, by omega, by omega, ⟨q, rfl⟩, Lib.hid fun i h3 h4 => (by
              by_cases e : i = k
              · rw [e, HX.out]; exact hxt
              · exact HI.out i h3 (by omega))⟩
            case measure => simp [intOf]; omega
          · have HS : Hid (Sought xs t 0 k) := Lib.hid ⟨h1, by rw [HL.out]; exact h2, HI.out, fun _ => by rw [HX.out]; omega⟩
            go_wp2
            go_ret
            exact ⟨true, k, rfl, .inr ⟨rfl, k, HS.out, .inl ⟨by rw [HL.out]; exact hlt, rfl, rfl⟩⟩, (h.drewN q).put 2 (.int .i64 (k : Int)), below_set (below_drewN hgg _) (Nat.le_refl _) _ _⟩
        · obtain rfl : k = n := by omega
          have HS : Hid (Sought xs t 0 k) := Lib.hid ⟨h1, by rw [HL.out]; exact h2, HI.out, fun h => absurd h (by rw [HL.out]; omega)⟩
          go_wp2
          go_ret
          exact ⟨false, -1, rfl, .inr ⟨rfl, k, HS.out, .inr ⟨HL.out.symm, rfl, rfl⟩⟩, (h.drewN q).put 3 (.bool true), below_set (below_drewN hgg _) (Nat.le_refl _) _ _⟩
    · obtain ⟨f, rfl⟩ := Int.eq_ofNat_of_zero_le (a := a) (by unfold StandsAt at ha; omega)
      have hf : f < n := by unfold StandsAt at ha; omega
      go_enter Tryz.func11, Tryz.ntmps11
      go_wp2_with fail
      go_loopw [5] (fun s5 wr => ∃ k : Nat, s5 = .int .i64 k ∧ f ≤ k ∧ k ≤ n ∧ (∃ q, wr = w.drewN q) ∧ Hid (∀ i, f ≤ i → i < k → (xs.getD i (0, 0)).1 < t)) (fun s5 _ => n - (intOf s5).toNat)
      case atStart => exact ⟨f, rfl, Nat.le_refl _, Nat.le_of_lt hf, ⟨0, rfl⟩, Lib.hid fun i h1 h2 => absurd h2 (by omega)⟩
      case round =>
        obtain ⟨k, rfl, h1, h2, ⟨q, rfl⟩, HI⟩ := hrel
        by_cases hlt : k < n
        · obtain ⟨ad, rfl, hbl, hc0, hc1⟩ := hx.at_ hlt
          clear hc1
          obtain ⟨x, hx1⟩ : ∃ x, (xs.getD k (0, 0)).1 = x := ⟨_, rfl⟩
          rw [hx1] at hc0
          have HX := Lib.hid hx1
          clear hx1
          have hki : (k : Int) < (n : Int) := by omega
          have hkn : ¬ (n : Int) ≤ (k : Int) := by omega
          by_cases hxt : x < t
          · go_wp2
            go_roundw
            case rel => exact ⟨k + 1, by go_num, by omega, by omega, ⟨q, rfl⟩, Lib.hid fun i h3 h4 => (by
              by_cases e : i = k
              · rw [e, HX.out]; exact hxt
              · exact HI.out i h3 (by omega))⟩
            case measure => simp [intOf]; omega
          · have HS : Hid (Sought xs t f k) := Lib.hid ⟨h1, by rw [HL.out]; exact h2, HI.out, fun _ => by rw [HX.out]; omega⟩
            go_wp2
            go_ret
            exact ⟨true, k, rfl, .inr ⟨rfl, k, HS.out, .inl ⟨by rw [HL.out]; exact hlt, rfl, rfl⟩⟩, (h.drewN q).put 2 (.int .i64 (k : Int)), below_set (below_drewN hgg _) (Nat.le_refl _) _ _⟩
        · obtain rfl : k = n := by omega
          have HS : Hid (Sought xs t f k) := Lib.hid ⟨h1, by rw [HL.out]; exact h2, HI.out, fun h => absurd h (by rw [HL.out]; omega)⟩
          go_wp2
          go_ret
          exact ⟨false, (f : Int), rfl, .inr ⟨rfl, k, HS.out, .inr ⟨HL.out.symm, rfl, rfl⟩⟩, (h.drewN q).put 3 (.bool true), below_set (below_drewN hgg _) (Nat.le_refl _) _ _⟩
  · go_enter Tryz.func11, Tryz.ntmps11
    go_wp2
    go_ret
    exact ⟨false, a, rfl, .inl ⟨rfl, rfl, rfl⟩, h, hgg⟩

end Go.Proofs.YtaebljoacffghaaGreatDoor
