/-
  Words for memory: what stays where one block turns; a slice of bits from a place on; what Next comes to, behind its box.
-/
import Derived.Test.YtnjohmgacmcdnaaDoorBatNext
import Derived.Test.YtnjohmgacmcdnaaDoorWords
namespace Go.Proofs.YtnjohmgacmcdnaaDoor
open Go.RowKit

theorem bel_went {w w1 w2 : World} {g : Nat} (h : w1.grownBy w2 (some g)) (hb : Below w.heap.size w w1) (hg : w.heap.size ≤ g) : Below w.heap.size w w2 := hb.grown h hb.size (fun k e => by injection e with e; omega)
theorem gr_drew {w w1 : World} {row : Option Nat} (h : w.grownBy w1 row) : w.grownBy w1.drew row := gr_below h ((Below.refl _ _).drew)
theorem gr_alloc {w w1 : World} {row : Option Nat} (h : w.grownBy w1 row) (o : Obj) : w.grownBy (w1.alloc o) row := gr_below h ((Below.refl _ _).alloc (Nat.le_refl _) o)
theorem gr_set8 (w : World) (d : Nat) (u0 u1 u2 u3 u4 u5 u6 u7 : Value) : w.grownBy ((((((((w.setCell ⟨d, 0, none⟩ (u0)).setCell ⟨d, 1, none⟩ (u1)).setCell ⟨d, 2, none⟩ (u2)).setCell ⟨d, 3, none⟩ (u3)).setCell ⟨d, 4, none⟩ (u4)).setCell ⟨d, 5, none⟩ (u5)).setCell ⟨d, 6, none⟩ (u6)).setCell ⟨d, 7, none⟩ (u7)) (some d) :=
  (((((((only_set w d 0 u0).trans (only_set _ d 1 u1)).trans (only_set _ d 2 u2)).trans (only_set _ d 3 u3)).trans (only_set _ d 4 u4)).trans (only_set _ d 5 u5)).trans (only_set _ d 6 u6)).trans (only_set _ d 7 u7)
section
variable {w w' : World} {B n c g : Nat} {A : Option Addr} {row : Option Nat}
theorem Rd.farN {bs : List Nat} (h : Rd w B A n c bs) (hg : w.grownBy w' row) (hne : ∀ ad, A = some ad → row ≠ some ad.block) : Rd w' B A n c bs :=
  ⟨h.len, h.cap, h.no, fun hn => by
    obtain ⟨ad, e, hb, hc⟩ := h.cell hn
    exact ⟨ad, e, hb, fun j hj => hg.cell (hc j hj) (by rw [add_block]; exact fun e' => hne ad e e'.symm)⟩⟩
theorem RdQ.farN {xs : List (Int × Nat)} (h : RdQ w B A n c xs) (hg : w.grownBy w' row) (hne : ∀ ad, A = some ad → row ≠ some ad.block) : RdQ w' B A n c xs :=
  ⟨h.len, h.cap, h.no, fun hn => by
    obtain ⟨ad, e, hb, hc⟩ := h.cell hn
    exact ⟨ad, e, hb, fun j hj => ⟨hg.cell (hc j hj).1 (by rw [add_block]; exact fun e' => hne ad e e'.symm), hg.cell (hc j hj).2 (by rw [add_block]; exact fun e' => hne ad e e'.symm)⟩⟩, h.fit⟩
theorem Rdr.farG {m a d : Nat} {bs : List Nat} (h : Rdr w g A m c bs a) (hg : w.grownBy w' (some d)) (hd : g < d) : Rdr w' g A m c bs a :=
  h.keep fun k hk => hg.block k (by have := h.lt; omega) (by simp; omega)
theorem below_far {w0 : World} {d : Nat} (h : Below w0.heap.size w0 w) (hg : w.grownBy w' (some d)) (hd : w0.heap.size ≤ d) : Below w0.heap.size w0 w' := bel_went hg h hd
theorem Own.block {w0 : World} {bs : List Nat} (h : Own w0 w (.slice A n c) bs) : ∀ ad, A = some ad → w0.heap.size ≤ ad.block := by
  intro ad e
  subst e
  rcases h.row.2 with ⟨h1, _⟩ | ⟨g, cap, cur, hv, hg, _⟩
  · cases h1
  · injection hv with e1 e2 e3
    injection e1 with e1
    subst e1
    exact hg
/-- bits from a place on -/
theorem rd_slice {p : List Bool} {k : Nat} (h : Rd w B A n c (enc p)) (hk : k ≤ n) : Rd w B (if c = k then A else A.map (fun x => x.add k)) (n - k) (c - k) (enc (p.drop k)) := by
  rw [← enc_drop]
  by_cases hc : c = k
  · rw [if_pos hc]
    subst hc
    have := h.tailEnd hk
    rw [Nat.sub_self]
    exact this
  · rw [if_neg hc]
    exact h.tail hk
theorem far_slice {P : Nat → Prop} {k : Nat} (h : ∀ ad, A = some ad → P ad.block) : ∀ ad, (if c = k then A else A.map (fun x => x.add k)) = some ad → P ad.block := by
  intro ad e
  split at e
  · exact h ad e
  · cases A with
    | none => cases e
    | some a0 =>
      simp only [Option.map_some] at e
      injection e with e
      subst e
      rw [add_block]
      exact h a0 rfl
end
theorem BatA.le {z n : Int} {s : KS} {p : List Bool} {xs : List (Int × Nat)} {s1 : KS} {p1 : List Bool} {e : Nat} (hs : s.May) (h : BatA z n s p xs s1 p1 e) : e ≤ 6 ∧ xs.length ≤ 32 ∧ s1.May ∧ s1.n ≤ s.n + 32 := by
  rcases h with ⟨_, rfl, rfl, rfl⟩ | ⟨_, h⟩
  · exact ⟨by omega, by simp, hs, by omega⟩
  · obtain ⟨h1, h2, h3, h4, _⟩ := h.le hs
    exact ⟨h1, by omega, h3, by omega⟩
/-- amid the reference's samples: some were got, or what is amiss was met -/
def AtIn (g8 g10 m1 : Nat) (z n : Int) (s : KS) (p : List Bool) (V : World) (N : Nat) (x9 x16 x17 x18 : Value) (wq : World) : Prop :=
  ∃ (k : Nat) (ys : List (Int × Nat)) (su : KS) (bad : Nat) (A : Option Addr) (l c : Nat), k ≤ 32 ∧ x18 = .int .i64 ((k : Nat) : Int) ∧ x17 = .int .i64 ((bad : Nat) : Int) ∧ x9 = .slice A l c ∧ su.May ∧ su.n ≤ s.n + k ∧ ys.length ≤ k ∧
    MidQ (bare V) V.heap.size wq x16 ys ∧ BoxL wq (g10 + 1) [.int .i64 (su.n : Int), .int .i64 su.t, .int .i64 su.d, .int .u64 (su.v : Int), .int .u64 (su.e : Int), .int .u64 (su.x.prev : Int), .int .i64 (su.x.lead : Int), .int .i64 (su.x.len : Int)] ∧ V.grownBy wq (some (g10 + 1)) ∧ (∀ ad, A = some ad → g8 < ad.block) ∧
    ((bad = 0 ∧ (z = 1 ∨ z = 2) ∧ k ≤ N ∧ ys.length = k ∧ ∃ q, GoneB z s p N ys (N - k) su q ∧ Rd wq g10 A l c (enc q) ∧ q.length ≤ 8 * m1) ∨ (bad ≠ 0 ∧ ∃ p2, BatA z n s p ys su p2 bad))
/-- behind them -/
def OutIn (g8 g10 : Nat) (z n : Int) (s : KS) (p : List Bool) (V : World) (x9 x16 x17 : Value) (wq : World) : Prop :=
  ∃ (ys : List (Int × Nat)) (su : KS) (bad : Nat) (A : Option Addr) (l c : Nat) (p2 : List Bool), x17 = .int .i64 ((bad : Nat) : Int) ∧ x9 = .slice A l c ∧ BatA z n s p ys su p2 bad ∧
    MidQ (bare V) V.heap.size wq x16 ys ∧ BoxL wq (g10 + 1) [.int .i64 (su.n : Int), .int .i64 su.t, .int .i64 su.d, .int .u64 (su.v : Int), .int .u64 (su.e : Int), .int .u64 (su.x.prev : Int), .int .i64 (su.x.lead : Int), .int .i64 (su.x.len : Int)] ∧ V.grownBy wq (some (g10 + 1)) ∧ (∀ ad, A = some ad → g8 < ad.block) ∧ (bad = 0 → Rd wq g10 A l c (enc p2))
/-- what Next comes to, its state in a box of its own -/
def NXAt (wr : World) (g : Nat) (A : Option Addr) (m c : Nat) (bs : List Nat) (z n : Int) (s : KS) (p : List Bool) (x13 x14 x15 : Value) (wx : World) : Prop :=
  ∃ (xs : List (Int × Nat)) (s1 : KS) (p1 : List Bool) (er : Nat) (A' : Option Addr) (c' a' gs : Nat), BatA z n s p xs s1 p1 er ∧ x13 = .slice A' xs.length c' ∧ x14 = .pointer (some ⟨gs, 0, none⟩) ∧ x15 = errV er ∧
    RdQ wx wx.heap.size A' xs.length c' xs ∧ (∀ ad, A' = some ad → wr.heap.size ≤ ad.block) ∧ Rdr wx g A m c bs a' ∧ (er = 0 → p1 = (flat bs).drop a') ∧ wr.grownBy wx (some g) ∧ BoxL wx gs [.int .i64 (s1.n : Int), .int .i64 s1.t, .int .i64 s1.d, .int .u64 (s1.v : Int), .int .u64 (s1.e : Int), .int .u64 (s1.x.prev : Int), .int .i64 (s1.x.lead : Int), .int .i64 (s1.x.len : Int)] ∧ wr.heap.size ≤ gs
/-- the box made behind the call -/
theorem NXAt.after {wr X w9 : World} {g m c : Nat} {A : Option Addr} {bs : List Nat} {z n : Int} {s : KS} {p p1 : List Bool} {xs : List (Int × Nat)} {s1 : KS} {er : Nat} {A' : Option Addr} {c' a' : Nat}
    (hd : BatA z n s p xs s1 p1 er) (hq : RdQ w9 w9.heap.size A' xs.length c' xs) (hA : ∀ ad, A' = some ad → X.heap.size ≤ ad.block) (hr : Rdr w9 g A m c bs a') (hp : er = 0 → p1 = (flat bs).drop a') (hb : Below wr.heap.size wr X) (hg : X.grownBy w9 (some g)) (t : TypeId) :
    NXAt wr g A m c bs z n s p (.slice A' xs.length c') (.pointer (some ⟨w9.heap.size, 0, none⟩)) (errV er) (w9.alloc (.cells #[.int .i64 (s1.n : Int), .int .i64 s1.t, .int .i64 s1.d, .int .u64 (s1.v : Int), .int .u64 (s1.e : Int), .int .u64 (s1.x.prev : Int), .int .i64 (s1.x.lead : Int), .int .i64 (s1.x.len : Int)] t)) := by
  have hal : Below w9.heap.size w9 (w9.alloc (.cells #[.int .i64 (s1.n : Int), .int .i64 s1.t, .int .i64 s1.d, .int .u64 (s1.v : Int), .int .u64 (s1.e : Int), .int .u64 (s1.x.prev : Int), .int .i64 (s1.x.lead : Int), .int .i64 (s1.x.len : Int)] t)) := (Below.refl _ _).alloc (Nat.le_refl _) _
  have h1 : wr.grownBy w9 (some g) := (grown_below hb _).trans hg
  exact ⟨xs, s1, p1, er, A', c', a', _, hd, rfl, rfl, rfl, (hq.below hal).more hal.size, fun ad e => Nat.le_trans hb.size (hA ad e), hr.below hal, hp, gr_below h1 hal, BoxL.new w9 [.int .i64 (s1.n : Int), .int .i64 s1.t, .int .i64 s1.d, .int .u64 (s1.v : Int), .int .u64 (s1.e : Int), .int .u64 (s1.x.prev : Int), .int .i64 (s1.x.lead : Int), .int .i64 (s1.x.len : Int)] t, h1.size⟩
/-- the box made ahead of it -/
theorem NXAt.ahead {wr X w9 : World} {g m c : Nat} {A : Option Addr} {bs : List Nat} {z n : Int} {s : KS} {p p1 : List Bool} {xs : List (Int × Nat)} {s1 : KS} {er : Nat} {A' : Option Addr} {c' a' : Nat}
    (hd : BatA z n s p xs s1 p1 er) (hq : RdQ w9 w9.heap.size A' xs.length c' xs) (hA : ∀ ad, A' = some ad → X.heap.size ≤ ad.block) (hr : Rdr w9 g A m c bs a') (hp : er = 0 → p1 = (flat bs).drop a') (hb : Below wr.heap.size wr X) (hX : X.heap.size = wr.heap.size + 1) (hg : X.grownBy w9 (some g)) (hlt : g < wr.heap.size)
    {l : List Value} (hl : l.length = 8) (hx : BoxL w9 wr.heap.size l) : NXAt wr g A m c bs z n s p (.slice A' xs.length c') (.pointer (some ⟨wr.heap.size, 0, none⟩)) (errV er) ((((((((w9.setCell ⟨wr.heap.size, 0, none⟩ (.int .i64 (s1.n : Int))).setCell ⟨wr.heap.size, 1, none⟩ (.int .i64 s1.t)).setCell ⟨wr.heap.size, 2, none⟩ (.int .i64 s1.d)).setCell ⟨wr.heap.size, 3, none⟩ (.int .u64 (s1.v : Int))).setCell ⟨wr.heap.size, 4, none⟩ (.int .u64 (s1.e : Int))).setCell ⟨wr.heap.size, 5, none⟩ (.int .u64 (s1.x.prev : Int))).setCell ⟨wr.heap.size, 6, none⟩ (.int .i64 (s1.x.lead : Int))).setCell ⟨wr.heap.size, 7, none⟩ (.int .i64 (s1.x.len : Int))) := by
  have h1 : wr.grownBy w9 (some g) := (grown_below hb _).trans hg
  have h2 := gr_set8 w9 wr.heap.size (.int .i64 (s1.n : Int)) (.int .i64 s1.t) (.int .i64 s1.d) (.int .u64 (s1.v : Int)) (.int .u64 (s1.e : Int)) (.int .u64 (s1.x.prev : Int)) (.int .i64 (s1.x.lead : Int)) (.int .i64 (s1.x.len : Int))
  refine ⟨xs, s1, p1, er, A', c', a', _, hd, rfl, rfl, rfl, ?_, fun ad e => Nat.le_trans hb.size (hA ad e), hr.farG h2 hlt, hp, gr_own h1 h2 (fun j e => by injection e with e; omega), hx.all8_ hl _ _ _ _ _ _ _ _, Nat.le_refl _⟩
  exact (hq.farN h2 (fun ad e e' => by have := hA ad e; injection e' with e'; omega)).more h2.size

end Go.Proofs.YtnjohmgacmcdnaaDoor
