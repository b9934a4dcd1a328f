/-
  Layer 8's Put and Get, and the reference's, for any kind: one answer each, told in one form.
-/
import Derived.Test.YtcnhoohcdkfgkaaDoorYKinLaw
import Derived.Test.YtcnhoohcdkfgkaaDoorM7
import Derived.Test.YtcnhoohcdkfgkaaDoorM10
namespace Go.Proofs.YtcnhoohcdkfgkaaDoor
open Go.RowKit

/-- what Put answers: bits, a state, an error's number -/
structure PA where
  p : List Bool
  s : KS
  e : Nat
def putA (z : Int) (s : KS) (t : Int) (v : Nat) : PA :=
  if z ≠ 1 ∧ z ≠ 2 then ⟨[], zeroK, 6⟩ else if risesK s t = false then ⟨[], zeroK, 4⟩ else ⟨putK z.toNat s t v, nextK z.toNat s t v, 0⟩
theorem known_is {z : Int} (h : ¬ (z ≠ 1 ∧ z ≠ 2)) : ∃ k : Nat, z = (k : Int) ∧ (k = 1 ∨ k = 2) := by
  refine ⟨z.toNat, ?_, ?_⟩ <;> omega
theorem putA_e (z : Int) (s : KS) (t : Int) (v : Nat) : (putA z s t v).e ≤ 6 := by unfold putA; split; simp; split <;> simp
theorem putA_len (z : Int) {s : KS} {t : Int} {v : Nat} (hs : s.May) (hv : v ≤ 18446744073709551615) : (putA z s t v).p.length ≤ 146 := by
  unfold putA
  split
  · simp
  · split
    · simp
    · exact (putK_len hs hv).2
theorem putA_may (z : Int) {s : KS} {t : Int} {v : Nat} (hs : s.May) (ht : -9223372036854775808 ≤ t ∧ t ≤ 9223372036854775807) (hv : v ≤ 18446744073709551615) : (putA z s t v).s.May ∧ (putA z s t v).s.n ≤ s.n + 1 := by
  unfold putA
  split
  · exact ⟨zeroK_may, by simp [zeroK]⟩
  · split
    · exact ⟨zeroK_may, by simp [zeroK]⟩
    · exact ⟨nextK_may hs ht hv, by simp only; unfold nextK; rw [afterK_n]; exact Nat.le_refl _⟩
theorem after_same (k : Nat) (s : KS) (t : Int) (v : Nat) : afterK k s t v (nextK k s t v).x = nextK k s t v := by
  unfold nextK afterK
  by_cases h0 : s.n = 0
  · rw [if_pos h0, if_pos h0]
  · rw [if_neg h0, if_neg h0]
    split <;> rfl
/-- without an error the kind is known, and After tells the state -/
theorem putA_ok {z : Int} {s : KS} {t : Int} {v : Nat} (h : (putA z s t v).e = 0) : ∃ k : Nat, z = (k : Int) ∧ (k = 1 ∨ k = 2) ∧ afterK k s t v (putA z s t v).s.x = (putA z s t v).s := by
  unfold putA at h ⊢
  split
  · rename_i h1
    rw [if_pos h1] at h
    simp at h
  · rename_i h1
    rw [if_neg h1] at h
    obtain ⟨k, rfl, hk⟩ := known_is h1
    split
    · rename_i h2
      rw [if_pos h2] at h
      simp at h
    · exact ⟨k, rfl, hk, after_same k s t v⟩

/-- what Put comes to -/
def RetPA (w : World) (r : PA) (e : Ending) (w' : World) : Prop :=
  ∃ A c, e = .returned (.tuple #[.agg #[.slice A (pack r.p).length c, .int .i64 ((r.p.length : Nat) : Int)], (.agg #[.int .i64 (r.s.n : Int), .int .i64 r.s.t, .int .i64 r.s.d, .int .u64 (r.s.v : Int), .int .u64 (r.s.e : Int), .int .u64 (r.s.x.prev : Int), .int .i64 (r.s.x.lead : Int), .int .i64 (r.s.x.len : Int)]), errV r.e]) ∧ Own w w' (.slice A (pack r.p).length c) (pack r.p)
theorem put_all (z : Int) (s : KS) (t : Int) (v : Nat) (w : World) (hs : s.May) (hn : s.n ≤ 1000000) (hv : v ≤ 18446744073709551615) (hR : RoomW w) (hT : TzW w) :
    Calls Tryd.prog 6 #[.int .i64 z, (.agg #[.int .i64 (s.n : Int), .int .i64 s.t, .int .i64 s.d, .int .u64 (s.v : Int), .int .u64 (s.e : Int), .int .u64 (s.x.prev : Int), .int .i64 (s.x.lead : Int), .int .i64 (s.x.len : Int)]), (.agg #[.int .i64 t, .int .u64 (v : Int)])] w (RetPA w (putA z s t v)) := by
  unfold putA
  split
  · rename_i h
    exact (put_kind z s t v w (by simp [h.1]) (by simp [h.2])).mono fun e w' ⟨h1, h2⟩ => ⟨none, 0, h1, Own.nil_ _ _ h2⟩
  · rename_i h
    obtain ⟨k, rfl, hk⟩ := known_is h
    split
    · rename_i h3
      exact (put_order k s t v w hk h3).mono fun e w' ⟨h1, h2⟩ => ⟨none, 0, h1, Own.nil_ _ _ h2⟩
    · rename_i h3
      exact put_yes8 k s t v w hk hs hn hv (by simpa using h3) hR hT
/-- what PutSample comes to -/
def RetRPA (w : World) (r : PA) (e : Ending) (w' : World) : Prop :=
  ∃ A c, e = .returned (.tuple #[.slice A r.p.length c, (.agg #[.int .i64 (r.s.n : Int), .int .i64 r.s.t, .int .i64 r.s.d, .int .u64 (r.s.v : Int), .int .u64 (r.s.e : Int), .int .u64 (r.s.x.prev : Int), .int .i64 (r.s.x.lead : Int), .int .i64 (r.s.x.len : Int)]), .int .i64 (r.e : Int)]) ∧ Own w w' (.slice A r.p.length c) (enc r.p)
theorem rput_all (z : Int) (s : KS) (t : Int) (v : Nat) (w : World) (hs : s.May) (hn : s.n ≤ 1000000) (hv : v ≤ 18446744073709551615) :
    Calls Tryd.prog 7 #[.int .i64 z, (.agg #[.int .i64 (s.n : Int), .int .i64 s.t, .int .i64 s.d, .int .u64 (s.v : Int), .int .u64 (s.e : Int), .int .u64 (s.x.prev : Int), .int .i64 (s.x.lead : Int), .int .i64 (s.x.len : Int)]), (.agg #[.int .i64 t, .int .u64 (v : Int)])] w (RetRPA w (putA z s t v)) := by
  unfold putA
  split
  · rename_i h
    exact (rput_kind z s t v w (by simp [h.1]) (by simp [h.2])).mono fun e w' ⟨h1, h2⟩ => ⟨none, 0, h1, Own.nil_ _ _ h2⟩
  · rename_i h
    obtain ⟨k, rfl, hk⟩ := known_is h
    split
    · rename_i h3
      exact (rput_order k s t v w hk h3).mono fun e w' ⟨h1, h2⟩ => ⟨none, 0, h1, Own.nil_ _ _ h2⟩
    · rename_i h3
      exact rput_yes k s t v w hk hs hn hv (by simpa using h3)

/-- what bits begin with, for any kind -/
def KG (z : Int) (s : KS) (p : List Bool) (r : KA) : Prop := ((z ≠ 1 ∧ z ≠ 2) ∧ r = badK 6) ∨ ∃ k : Nat, z = (k : Int) ∧ (k = 1 ∨ k = 2) ∧ KGets k s p r
theorem KG.same {z : Int} {s : KS} {p : List Bool} {r r' : KA} (h : KG z s p r) (h' : KG z s p r') : r = r' := by
  rcases h with ⟨h1, rfl⟩ | ⟨k, rfl, hk, h⟩
  · rcases h' with ⟨_, rfl⟩ | ⟨k, rfl, hk, _⟩
    · rfl
    · exact absurd h1 (by omega)
  · rcases h' with ⟨h1, _⟩ | ⟨k', hk', _, h'⟩
    · exact absurd h1 (by omega)
    · have : k = k' := by omega
      subst this
      exact h.same h'
theorem kg_in {z : Int} {s : KS} {p : List Bool} {r : KA} (hs : s.May) (h : KG z s p r) :
    (-9223372036854775808 ≤ r.t ∧ r.t ≤ 9223372036854775807) ∧ r.v ≤ 18446744073709551615 ∧ r.s.May ∧ r.n ≤ 146 ∧ r.e ≤ 6 ∧ (r.e = 0 → r.n ≤ p.length ∧ r.s.n = s.n + 1 ∧ 2 ≤ r.n) := by
  rcases h with ⟨_, rfl⟩ | ⟨k, _, _, h⟩
  · exact ⟨by simp [badK], by simp [badK], zeroK_may, by simp [badK], by simp [badK], fun h => by simp [badK] at h⟩
  · have := kgets_in hs h
    exact ⟨this.1, this.2.1, this.2.2.1, this.2.2.2.1, by omega, this.2.2.2.2.2⟩
/-- what Get comes to -/
def RetGA (w : World) (z : Int) (s : KS) (p : List Bool) (e : Ending) (w' : World) : Prop :=
  ∃ r, KG z s p r ∧ e = .returned (.tuple #[(.agg #[.int .i64 r.t, .int .u64 (r.v : Int)]), (.agg #[.int .i64 (r.s.n : Int), .int .i64 r.s.t, .int .i64 r.s.d, .int .u64 (r.s.v : Int), .int .u64 (r.s.e : Int), .int .u64 (r.s.x.prev : Int), .int .i64 (r.s.x.lead : Int), .int .i64 (r.s.x.len : Int)]), .int .i64 (r.n : Int), errV r.e]) ∧ Below w.heap.size w w'
theorem get_all (z : Int) (A : Option Addr) (m c B : Nat) (bs : List Nat) (a : Int) (s : KS) (w : World) (h : Rd w B A m c bs) (hB : B ≤ w.heap.size) (hb : ∀ x ∈ bs, x < 256) (hm : m ≤ 100000)
    (ha : -9223372036854775808 ≤ a ∧ a ≤ 9223372036854775807) (hs : s.May) (hn : s.n ≤ 1000000) (hR : RoomW w) (hT : TzW w) :
    Calls Tryd.prog 13 #[.int .i64 z, (.agg #[.int .i64 (s.n : Int), .int .i64 s.t, .int .i64 s.d, .int .u64 (s.v : Int), .int .u64 (s.e : Int), .int .u64 (s.x.prev : Int), .int .i64 (s.x.lead : Int), .int .i64 (s.x.len : Int)]), .slice A m c, .int .i64 a] w (RetGA w z s (restL bs a)) := by
  by_cases hz : z ≠ 1 ∧ z ≠ 2
  · exact (get_kind z s A m c a w (by simp [hz.1]) (by simp [hz.2])).mono fun e w' ⟨h1, h2⟩ => ⟨_, .inl ⟨hz, rfl⟩, h1, h2⟩
  · obtain ⟨k, rfl, hk⟩ := known_is hz
    exact (get_any k A m c B bs a s w hk h hB hb hm ha hs hn hR hT).mono fun e w' ⟨r, h1, h2, h3⟩ => ⟨r, .inr ⟨k, rfl, hk, h1⟩, h2, h3⟩
/-- what GetSample comes to -/
def RetRGA (w : World) (z : Int) (s : KS) (p : List Bool) (e : Ending) (w' : World) : Prop :=
  ∃ r, KG z s p r ∧ e = .returned (.tuple #[(.agg #[.int .i64 r.t, .int .u64 (r.v : Int)]), (.agg #[.int .i64 (r.s.n : Int), .int .i64 r.s.t, .int .i64 r.s.d, .int .u64 (r.s.v : Int), .int .u64 (r.s.e : Int), .int .u64 (r.s.x.prev : Int), .int .i64 (r.s.x.lead : Int), .int .i64 (r.s.x.len : Int)]), .int .i64 (r.n : Int), .int .i64 (r.e : Int)]) ∧ Below w.heap.size w w'
theorem rget_all8 (z : Int) (s : KS) (A : Option Addr) (m c : Nat) (p : List Bool) (w : World) (hs : s.May) (hn : s.n ≤ 1000000) (h : Rd w w.heap.size A m c (enc p)) (hm : m ≤ 100000) :
    Calls Tryd.prog 14 #[.int .i64 z, (.agg #[.int .i64 (s.n : Int), .int .i64 s.t, .int .i64 s.d, .int .u64 (s.v : Int), .int .u64 (s.e : Int), .int .u64 (s.x.prev : Int), .int .i64 (s.x.lead : Int), .int .i64 (s.x.len : Int)]), .slice A m c] w (RetRGA w z s p) := by
  by_cases hz : z ≠ 1 ∧ z ≠ 2
  · exact (rget_kind z s A m c w (by simp [hz.1]) (by simp [hz.2])).mono fun e w' ⟨h1, h2⟩ => ⟨_, .inl ⟨hz, rfl⟩, h1, h2⟩
  · obtain ⟨k, rfl, hk⟩ := known_is hz
    exact (rget_any k s A m c p w hk hs hn h hm).mono fun e w' ⟨r, h1, h2, h3⟩ => ⟨r, .inr ⟨k, rfl, hk, h1⟩, h2, h3⟩

end Go.Proofs.YtcnhoohcdkfgkaaDoor
