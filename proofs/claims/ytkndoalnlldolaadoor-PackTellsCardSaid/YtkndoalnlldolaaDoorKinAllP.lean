/-
  Layer 8's Put for any kind: one answer, told in one form.
-/
import Derived.Test.YtkndoalnlldolaaDoorKinPut
import Derived.Test.YtkndoalnlldolaaDoorCode
import Derived.Test.YtkndoalnlldolaaDoorKinG
namespace Go.Proofs.YtkndoalnlldolaaDoor
open Go.RowKit

/-- what Put answers: bits, a state, an error's number -/
structure PA where
  p : List Bool
  s : KS
  e : Nat
def putA (z : Int) (s : KS) (t : Int) (v : Nat) : PA :=
  if z ≠ 1 ∧ z ≠ 2 then ⟨[], zeroK, 6⟩ else if risesK s t = false then ⟨[], zeroK, 4⟩ else ⟨putK z.toNat s t v, nextK z.toNat s t v, 0⟩
theorem putA_e (z : Int) (s : KS) (t : Int) (v : Nat) : (putA z s t v).e ≤ 6 := by unfold putA; split; simp; split <;> simp
theorem putA_len (z : Int) {s : KS} {t : Int} {v : Nat} (hs : s.May) (hv : v ≤ 18446744073709551615) : (putA z s t v).p.length ≤ 146 := by
  unfold putA
  split
  · simp
  · split
    · simp
    · exact (putK_len hs hv).2
theorem putA_may (z : Int) {s : KS} {t : Int} {v : Nat} (hs : s.May) (ht : -9223372036854775808 ≤ t ∧ t ≤ 9223372036854775807) (hv : v ≤ 18446744073709551615) : (putA z s t v).s.May ∧ (putA z s t v).s.n ≤ s.n + 1 := by
  unfold putA
  split
  · exact ⟨zeroK_may, by simp [zeroK]⟩
  · split
    · exact ⟨zeroK_may, by simp [zeroK]⟩
    · exact ⟨nextK_may hs ht hv, by simp only; unfold nextK; rw [afterK_n]; exact Nat.le_refl _⟩
theorem after_same (k : Nat) (s : KS) (t : Int) (v : Nat) : afterK k s t v (nextK k s t v).x = nextK k s t v := by
  unfold nextK afterK
  by_cases h0 : s.n = 0
  · rw [if_pos h0, if_pos h0]
  · rw [if_neg h0, if_neg h0]
    split <;> rfl
/-- without an error the kind is known, and After tells the state -/
theorem putA_ok {z : Int} {s : KS} {t : Int} {v : Nat} (h : (putA z s t v).e = 0) : ∃ k : Nat, z = (k : Int) ∧ (k = 1 ∨ k = 2) ∧ afterK k s t v (putA z s t v).s.x = (putA z s t v).s := by
  unfold putA at h ⊢
  split
  · rename_i h1
    rw [if_pos h1] at h
    simp at h
  · rename_i h1
    rw [if_neg h1] at h
    obtain ⟨k, rfl, hk⟩ := known_is h1
    split
    · rename_i h2
      rw [if_pos h2] at h
      simp at h
    · exact ⟨k, rfl, hk, after_same k s t v⟩

/-- what Put comes to -/
def RetPA (w : World) (r : PA) (e : Ending) (w' : World) : Prop :=
  ∃ A c, e = .returned (.tuple #[.agg #[.slice A (pack r.p).length c, .int .i64 ((r.p.length : Nat) : Int)], (.agg #[.int .i64 (r.s.n : Int), .int .i64 r.s.t, .int .i64 r.s.d, .int .u64 (r.s.v : Int), .int .u64 (r.s.e : Int), .int .u64 (r.s.x.prev : Int), .int .i64 (r.s.x.lead : Int), .int .i64 (r.s.x.len : Int)]), errV r.e]) ∧ Own w w' (.slice A (pack r.p).length c) (pack r.p)
theorem put_all (z : Int) (s : KS) (t : Int) (v : Nat) (w : World) (hs : s.May) (hn : s.n ≤ 1000000) (hv : v ≤ 18446744073709551615) (hR : RoomW w) (hT : TzW w) :
    Calls Tryd.prog 30 #[.int .i64 z, (.agg #[.int .i64 (s.n : Int), .int .i64 s.t, .int .i64 s.d, .int .u64 (s.v : Int), .int .u64 (s.e : Int), .int .u64 (s.x.prev : Int), .int .i64 (s.x.lead : Int), .int .i64 (s.x.len : Int)]), (.agg #[.int .i64 t, .int .u64 (v : Int)])] w (RetPA w (putA z s t v)) := by
  unfold putA
  split
  · rename_i h
    exact (put_kind z s t v w (by simp [h.1]) (by simp [h.2])).mono fun e w' ⟨h1, h2⟩ => ⟨none, 0, h1, Own.nil_ _ _ h2⟩
  · rename_i h
    obtain ⟨k, rfl, hk⟩ := known_is h
    split
    · rename_i h3
      exact (put_order k s t v w hk h3).mono fun e w' ⟨h1, h2⟩ => ⟨none, 0, h1, Own.nil_ _ _ h2⟩
    · rename_i h3
      exact put_yes8 k s t v w hk hs hn hv (by simpa using h3) hR hT

end Go.Proofs.YtkndoalnlldolaaDoor
