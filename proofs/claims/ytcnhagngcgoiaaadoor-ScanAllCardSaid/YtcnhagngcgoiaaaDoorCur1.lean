/-
  Words for a cursor over samples: what Next and Seek come to, as relations of one answer; samples from a place on.
-/
import Derived.Test.YtcnhagngcgoiaaaDoorRising
import Derived.Test.YtcnhagngcgoiaaaDoorWords
namespace Go.Proofs.YtcnhagngcgoiaaaDoor
open Go.RowKit

/-- from place a on, k is the first sample's place whose time is t at least, or behind all -/
structure Sought (xs : List (Int × Nat)) (t : Int) (a k : Nat) : Prop where
  lo : a ≤ k
  hi : k ≤ xs.length
  less : ∀ i, a ≤ i → i < k → (xs.getD i (0, 0)).1 < t
  here : k < xs.length → t ≤ (xs.getD k (0, 0)).1

theorem Sought.one {xs : List (Int × Nat)} {t : Int} {a k j : Nat} (h : Sought xs t a k) (g : Sought xs t a j) : k = j := by
  have h1 := h.lo
  have h2 := h.hi
  have g1 := g.lo
  have g2 := g.hi
  rcases Nat.lt_trichotomy k j with e | e | e
  · have := g.less k h1 e
    have := h.here (by omega)
    omega
  · exact e
  · have := h.less j g1 e
    have := g.here (by omega)
    omega
theorem Sought.shift {xs : List (Int × Nat)} {t : Int} {a k : Nat} (h : Sought (xs.drop a) t 0 k) (ha : a ≤ xs.length) : Sought xs t a (a + k) := by
  have h2 := h.hi
  rw [List.length_drop] at h2
  refine ⟨by omega, by omega, fun i h1 h3 => ?_, fun h3 => ?_⟩
  · have := h.less (i - a) (by omega) (by omega)
    simp only [List.getD_eq_getElem?_getD, List.getElem?_drop] at this ⊢
    rwa [show a + (i - a) = i by omega] at this
  · have := h.here (by rw [List.length_drop]; omega)
    simp only [List.getD_eq_getElem?_getD, List.getElem?_drop] at this ⊢
    exact this

theorem RiseQ.lt {xs : List (Int × Nat)} (h : RiseQ xs) : ∀ {i j : Nat}, i < j → j < xs.length → (xs.getD i (0, 0)).1 < (xs.getD j (0, 0)).1
  | i, j + 1, hij, hj => by
    have h1 := h j hj
    rcases Nat.lt_or_ge i j with e | e
    · have := RiseQ.lt h e (by omega)
      omega
    · obtain rfl : i = j := by omega
      exact h1
theorem RiseQ.le {xs : List (Int × Nat)} (h : RiseQ xs) {i j : Nat} (hij : i ≤ j) (hj : j < xs.length) : (xs.getD i (0, 0)).1 ≤ (xs.getD j (0, 0)).1 := by
  rcases Nat.lt_or_ge i j with e | e
  · exact Int.le_of_lt (h.lt e hj)
  · obtain rfl : i = j := by omega
    exact Int.le_refl _
theorem RiseQ.drop {xs : List (Int × Nat)} (h : RiseQ xs) (a : Nat) : RiseQ (xs.drop a) := by
  intro i hi
  rw [List.length_drop] at hi
  have := h (a + i) (by omega)
  simpa only [List.getD_eq_getElem?_getD, List.getElem?_drop, Nat.add_assoc] using this

/-- what Next comes to: true or false, and where it stands then (Done is the answer's opposite) -/
def NextR (n : Nat) (a : Int) (d ok : Bool) (b : Int) : Prop := (d = false ∧ a + 1 < (n : Int) ∧ ok = true ∧ b = a + 1) ∨ ((d = true ∨ a + 1 = (n : Int)) ∧ ok = false ∧ b = a)
/-- what Seek comes to -/
def SeekR (xs : List (Int × Nat)) (t : Int) (a : Int) (d ok : Bool) (b : Int) : Prop :=
  (d = true ∧ ok = false ∧ b = a) ∨ (d = false ∧ ∃ k : Nat, Sought xs t a.toNat k ∧ ((k < xs.length ∧ ok = true ∧ b = (k : Int)) ∨ (k = xs.length ∧ ok = false ∧ b = a)))
theorem NextR.one {n : Nat} {a : Int} {d ok ok' : Bool} {b b' : Int} (h : NextR n a d ok b) (g : NextR n a d ok' b') : ok = ok' ∧ b = b' := by
  rcases h with ⟨h1, h2, rfl, rfl⟩ | ⟨h1, rfl, rfl⟩ <;> rcases g with ⟨g1, g2, rfl, rfl⟩ | ⟨g1, rfl, rfl⟩
  · exact ⟨rfl, rfl⟩
  · rcases g1 with rfl | g1
    · cases h1
    · omega
  · rcases h1 with rfl | h1
    · cases g1
    · omega
  · exact ⟨rfl, rfl⟩
theorem SeekR.one {xs : List (Int × Nat)} {t a : Int} {d ok ok' : Bool} {b b' : Int} (h : SeekR xs t a d ok b) (g : SeekR xs t a d ok' b') : ok = ok' ∧ b = b' := by
  rcases h with ⟨rfl, rfl, rfl⟩ | ⟨rfl, k, hk, h⟩ <;> rcases g with ⟨g1, rfl, rfl⟩ | ⟨g1, j, hj, g⟩
  · exact ⟨rfl, rfl⟩
  · cases g1
  · cases g1
  · have := hk.one hj
    subst this
    rcases h with ⟨h1, rfl, rfl⟩ | ⟨h1, rfl, rfl⟩ <;> rcases g with ⟨g1, rfl, rfl⟩ | ⟨g1, rfl, rfl⟩
    · exact ⟨rfl, rfl⟩
    · omega
    · omega
    · exact ⟨rfl, rfl⟩
/-- where a cursor may stand -/
def StandsAt (n : Nat) (a : Int) : Prop := -1 ≤ a ∧ a < (n : Int)
theorem NextR.stands {n : Nat} {a b : Int} {d ok : Bool} (h : NextR n a d ok b) (ha : StandsAt n a) : StandsAt n b := by
  unfold StandsAt at *
  rcases h with ⟨h1, h2, rfl, rfl⟩ | ⟨h1, rfl, rfl⟩ <;> omega
theorem SeekR.stands {xs : List (Int × Nat)} {t a b : Int} {d ok : Bool} (h : SeekR xs t a d ok b) (ha : StandsAt xs.length a) : StandsAt xs.length b := by
  unfold StandsAt at *
  rcases h with ⟨h1, rfl, rfl⟩ | ⟨h1, k, hk, ⟨h2, rfl, rfl⟩ | ⟨h2, rfl, rfl⟩⟩ <;> omega
/-- what Look tells -/
def lookQ (xs : List (Int × Nat)) (a : Int) (d : Bool) : Int × Nat := if d = true ∨ a < 0 then (0, 0) else xs.getD a.toNat (0, 0)

section
variable {w w' : World} {B n c g : Nat} {A : Option Addr} {xs : List (Int × Nat)} {l : List Value}
theorem RdQ.from_ {ad : Addr} {f : Nat} (h : RdQ w B (some ad) n c xs) (hf : f ≤ n) : RdQ w B (some (ad.add (f * 2))) (n - f) (c - f) (xs.drop f) := by
  have hc := h.cap
  refine ⟨by rw [List.length_drop, h.len], by omega, (fun e => by cases e), fun hn => ?_, fun x hx => h.fit x (List.mem_of_mem_drop hx)⟩
  obtain ⟨ad', e, hb, hcell⟩ := h.cell (by omega)
  injection e with e
  subst e
  refine ⟨_, rfl, by rw [add_block]; exact hb, fun j hj => ?_⟩
  have := hcell (f + j) (by omega)
  rw [add_add', add_add', show f * 2 + j * 2 = (f + j) * 2 by omega, show f * 2 + (j * 2 + 1) = (f + j) * 2 + 1 by omega]
  simpa only [List.getD_eq_getElem?_getD, List.getElem?_drop] using this
theorem BoxL.new_at0 (l : List Value) (t : TypeId) (hg : g = w.heap.size) : BoxL (w.alloc (.cells l.toArray t)) g l := by
  subst hg
  exact BoxL.new w l t
theorem BoxL.upto (h : BoxL w g l) (hb : Below B w w') (hg : g < B) : BoxL w' g l :=
  ⟨Nat.lt_of_lt_of_le h.lt hb.size, fun i v hi => (hb.cell (p := ⟨g, i, none⟩) hg).trans (h.cell i v hi), fun i v hi => (hb.frozen (p := ⟨g, i, none⟩) hg).trans (h.free i v hi)⟩
/-- four cells, and that none is shut -/
theorem BoxL.get4c {a0 a1 a2 a3 : Value} (h : BoxL w g [a0, a1, a2, a3]) : w.cell? ⟨g, 0, none⟩ = some a0 ∧ w.cell? ⟨g, 1, none⟩ = some a1 ∧ w.cell? ⟨g, 2, none⟩ = some a2 ∧ w.cell? ⟨g, 3, none⟩ = some a3 :=
  ⟨h.cell 0 _ rfl, h.cell 1 _ rfl, h.cell 2 _ rfl, h.cell 3 _ rfl⟩
theorem BoxL.free4c {a0 a1 a2 a3 : Value} (h : BoxL w g [a0, a1, a2, a3]) : w.frozen? ⟨g, 0, none⟩ = false ∧ w.frozen? ⟨g, 1, none⟩ = false ∧ w.frozen? ⟨g, 2, none⟩ = false ∧ w.frozen? ⟨g, 3, none⟩ = false :=
  ⟨h.free 0 _ rfl, h.free 1 _ rfl, h.free 2 _ rfl, h.free 3 _ rfl⟩
theorem BoxL.all4c {a0 a1 a2 a3 : Value} (h : BoxL w g [a0, a1, a2, a3]) (u0 u1 u2 u3 : Value) : BoxL ((((w.setCell ⟨g, 0, none⟩ (u0)).setCell ⟨g, 1, none⟩ (u1)).setCell ⟨g, 2, none⟩ (u2)).setCell ⟨g, 3, none⟩ (u3)) g [u0, u1, u2, u3] :=
  (((h.put 0 u0).put 1 u1).put 2 u2).put 3 u3
theorem BoxL.oth4c (h : BoxL w g l) {d : Nat} (hd : g ≠ d) (u0 u1 u2 u3 : Value) : BoxL ((((w.setCell ⟨d, 0, none⟩ (u0)).setCell ⟨d, 1, none⟩ (u1)).setCell ⟨d, 2, none⟩ (u2)).setCell ⟨d, 3, none⟩ (u3)) g l := (((h.oth hd 0 u0).oth hd 1 u1).oth hd 2 u2).oth hd 3 u3
theorem below_set4c {a : World} (h : Below B a w) {d : Nat} (hd : B ≤ d) (u0 u1 u2 u3 : Value) : Below B a ((((w.setCell ⟨d, 0, none⟩ (u0)).setCell ⟨d, 1, none⟩ (u1)).setCell ⟨d, 2, none⟩ (u2)).setCell ⟨d, 3, none⟩ (u3)) :=
  below_set (below_set (below_set (below_set h hd 0 u0) hd 1 u1) hd 2 u2) hd 3 u3
end

/-- an error's value: none, or one of api's -/
def IsErr (er : Value) : Prop := er = .nilIface ∨ ∃ k : Int, er = .iface 69 (.int .i64 k)

end Go.Proofs.YtcnhagngcgoiaaaDoor
