/-
  The times of a block's samples rise; what is amiss with it is told by a number up to 9.
-/
import Derived.Test.YtcnhagngcgoiaaaDoorWhoP
import Derived.Test.YtcnhagngcgoiaaaDoorIdxC
namespace Go.Proofs.YtcnhagngcgoiaaaDoor

theorem rises_nil : Rises [] := fun i h => absurd h (by simp)
theorem rises_app {p q : List (Int × Nat)} (hp : Rises p) (hq : Rises q) (h : 1 ≤ p.length → 1 ≤ q.length → (p.getD (p.length - 1) (0, 0)).1 < (q.getD 0 (0, 0)).1) : Rises (p ++ q) := by
  intro i hi
  rw [List.length_append] at hi
  simp only [List.getD_eq_getElem?_getD]
  rcases Nat.lt_trichotomy (i + 1) p.length with h1 | h1 | h1
  · rw [List.getElem?_append_left (by omega), List.getElem?_append_left h1]
    have := hp i h1
    simpa only [List.getD_eq_getElem?_getD] using this
  · rw [List.getElem?_append_left (by omega), List.getElem?_append_right (by omega)]
    have := h (by omega) (by omega)
    simp only [List.getD_eq_getElem?_getD] at this
    rw [show i + 1 - p.length = 0 by omega, show i = p.length - 1 by omega]
    exact this
  · rw [List.getElem?_append_right (by omega), List.getElem?_append_right (by omega)]
    have := hq (i - p.length) (by omega)
    simp only [List.getD_eq_getElem?_getD] at this
    rw [show i + 1 - p.length = i - p.length + 1 by omega]
    exact this
/-- what chunks tell, from the j-th on, behind samples that rise and end where the chunk ahead ends -/
theorem blkF_rises {z : Int} {bs : List Nat} {es : List Ent} (hm : MayTo es es.length) : ∀ (d j a : Nat) (acc : List (Int × Nat)), j + d = es.length → Rises acc → (1 ≤ acc.length → 0 < j ∧ (acc.getD (acc.length - 1) (0, 0)).1 = (es.getD (j - 1) ent0).mx) → Rises (blkF z bs (es.drop j) a acc).1
  | 0, j, a, acc, hj, hr, _ => by rw [blkF_end (by omega)]; exact hr
  | d + 1, j, a, acc, hj, hr, hl => by
    have hlt : j < es.length := by omega
    cases hc : chF z (es.getD j ent0) ((bs.drop a).take (es.getD j ent0).ln.toNat) with
    | error k => rw [blkF_bad hlt hc]; exact hr
    | ok ys =>
      rw [blkF_ok hlt hc]
      obtain ⟨_, g1, _, g2, g3, g4⟩ := chF_good hc
      refine blkF_rises hm d (j + 1) _ _ (by omega) (rises_app hr g2 (fun h1 h2 => ?_)) (fun _ => ⟨by omega, ?_⟩)
      · obtain ⟨h3, h4⟩ := hl h1
        rw [h4, g3]
        exact (hm j hlt).2 h3
      · rw [List.length_append, Nat.add_sub_cancel]
        simp only [List.getD_eq_getElem?_getD] at g4 ⊢
        rw [List.getElem?_append_right (by omega), show acc.length + ys.length - 1 - acc.length = ys.length - 1 by omega]
        exact g4
theorem wholeF_rises {bs : List Nat} (hb : ∀ x ∈ bs, x < 256) : Rises (wholeF bs).1 := by
  unfold wholeF
  cases h : getI bs with
  | error j => exact rises_nil
  | ok p =>
    obtain ⟨k, es, n⟩ := p
    obtain ⟨⟨_, _, hm⟩, _⟩ := getI_ok hb h
    have := blkF_rises (z := (k : Int)) (bs := bs) hm es.length 0 n [] (by omega) rises_nil (fun h => absurd h (by simp))
    exact this

/-- what Decode comes to is told by a number up to 9 -/
theorem wholeF_le {bs : List Nat} : (wholeF bs).2 ≤ 9 := by
  unfold wholeF
  cases h : getI bs with
  | error j => exact (getI_err h).2
  | ok p => exact blkF_le _ _ _

end Go.Proofs.YtcnhagngcgoiaaaDoor
