/-
  Plain facts (no program): how many chunks a block has, and how many samples there are behind each.
-/
import Derived.Test.YtaebljoacffghaaGreatDoorWhoP
import Derived.Test.YtaebljoacffghaaGreatDoorJmpA
namespace Go.Proofs.YtaebljoacffghaaGreatDoor

/-- behind each part, how many there are -/
def cums : List (List (Int × Nat)) → Nat → List Nat
  | [], _ => []
  | p :: r, m => (m + p.length) :: cums r (m + p.length)
theorem cums_length : ∀ (qs : List (List (Int × Nat))) (m : Nat), (cums qs m).length = qs.length
  | [], _ => rfl
  | p :: r, m => by rw [cums, List.length_cons, cums_length r, List.length_cons]
section
variable {k s : Nat} {xs : List (Int × Nat)}
theorem end_good {bs : List Nat} : ∀ (qs : List (List (Int × Nat))) (a m : Nat) (rest : List Nat), (∀ p ∈ qs, chF (k : Int) (entQ k p) (sumQ k p) = .ok p) → bs.drop a = (qs.map (sumQ k)).flatten ++ rest →
    endF (k : Int) bs (qs.map (entQ k)) a m = cums qs m
  | [], _, _, _, _, _ => rfl
  | p :: r, a, m, rest, h, hd => by
    simp only [List.map_cons, List.flatten_cons, List.append_assoc] at hd ⊢
    have hn : (entQ k p).ln.toNat = (sumQ k p).length := by simp [entQ]
    rw [endF, hn, hd, List.take_left, h p (by simp)]
    have := end_good r (a + (sumQ k p).length) (m + p.length) rest (fun q hq => h q (by simp [hq])) (by rw [← List.drop_drop, hd, List.drop_left])
    simp only [this, cums]
theorem parts_length : (partsQ s xs).length = manyQ s xs := by unfold partsQ; rw [List.length_map, List.length_range]
/-- what a block means -/
theorem jwF_back (hk : k = 1 ∨ k = 2) (hx : AllQ xs) (hr : Rises xs) (hl : xs.length ≤ 5000) (hs : 1 ≤ s) (hs2 : s ≤ 65535) : jwF (blockB k s xs) = ⟨xs, 0, cums (partsQ s xs) 0, manyQ s xs⟩ := by
  have h1 := whole_back hk hx hr hl hs hs2
  have h2 := whole_is hk hx hr hl hs hs2 (rest := bodyTo k s xs (manyQ s xs)) rfl
  have h3 := end_good (k := k) (bs := idxB k (entsTo k s xs (manyQ s xs)) ++ bodyTo k s xs (manyQ s xs)) (partsQ s xs) (idxB k (entsTo k s xs (manyQ s xs))).length 0 [] (fun p hp => (parts_good hk hx hr hl hs p hp).2) (by rw [List.drop_left, body_parts, List.append_nil])
  rw [← ents_parts] at h3
  have h4 : wholeN (blockB k s xs) = cums (partsQ s xs) 0 := by
    unfold wholeN blockB
    rw [h2]
    exact h3
  have h5 : chunksN (blockB k s xs) = manyQ s xs := by
    unfold chunksN blockB
    rw [h2]
    simp only
    rw [ents_parts, List.length_map, parts_length]
  unfold jwF
  rw [h1, h4, h5]
end

end Go.Proofs.YtaebljoacffghaaGreatDoor
