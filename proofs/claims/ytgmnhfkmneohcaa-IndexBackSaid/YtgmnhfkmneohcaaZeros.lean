/-
  append of made zeros onto a slice of bytes of the call's own ('append(s, make([]byte, k)...)').
-/
import Derived.Test.YtgmnhfkmneohcaaMem
import Derived.Lib.AppendZerosOnto
namespace Go.Proofs.Ytgmnhfkmneohcaa
open Go.RowKit

theorem zeroCells_bytes (k : Nat) : (Builtin.zeroCells (Value.int .u8 0).cells k).toList = bvals (List.replicate k 0) := by
  apply List.ext_getElem
  · simp [Builtin.zeroCells, Value.cells, bvals]
  · intro i h1 h2
    have : (Value.int .u8 0).cells = #[.int .u8 0] := rfl
    simp [Builtin.zeroCells, this, bvals, bval, Nat.mod_one]

/-- the run -/
theorem run_zeros (ty : TypeId) (k : Nat) {w0 w : World} {v : Value} {bs : List Nat} (hown : Own w0 w v bs) (hm : bs.length + k ≤ 1073741824) :
    ∃ v' w', (Builtin.append_ #[26, 3] ty #[v, .int .i64 (k : Int)]).run Try.prog w = .ok v' w' ∧ Own w0 w' v' (bs ++ List.replicate k 0) ∧ w.grownBy w' v.ownBlock := by
  obtain ⟨i0, hi, hz0, hz1, hz2⟩ := info_parts Try.infoB
  have hg : ∀ k, v.ownBlock = some k → w0.heap.size ≤ k := fun k hk => (hown.row.lt k hk).1
  have hw : IntKind.i64.wrap (k : Int) = k := by rw [IntKind.wrap_i64]; omega
  have hneg : ¬ ((k : Int) < 0) := by omega
  have h48i : ¬ (281474976710656 < (k : Int)) := by omega
  have grown : ∀ (old : Nat), old < bs.length + k →
      Own w0 (w.drew.alloc (.cells ((bvals bs).toArray ++ Builtin.zeroCells (Value.int .u8 0).cells k ++ Builtin.zeroCells (Value.int .u8 0).cells (grownCap w (bs.length + k) old 5 - (bs.length + k))) 5))
        (.slice (some ⟨w.heap.size, 0, none⟩) (bs.length + k) (grownCap w (bs.length + k) old 5)) (bs ++ List.replicate k 0) ∧
      w.grownBy (w.drew.alloc (.cells ((bvals bs).toArray ++ Builtin.zeroCells (Value.int .u8 0).cells k ++ Builtin.zeroCells (Value.int .u8 0).cells (grownCap w (bs.length + k) old 5 - (bs.length + k))) 5)) v.ownBlock := by
    intro old ho
    have hge := grownCap_ge w (bs.length + k) old 5
    have hcm : grownCap w (bs.length + k) old 5 ≤ maxLen := grownCap_le_maxLen w (bs.length + k) old 5 (by unfold maxLen; omega)
    have hgb : w.grownBy (w.drew.alloc (.cells ((bvals bs).toArray ++ Builtin.zeroCells (Value.int .u8 0).cells k ++ Builtin.zeroCells (Value.int .u8 0).cells (grownCap w (bs.length + k) old 5 - (bs.length + k))) 5)) v.ownBlock :=
      ⟨rfl, rfl, rfl, by simp, fun j hj _ => Below.heap_alloc w.drew _ j hj⟩
    refine ⟨⟨⟨by simp [bvals], .inr ⟨w.heap.size, grownCap w (bs.length + k) old 5, _, by simp, hown.bel.size, heap_alloc_new w.drew _, by simp; exact hge, hcm, ?_, ?_⟩⟩, hown.bel.grown hgb hown.bel.size hg⟩, hgb⟩
    · have : (Value.int .u8 0).cells.size = 1 := rfl
      simp [size_zeroCells, this, bvals]
      omega
    · simp only [Array.toList_append, zeroCells_bytes, bvals_app]
      apply List.take_left'
      simp [bvals]
  rcases hown.row.2 with ⟨rfl, h0⟩ | ⟨g, cap, cur, rfl, hbg, hgc, hnc, hcm, hcs, htake⟩
  · have hbs : bs = [] := List.eq_nil_of_length_eq_zero h0
    subst hbs
    by_cases hk : k = 0
    · subst hk
      have hw' : IntKind.i64.wrap 0 = 0 := by decide
      refine ⟨.slice none 0 0, w, ?_, by simpa using hown, World.grownBy.refl w _⟩
      simp [Builtin.append_, run_underlying Try.underlying26, run_underlying Try.underlying3, sizeOf, typeInfo, hi, asInt, asIntOf, hw']
    · have hr := Lib.run_append_nil_zeros (P := Try.prog) w 26 3 ty 5 i0 (.int .u8 0) .i64 .i64 Try.underlying26 Try.underlying3 hi hz0 k (by omega) (by omega) (by omega) (by rw [hz2]; omega)
      have hgr := grown 0 (by simp; omega)
      simp only [List.length_nil, Nat.zero_add] at hgr
      refine ⟨_, _, hr, ?_, ?_⟩
      · simpa [bvals] using hgr.1
      · simpa [bvals] using hgr.2
  · by_cases hroom : bs.length + k ≤ cap
    · have hfit : bs.length + k ≤ cur.size := by rw [hcs]; omega
      have hst := run_storeCells_at Try.prog g bs.length 5 (bvals (List.replicate k 0)) 0 cur w hgc (by simpa [bvals] using hfit) (bvals_one _)
      simp only [Nat.add_zero] at hst
      have hrun : (Builtin.append_ #[26, 3] ty #[.slice (some ⟨g, 0, none⟩) bs.length cap, .int .i64 (k : Int)]).run Try.prog w =
          .ok (.slice (some ⟨g, 0, none⟩) (bs.length + k) cap) (w.setRow g (cur.toList.take bs.length ++ bvals (List.replicate k 0) ++ cur.toList.drop (bs.length + (bvals (List.replicate k 0)).length)).toArray) := by
        rw [← zeroCells_bytes] at hst ⊢
        by_cases hk : k = 0
        · subst hk
          have hw' : IntKind.i64.wrap 0 = 0 := by decide
          have hz : (Builtin.zeroCells (Value.int .u8 0).cells 0).toList = [] := by rw [zeroCells_bytes]; rfl
          rw [hz] at hst ⊢
          have hnc' : bs.length ≤ cap := by omega
          simp [Builtin.append_, run_underlying Try.underlying26, run_underlying Try.underlying3, sizeOf, typeInfo, hi, asInt, asIntOf, hw', hz1, hnc', Addr.add_lit, hst]
        · simp [Builtin.append_, run_underlying Try.underlying26, run_underlying Try.underlying3, sizeOf, typeInfo, zeroValue, hi, hz0, hz1, hz2, asInt, asIntOf, hw, hneg, h48i, hk, hroom, Addr.add_lit, hst]
      refine ⟨_, _, hrun, ?_, ⟨rfl, rfl, rfl, by simp, fun k _ hk => setRow_other w g k _ (fun e => hk (by simp [Value.ownBlock, e]))⟩⟩
      refine ⟨⟨by simp [bvals], .inr ⟨g, cap, _, by simp, hbg, setRow_heap w g cur _ 5 _ hgc, by simpa using hroom, hcm, ?_, ?_⟩⟩, hown.bel.grown (row := some g) ⟨rfl, rfl, rfl, by simp, fun k _ hk => setRow_other w g k _ (fun e => hk (by simp [e]))⟩ hown.bel.size (fun j hj => by injection hj with hj; subst hj; exact hbg)⟩
      · simp only [List.size_toArray, List.length_append, List.length_take, List.length_drop, Array.length_toList, bvals_length, List.length_replicate]
        omega
      · rw [Nat.mul_one] at htake
        rw [htake, bvals_app]
        apply List.take_left'
        simp [bvals]
    · have holds : (Builtin.firstCells i0.size bs.length (.slice (some ⟨g, 0, none⟩) bs.length cap)).run Try.prog w.drew = .ok (bvals bs).toArray w.drew :=
        run_firstCells_some (P := Try.prog) w.drew i0.size bs.length ⟨g, 0, none⟩ bs.length cap (bvals bs) (by rw [hz1, bvals_length]; omega) (hown.row.cells (g := g) rfl)
      have hr := Lib.run_append_grow_zeros (P := Try.prog) w 26 3 ty 5 i0 (.int .u8 0) .i64 .i64 Try.underlying26 Try.underlying3 hi hz0 (some ⟨g, 0, none⟩) bs.length cap (bvals bs) holds k (by omega) (by omega) (by omega) (by omega) (by rw [hz2]; omega) (by rw [hz2]; exact growslice_fits (by omega) (by omega))
      have hgr := grown cap (by omega)
      exact ⟨_, _, hr, hgr.1, hgr.2⟩

/-- in a plain region -/
theorem wpList_zeros {ops : Array Oper} {rest : List Oper} {o : Oper} {a : Act} {Q : Exit → Act → World → Prop} (hgd : o.guard = none) (s x : Operand)
    (ho : o.op = .call { callee := .builtin .append, args := #[s, x], argTypes := #[26, 3] })
    {w0 w : World} {v : Value} {bs : List Nat} (k : Nat) {z : Int} (hs : a.eval s = v) (hx : a.eval x = .int .i64 z) (hz : z = (k : Int)) (hown : Own w0 w v bs)
    (hm : bs.length + k ≤ 1073741824)
    (h : ∀ v' w', Own w0 w' v' (bs ++ List.replicate k 0) → w.grownBy w' v.ownBlock → wpList Try.prog ops Q rest (a.put o.dst v') w') : wpList Try.prog ops Q (o :: rest) a w := by
  subst hz
  obtain ⟨v', w', hrun, h1, h2⟩ := run_zeros o.type k hown hm
  exact Lib.wpList_append_run w hgd s x _ _ ho _ _ hs hx _ _ hrun (h _ _ h1 h2)

end Go.Proofs.Ytgmnhfkmneohcaa
