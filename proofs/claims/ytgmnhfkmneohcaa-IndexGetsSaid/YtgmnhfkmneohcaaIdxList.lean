/-
  The contracts of the laws' own list and same: the entries as the reference has them; two lists of the same entries are the same.
-/
import Derived.Test.YtgmnhfkmneohcaaEnts
import Derived.Test.YtgmnhfkmneohcaaIdxMay
import Derived.Laws.StructEq
import Derived.Deep.RegionHeld3
import Derived.Deep.CutBlock
import Derived.Deep.QuietTactic
import Derived.BigQuiet
namespace Go.Proofs.Ytgmnhfkmneohcaa
open Go.RowKit

/-- at a step of a region that draws its order -/
theorem step_appE {tS t : TypeId} (hu : Try.prog.underlying tS = some (.slice t)) (hinfo : (Try.prog.info? t).map (fun i => (i.zero, i.size, i.bytes)) = some (some (.agg #[.int .i64 0, .int .i64 0, .int .i64 0, .int .i64 0]), 4, 32))
    {ops : Array Oper} {o : Oper} {a : Act} {K : Act → World → Prop} {Q : Exit → Act → World → Prop} {E : Prop} (hgd : o.guard = none) (s x : Operand)
    (ho : o.op = .call { callee := .builtin .append, args := #[s, x], argTypes := #[tS, tS] })
    {w0 w : World} {B : Nat} {v : Value} {bs cs : List Ent} {A : Option Addr} {m c : Nat} (hs : a.eval s = v) (hx : a.eval x = .slice A m c) (hown : OwnE t w0 w v bs) (hr : RdE w B A m c cs)
    (hm : bs.length + m ≤ 1073741824) (h : ∀ v' w', OwnE t w0 w' v' (bs ++ cs) → w.grownBy w' v.ownBlock → K (a.put o.dst v') w') :
    if Region.wanted o (yielded ops a.tmps) = true then Oper.wp Try.prog o a w K Q else E := by
  have hw : Region.wanted o (yielded ops a.tmps) = true := by simp [Region.wanted, hgd]
  rw [if_pos hw]
  exact wp_appE hu hinfo s x ho hs hx hown hr hm h

/-- what a function that makes entries comes to -/
def RetE (t : TypeId) (w : World) (es : List Ent) (e : Ending) (w' : World) : Prop := ∃ A c, e = .returned (.slice A es.length c) ∧ OwnE t w w' (.slice A es.length c) es
theorem RetE.mk {t : TypeId} {w w' : World} {v : Value} {es : List Ent} (h : OwnE t w w' v es) : RetE t w es (.returned v) w' := by
  obtain ⟨A, c, rfl, _⟩ := h.form
  exact ⟨A, c, rfl, h⟩

set_option maxRecDepth 20000 in
set_option maxHeartbeats 1000000 in
theorem list_any (A : Option Addr) (n c B : Nat) (es : List Ent) (w : World) (h : RdE w B A n c es) (hB : B ≤ w.heap.size) (hn : n ≤ 100000) :
    Calls Try.prog 9 #[.slice A n c] w (RetE 55 w es) := by
  have HL := Lib.hid h.len
  have HB := Lib.hid hB
  have HH := Lib.hid h
  clear h hB
  go_enter Try.func9, Try.ntmps9
  go_wp2
  go_loopw [3, 4] (fun v i wr => ∃ j : Nat, j ≤ n ∧ i = .int .i64 (j : Int) ∧ OwnE 55 w wr v (es.take j)) (fun _ i _ => n - (intOf i).toNat)
  case atStart => exact ⟨0, by omega, rfl, OwnE.nil_ _ _ _ (Below.refl _ _)⟩
  case round =>
    obtain ⟨j, hj, rfl, hown⟩ := hrel
    by_cases hlt : j < n
    · have hfit := HH.out.fitAt j
      have HAT : Hid (∀ w', Below w.heap.size w w' → ∃ ad, A = some ad ∧ CellsE w' (ad.add (j * 4)) (es.getD j ent0)) := Lib.hid (fun w' hb => by
        obtain ⟨ad, e, _, hc⟩ := (HH.out.below (hb.mono HB.out)).at_ hlt
        exact ⟨ad, e, hc⟩)
      have HTK : Hid (es.take (j + 1) = es.take j ++ [es.getD j ent0]) := Lib.hid (take_getD (by have := HL.out; omega))
      have HTL : Hid ((es.take j).length + 1 ≤ 1073741824) := Lib.hid (by rw [List.length_take]; have := HL.out; omega)
      obtain ⟨ad, rfl, _⟩ := HAT.out _ (Below.refl _ _)
      generalize es.getD j ent0 = x at *
      obtain ⟨q, HQ⟩ : ∃ q, Hid (q = es.take j) := ⟨_, Lib.hid rfl⟩
      rw [← HQ.out] at hown
      have HQL : Hid (q.length + 1 ≤ 1073741824) := Lib.hid (by rw [HQ.out]; exact HTL.out)
      obtain ⟨m, x1, ct, l⟩ := x
      have HS : Hid (∀ w', Below w.heap.size w w' → (w'.cell? (ad.add (j * 4)) = some (.int .i64 m) ∧ w'.cell? ⟨(ad.add (j * 4)).block, (ad.add (j * 4)).off + 1, none⟩ = some (.int .i64 x1) ∧ w'.cell? ⟨(ad.add (j * 4)).block, (ad.add (j * 4)).off + 2, none⟩ = some (.int .i64 ct) ∧ w'.cell? ⟨(ad.add (j * 4)).block, (ad.add (j * 4)).off + 3, none⟩ = some (.int .i64 l))) := Lib.hid (fun w' hb => by
        obtain ⟨ad', e, hc⟩ := HAT.out w' hb
        injection e with e
        subst e
        exact ⟨hc.c0, hc.c1, hc.c2, hc.c3⟩)
      have hin0 : (0 : Int) ≤ (j : Int) := by omega
      have hin1 : (j : Int) < (n : Int) := by omega
      go_upto_region 5 with fail
      have hownd := hown.drew
      have hs0 := HS.out _ hownd.bel
      have hs1 := HS.out _ (hownd.alloc (.cells #[.int .i64 m, .int .i64 x1, .int .i64 ct, .int .i64 l] 55)).bel
      clear hown
      have hu := Try.underlying32
      have hi := Try.infoF
      have hone := RdE.one 55 wr.drew ⟨m, x1, ct, l⟩ hfit
      have hal := hownd.alloc (.cells #[.int .i64 m, .int .i64 x1, .int .i64 ct, .int .i64 l] 55)
      go_region_held3 (fun w' => (w'.cell? (ad.add (j * 4)) = some (.int .i64 m) ∧ w'.cell? ⟨(ad.add (j * 4)).block, (ad.add (j * 4)).off + 1, none⟩ = some (.int .i64 x1) ∧ w'.cell? ⟨(ad.add (j * 4)).block, (ad.add (j * 4)).off + 2, none⟩ = some (.int .i64 ct) ∧ w'.cell? ⟨(ad.add (j * 4)).block, (ad.add (j * 4)).off + 3, none⟩ = some (.int .i64 l)))
        (first | exact hs0 | exact hs1 | exact hs2) (first
        | (refine step_appE hu hi rfl (.tmp 11) (.tmp 33) rfl rfl rfl hal hone HQL.out ?_; intro v' w' hown2 _; have hs2 := HS.out _ hown2.bel))
      all_goals
        go_wp2_with fail
        go_roundw
        case rel => exact ⟨j + 1, by omega, by go_num, by rw [HTK.out, ← HQ.out]; exact hown2⟩
        case measure => simp [intOf]; omega
    · have e : es.take j = es := List.take_of_length_le (by have := HL.out; omega)
      rw [e] at hown
      go_wp2
      go_ret
      exact RetE.mk hown

theorem ent_fields : Try.prog.underlying 55 = some (.struct (Try.prog.fieldsOf 55)) := by kernel_rfl
theorem ent_held : Try.prog.stoodInHeld 55 = false := by kernel_rfl
theorem ent_guard : Try.prog.eqGuardType Try.prog.depth 55 = false := by kernel_rfl
theorem run_neq_ent (w : World) (a b c d : Int) : (binOp .neq 55 (.agg #[.int .i64 a, .int .i64 b, .int .i64 c, .int .i64 d]) (.agg #[.int .i64 a, .int .i64 b, .int .i64 c, .int .i64 d])).run Try.prog w = .ok (.bool false) w := by
  rw [run_neq_struct, run_equalIn_agg _ _ _ _ _ ent_fields ent_held]
  simp [Op.eqFields, go_sem]

set_option maxRecDepth 20000 in
set_option maxHeartbeats 1000000 in
theorem same_is (A1 A2 : Option Addr) (n c1 c2 : Nat) (es : List Ent) (w : World) (h1 : RdE w w.heap.size A1 n c1 es) (h2 : RdE w w.heap.size A2 n c2 es) (hm : n ≤ 100000) :
    Calls Try.prog 16 #[.slice A1 n c1, .slice A2 n c2] w fun e w' => e = .returned (.int .i64 1) ∧ Below w.heap.size w w' := by
  go_enter Try.func16, Try.ntmps16
  go_wp2_with fail
  go_loopw [5] (fun i wr => ∃ k : Nat, k ≤ n ∧ i = .int .i64 k ∧ Below w.heap.size w wr) (fun i _ => n - (intOf i).toNat)
  case atStart => exact ⟨0, Nat.zero_le _, rfl, Below.refl _ _⟩
  case round =>
    obtain ⟨k, hk, rfl, hwr⟩ := hrel
    by_cases hlt : k < n
    · obtain ⟨ad, rfl, hbl, a0, a1, a2, a3⟩ := (h1.below hwr).at_ hlt
      obtain ⟨bd, rfl, hbl2, b0, b1, b2, b3⟩ := (h2.below hwr).at_ hlt
      generalize es.getD k ent0 = x at *
      obtain ⟨m, x1, ct, l⟩ := x
      simp only at a0 a1 a2 a3 b0 b1 b2 b3
      have hlt' : (k : Int) < (n : Int) := by omega
      have qm := fun w => run_neq_ent w m x1 ct l
      have mg := ent_guard
      go_upto_region 6 with fail
      go_quiet (fail)
      go_wp2_with fail
      go_roundw
      case rel => exact ⟨k + 1, by omega, by go_num, below_drewN hwr _⟩
      case measure => simp [intOf]; omega
    · go_wp2
      go_ret
      exact ⟨rfl, hwr⟩

end Go.Proofs.Ytgmnhfkmneohcaa
