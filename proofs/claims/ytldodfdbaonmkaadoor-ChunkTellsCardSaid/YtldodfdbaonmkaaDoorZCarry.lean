/-
  Texts of this proof, one behind the other: CarryBits, Tail, Carry.
-/
import Derived.Test.YtldodfdbaonmkaaDoorBits1
import Derived.Test.YtldodfdbaonmkaaDoorMem
import Derived.Test.YtldodfdbaonmkaaDoorSolve
import Derived.Deep.RegionHeld3
import Derived.Deep.DeepCutAuto

/-
  Plain facts (no program): the whole bytes of bits, and what is left of them.
-/
namespace Go.Proofs.YtldodfdbaonmkaaDoor

theorem bit_of {us bs : List Nat} {i k : Nat} (h : us.getD (i / 8) 0 = bs.getD (k / 8) 0) (hm : i % 8 = k % 8) : bit us i = bit bs k := by
  unfold bit
  rw [h, hm]
theorem getN_app (p q : List Nat) (i : Nat) : (p ++ q).getD i 0 = if i < p.length then p.getD i 0 else q.getD (i - p.length) 0 := by
  simp only [List.getD_eq_getElem?_getD]
  split
  · rename_i h
    rw [List.getElem?_append_left h]
  · rename_i h
    rw [List.getElem?_append_right (by omega)]
theorem getB_app (p q : List Bool) (i : Nat) : (p ++ q).getD i false = if i < p.length then p.getD i false else q.getD (i - p.length) false := by
  simp only [List.getD_eq_getElem?_getD]
  split
  · rename_i h
    rw [List.getElem?_append_left h]
  · rename_i h
    rw [List.getElem?_append_right (by omega)]
theorem bit_app (p q : List Nat) (i : Nat) : bit (p ++ q) i = if i < 8 * p.length then bit p i else bit q (i - 8 * p.length) := by
  split
  · exact bit_of (by rw [getN_app, if_pos (by omega)]) rfl
  · exact bit_of (by rw [getN_app, if_neg (by omega)]; congr 1; omega) (by omega)
theorem flat_app (p q : List Nat) : flat (p ++ q) = flat p ++ flat q := by
  apply getD_ext
  · simp only [flat_length, List.length_append]; omega
  · intro i hi
    rw [flat_getD, bit_app, getB_app, flat_length, flat_getD, flat_getD]
theorem bit_takeC (p : List Nat) (k i : Nat) (h : i < 8 * k) : bit (p.take k) i = bit p i :=
  bit_of (by simp only [List.getD_eq_getElem?_getD]; rw [List.getElem?_take_of_lt (by omega)]) rfl
theorem bit_dropC (p : List Nat) (k i : Nat) : bit (p.drop k) i = bit p (8 * k + i) :=
  bit_of (by simp only [List.getD_eq_getElem?_getD]; rw [List.getElem?_drop]; congr 2; omega) (by omega)
/-- the whole bytes of bits -/
theorem flat_whole (r : List Bool) (k : Nat) (h : 8 * k ≤ r.length) : flat ((pack r).take k) = r.take (8 * k) := by
  have hl : ((pack r).take k).length = k := by rw [List.length_take, pack_length]; omega
  apply getD_ext
  · rw [flat_length, hl, List.length_take]; omega
  · intro i hi
    rw [flat_length, hl] at hi
    rw [flat_getD, bit_takeC _ _ _ hi, bit_pack]
    simp only [List.getD_eq_getElem?_getD]
    rw [List.getElem?_take_of_lt (by omega)]
/-- what is left of them -/
theorem pack_left (r : List Bool) (k : Nat) (h : 8 * k ≤ r.length) : (pack r).drop k = pack (r.drop (8 * k)) := by
  apply eq_pack
  · intro x hx
    exact pack_lt r x (List.mem_of_mem_drop hx)
  · rw [List.length_drop, pack_length, List.length_drop]; omega
  · intro i _
    rw [bit_dropC, bit_pack]
    simp only [List.getD_eq_getElem?_getD]
    rw [List.getElem?_drop]
/-- whole bytes with bits behind them -/
theorem pack_behind (bs : List Nat) (hb : ∀ x ∈ bs, x < 256) (q : List Bool) : bs ++ pack q = pack (flat bs ++ q) := by
  apply eq_pack
  · intro x hx
    rcases List.mem_append.1 hx with h | h
    · exact hb x h
    · exact pack_lt q x h
  · rw [List.length_append, pack_length, List.length_append, flat_length]; omega
  · intro i _
    rw [bit_app, getB_app, flat_length, flat_getD, bit_pack]
/-- a round: the bits behind whole bytes, more bits, their whole bytes -/
theorem carry_bits {bs : List Nat} {r c : List Bool} (h : flat bs ++ r = c) (k : Nat) (hk : k = r.length / 8) : flat (bs ++ (pack r).take k) ++ r.drop (8 * k) = c ∧ (r.drop (8 * k)).length = r.length % 8 := by
  subst hk
  rw [flat_app, flat_whole r _ (by omega), List.append_assoc, List.take_append_drop]
  exact ⟨h, by rw [List.length_drop]; omega⟩

end Go.Proofs.YtldodfdbaonmkaaDoor

/-
  A slice value cut from a place on.
-/
namespace Go.Proofs.YtldodfdbaonmkaaDoor

theorem Rd.tail {w : World} {B m c a : Nat} {A : Option Addr} {bs : List Nat} (h : Rd w B A m c bs) (hk : a ≤ m) : Rd w B (A.map (fun x => x.add a)) (m - a) (c - a) (bs.drop a) := by
  have := h.cutTo (a := a) (n := m - a) (by omega)
  rwa [List.take_of_length_le (by rw [List.length_drop, h.len]; omega)] at this
theorem Rd.tailEnd {w : World} {B m a : Nat} {A : Option Addr} {bs : List Nat} (h : Rd w B A m a bs) (hk : a ≤ m) : Rd w B A (m - a) 0 (bs.drop a) := by
  have := h.cutEnd (n := m - a) (by omega)
  rwa [List.take_of_length_le (by rw [List.length_drop, h.len]; omega)] at this
theorem enc_drop (p : List Bool) (a : Nat) : (enc p).drop a = enc (p.drop a) := by simp [enc]

end Go.Proofs.YtldodfdbaonmkaaDoor

/-
  The contract of layer 9's carry: the whole bytes of bits behind bytes of the call's own, and the bits that are left.
-/
namespace Go.Proofs.YtldodfdbaonmkaaDoor
open Go.RowKit

theorem grown_then {w w1 w2 : World} {row : Option Nat} (h : w.grownBy w1 row) (h' : w1.grownBy w2 row) : w.grownBy w2 row :=
  ⟨h'.os.trans h.os, h'.tape.trans h.tape, h'.output.trans h.output, Nat.le_trans h.size h'.size, fun k hk hne => (h'.block k (Nat.lt_of_lt_of_le hk h.size) hne).trans (h.block k hk hne)⟩
theorem grown_of {w w' : World} (h : Below w.heap.size w w') (row : Option Nat) : w.grownBy w' row := ⟨h.os, h.tape, h.output, h.size, fun k hk _ => h.block k hk⟩

theorem cells_oth2 {w : World} {g d : Nat} {a b : Value} (hd : g ≠ d) (h : w.cell? ⟨g, 0, none⟩ = some a ∧ w.cell? ⟨g, 1, none⟩ = some b) (u0 u1 : Value) :
    ((w.setCell ⟨d, 0, none⟩ u0).setCell ⟨d, 1, none⟩ u1).cell? ⟨g, 0, none⟩ = some a ∧ ((w.setCell ⟨d, 0, none⟩ u0).setCell ⟨d, 1, none⟩ u1).cell? ⟨g, 1, none⟩ = some b := by
  have ne : ∀ k j : Nat, (⟨d, k, none⟩ : Addr) ≠ ⟨g, j, none⟩ := fun _ _ e => hd (by injection e with e; exact e.symm)
  rw [World.cell?_setCell_other _ _ _ _ (ne 1 0), World.cell?_setCell_other _ _ _ _ (ne 0 0), World.cell?_setCell_other _ _ _ _ (ne 1 1), World.cell?_setCell_other _ _ _ _ (ne 0 1)]
  exact h

theorem grown_set (w : World) (g k : Nat) (u : Value) : w.grownBy (w.setCell ⟨g, k, none⟩ u) (some g) :=
  ⟨rfl, rfl, rfl, by simp, fun j _ hj => Below.heap_setCell _ _ _ j (fun e => hj (by rw [e]))⟩
/-- a block that holds something else is not the row's -/
theorem Mid.apart {w0 w : World} {B g : Nat} {v : Value} {bs : List Nat} {cs : Array Value} {t : TypeId} {p : Nat × Nat} (h : Mid w0 B w v bs) (ho : w.heap[g]? = Option.some (Obj.cells cs t p)) (ht : t ≠ 5) : v.ownBlock ≠ Option.some g := by
  intro e
  rcases h.row.2 with ⟨rfl, _⟩ | ⟨g', cap, cur, rfl, _, hh, _⟩
  · simp [Value.ownBlock] at e
  · simp [Value.ownBlock] at e
    subst e
    rw [ho] at hh
    injection hh with hh
    injection hh with _ h2 _
    exact ht h2
theorem Mid.setFar {w0 w : World} {B g : Nat} {v : Value} {bs : List Nat} (h : Mid w0 B w v bs) (hne : v.ownBlock ≠ Option.some g) (hg : w0.heap.size ≤ g) (k : Nat) (u : Value) : Mid w0 B (w.setCell ⟨g, k, none⟩ u) v bs :=
  ⟨h.row.kept (grown_set w g k u) (.inr hne), h.bel.setCell (p := ⟨g, k, none⟩) hg u, h.le⟩

theorem Rd.farG {w w' : World} {B n c : Nat} {ad : Addr} {bs : List Nat} {row : Option Nat} (h : Rd w B (Option.some ad) n c bs) (hg : w.grownBy w' row) (hne : row ≠ Option.some ad.block) : Rd w' B (Option.some ad) n c bs :=
  ⟨h.len, h.cap, h.no, fun hn => by
    obtain ⟨a, e, hb, hc⟩ := h.cell hn
    injection e with e
    subst e
    exact ⟨_, rfl, hb, fun j hj => hg.cell (hc j hj) (by rw [add_block]; exact fun e => hne e.symm)⟩⟩

/-- what carry comes to -/
def RetC (w0 : World) (B : Nat) (w : World) (v : Value) (A : Option Addr) (bs : List Nat) (r : List Bool) (e : Ending) (w' : World) : Prop :=
  ∃ v' A' c' q, e = .returned (.tuple #[v', .agg #[.slice A' (pack q).length c', .int .i64 ((q.length : Nat) : Int)]]) ∧ q = r.drop (8 * (r.length / 8)) ∧
    Mid w0 B w' v' (bs ++ (pack r).take (r.length / 8)) ∧ Rd w' w'.heap.size A' (pack q).length c' (pack q) ∧ w.grownBy w' v.ownBlock ∧ Below B w w' ∧ ∀ a, A' = some a → ∃ a0, A = some a0 ∧ a.block = a0.block

set_option maxRecDepth 20000 in
set_option maxHeartbeats 2000000 in
theorem carry_any (v : Value) (A : Option Addr) (m c M B : Nat) (bs : List Nat) (r : List Bool) (w0 w : World) (hm : Mid w0 B w v bs) (hB : B ≤ w.heap.size) (hr : Rd w w.heap.size A m c (pack r)) (hM : r.length = M) (h1 : 1 ≤ M) (hne : ∀ ad, A = some ad → v.ownBlock ≠ some ad.block) (hMs : M ≤ 100000) (hbs : bs.length ≤ 1000000) :
    Calls Tryd.prog 12 #[v, .agg #[.slice A m c, .int .i64 (M : Int)]] w (RetC w0 B w v A bs r) := by
  have hml : (pack r).length = m := hr.len
  have hmm := pack_length r
  rw [hml, hM] at hmm
  have hcap := hr.cap
  obtain ⟨ad, rfl, hbl, _⟩ := hr.at_ (k := 0) (by omega)
  replace hne := hne ad rfl
  obtain ⟨k, hk⟩ : ∃ k, M / 8 = k := ⟨_, rfl⟩
  obtain ⟨d, hd⟩ : ∃ d, M % 8 = d := ⟨_, rfl⟩
  have hkm : k ≤ m := by omega
  have HQ : Hid (r.drop (8 * (r.length / 8)) = r.drop (8 * k)) := Lib.hid (by rw [hM, hk])
  have HK : Hid (r.length / 8 = k) := Lib.hid (by rw [hM, hk])
  have HPL : Hid ((pack r).drop k = pack (r.drop (8 * k))) := Lib.hid (pack_left r k (by rw [hM]; omega))
  have HQL : Hid ((r.drop (8 * k)).length = d) := Lib.hid (by rw [List.length_drop, hM]; omega)
  have hpl : (pack (r.drop (8 * k))).length = m - k := by rw [← HPL.out, List.length_drop, hml]
  have HD : Hid ((M : Int).tmod 8 = (d : Int)) := Lib.hid (by rw [← hd]; simp [Int.tmod_eq_emod_of_nonneg])
  have HDV : Hid ((M : Int) / 8 = (k : Int)) := Lib.hid (by rw [← hk]; simp)
  have hg3 := (BoxL.new w [.slice (some ad) m c, .int .i64 (M : Int)] 41).onA (.cells #[.slice none 0 0, .int .i64 0] 41)
  have hg5 := BoxL.new (w.alloc (.cells #[.slice (some ad) m c, .int .i64 (M : Int)] 41)) [.slice none 0 0, .int .i64 0] 41
  simp only [World.size_alloc] at hg5
  have hW : Below w.heap.size w ((w.alloc (.cells #[.slice (some ad) m c, .int .i64 (M : Int)] 41)).alloc (.cells #[.slice none 0 0, .int .i64 0] 41)) := by repeat (first | with_reducible exact Below.refl _ _ | with_reducible assumption | with_reducible refine Below.drew ?_ | with_reducible refine below_drewN ?_ _ | with_reducible refine Below.alloc ?_ (by (first | assumption | omega | (simp; done) | (simp; omega))) _ | with_reducible refine below_set ?_ (by (first | assumption | omega | (simp; done) | (simp; omega))) _ _)
  have hmW := hm.on hW
  have hrW := hr.below hW
  have hvb : ∀ g, v.ownBlock = some g → g < w.heap.size := fun g hg => (hm.row.lt g hg).2
  have hsW : ((w.alloc (.cells #[.slice (some ad) m c, .int .i64 (M : Int)] 41)).alloc (.cells #[.slice none 0 0, .int .i64 0] 41)).heap.size = w.heap.size + 2 := by simp
  have HMM := Lib.hid hmm
  clear hmm hml hk hd
  have hdv := HDV.out
  have hdm := HD.out
  go_enter Tryd.func12, Tryd.ntmps12
  go_upto_region 2 with fail
  have hob := heap_alloc_new (w.alloc (.cells #[.slice (some ad) m c, .int .i64 (M : Int)] 41)) (.cells #[.slice none 0 0, .int .i64 0] 41)
  simp only [World.size_alloc] at hob
  generalize (w.alloc (.cells #[.slice (some ad) m c, .int .i64 (M : Int)] 41)).alloc (.cells #[.slice none 0 0, .int .i64 0] 41) = W at *
  obtain ⟨g, hg⟩ : ∃ g, w.heap.size = g := ⟨_, rfl⟩
  rw [hg] at hob hg3 hg5 hsW hrW hbl hB hvb hW ⊢
  have HG := Lib.hid hg
  have hsz : B ≤ W.heap.size := by omega
  have hmD := hmW.drew
  have hrD : Rd W.drew g (some ad) k c ((pack r).take k) := (hrW.cutHead hkm).drew
  have hng : v.ownBlock ≠ some g := fun e => by have := hvb _ e; omega
  have hng1 : v.ownBlock ≠ some (g + 1) := fun e => by have := hvb _ e; omega
  have hbl' : bs.length + k ≤ 1073741824 := by omega
  have q0 := hg3.drew.get2
  have hkm' : (k : Int) ≤ (m : Int) := by omega
  have hkc' : (k : Int) ≤ (c : Int) := by omega
  have hk0 : (0 : Int) ≤ (k : Int) := by omega
  have hkc2 : k ≤ c := by omega
  clear hM hm hr hdv HDV HD
  go_cut [4, 5] (fun x4 x5 wx => x5 = .pointer (some ⟨g + 1, 0, none⟩) ∧ ∃ A' c', BoxL wx (g + 1) [.slice A' (m - k) c', .int .i64 (d : Int)] ∧ Mid w0 B wx x4 (bs ++ (pack r).take k) ∧ Rd wx wx.heap.size A' (m - k) c' ((pack r).drop k) ∧ w.grownBy wx v.ownBlock ∧ Below B w wx ∧ ∀ a, A' = some a → a.block = ad.block)
  case first =>
    have hend : ∀ (v7 : Value) (w7 : World) (A1 : Option Addr) (c1 : Nat), Mid w0 B w7 v7 (bs ++ (pack r).take k) → Below B W.drew w7 → W.drew.grownBy w7 v.ownBlock → (∀ X, Rd X g (some ad) m c (pack r) → Rd X g A1 (m - k) c1 ((pack r).drop k)) → (∀ a, A1 = some a → a.block = ad.block) →
        ∃ A' c', BoxL ((w7.setCell ⟨g + 1, 0, none⟩ (.slice A1 (m - k) c1)).setCell ⟨g + 1, 1, none⟩ (.int .i64 (d : Int))) (g + 1) [.slice A' (m - k) c', .int .i64 (d : Int)] ∧ Mid w0 B ((w7.setCell ⟨g + 1, 0, none⟩ (.slice A1 (m - k) c1)).setCell ⟨g + 1, 1, none⟩ (.int .i64 (d : Int))) v7 (bs ++ (pack r).take k) ∧ Rd ((w7.setCell ⟨g + 1, 0, none⟩ (.slice A1 (m - k) c1)).setCell ⟨g + 1, 1, none⟩ (.int .i64 (d : Int))) ((w7.setCell ⟨g + 1, 0, none⟩ (.slice A1 (m - k) c1)).setCell ⟨g + 1, 1, none⟩ (.int .i64 (d : Int))).heap.size A' (m - k) c' ((pack r).drop k) ∧ w.grownBy ((w7.setCell ⟨g + 1, 0, none⟩ (.slice A1 (m - k) c1)).setCell ⟨g + 1, 1, none⟩ (.int .i64 (d : Int))) v.ownBlock ∧ Below B w ((w7.setCell ⟨g + 1, 0, none⟩ (.slice A1 (m - k) c1)).setCell ⟨g + 1, 1, none⟩ (.int .i64 (d : Int))) ∧ ∀ a, A' = some a → a.block = ad.block := by
      intro v7 w7 A1 c1 m7 hb7 hg7 hcut hA1
      have hsz7 := hg7.size
      have e1 : W.drew.heap.size = W.heap.size := rfl
      have hob7 : w7.heap[g + 1]? = some (.cells #[.slice none 0 0, .int .i64 0] 41 (0, 0)) := by
        rw [hg7.block (g + 1) (by rw [e1]; omega) (fun e => hng1 e.symm)]
        exact hob
      have hfar := m7.apart hob7 (by decide)
      have hle := m7.le
      have hst : Below (g + 1) w7 ((w7.setCell ⟨g + 1, 0, none⟩ (.slice A1 (m - k) c1)).setCell ⟨g + 1, 1, none⟩ (.int .i64 (d : Int))) := below_set2 (Below.refl _ _) (Nat.le_refl _) _ _
      have hgo : W.grownBy w7 v.ownBlock := ⟨hg7.os, hg7.tape, hg7.output, hg7.size, hg7.block⟩
      have hwW : w.grownBy W v.ownBlock := grown_of (by rw [hg]; exact hW) _
      refine ⟨A1, c1, (hg5.drew.grown hg7 hng1).all2 _ _, (m7.setFar hfar (by omega) 0 _).setFar hfar (by omega) 1 _, ?_, ?_, ?_, hA1⟩
      · have h3 := hcut w7 (hrW.drew.farG hg7 hne)
        refine (h3.below (hst.mono (Nat.le_succ _))).more ?_
        simp
        omega
      · refine ⟨hst.os.trans (hgo.os.trans hwW.os), hst.tape.trans (hgo.tape.trans hwW.tape), hst.output.trans (hgo.output.trans hwW.output), by have := hst.size; have := hgo.size; have := hwW.size; omega, fun j hj hne' => ?_⟩
        rw [hst.block j (by omega), hgo.block j (by omega) hne', hwW.block j hj hne']
      · exact (hW.mono hB).trans ((undrew hb7).trans (hst.mono (by omega)))
    rcases (by omega : k < c ∨ c = k) with hkc | hkc
    · have hck : (c = k) = False := by simp; omega
      go_region_held3 (fun w' => (w'.cell? ⟨g, 0, none⟩ = some (.slice (some ad) m c) ∧ w'.cell? ⟨g, 1, none⟩ = some (.int .i64 (M : Int))))
        (with_reducible first | exact q0 | exact cells_oth2 (Nat.ne_of_lt (Nat.lt_succ_self g)) q0 _ _) (first
        | (refine step_appM (by rfl) (.tmp 10) (.tmp 14) (by rfl) (by rfl) (by rfl) hmD hsz hrD hbl' ?_; intro v7 w7 m7 hb7 hg7; replace q0 := (hg3.drew.grown hg7 hng).get2; have y5 := hg5.drew.grown hg7 hng1; obtain ⟨z0, z1⟩ := y5.get2; obtain ⟨zf0, zf1⟩ := y5.free2))
      all_goals
        go_wp2_with fail
        go_meet
        exact ⟨rfl, hend _ _ _ _ m7 hb7 hg7 (fun X hX => hX.tail hkm) (fun a ha => by injection ha with ha; rw [← ha]; exact add_block ad k)⟩
    · have hkc' : k = c := hkc.symm
      clear hkc
      subst hkc'
      have e0 : m - k = 0 := by omega
      rw [e0] at hend
      go_region_held3 (fun w' => (w'.cell? ⟨g, 0, none⟩ = some (.slice (some ad) m k) ∧ w'.cell? ⟨g, 1, none⟩ = some (.int .i64 (M : Int))))
        (with_reducible first | exact q0 | exact cells_oth2 (Nat.ne_of_lt (Nat.lt_succ_self g)) q0 _ _) (first
        | (refine step_appM (by rfl) (.tmp 10) (.tmp 14) (by rfl) (by rfl) (by rfl) hmD hsz hrD hbl' ?_; intro v7 w7 m7 hb7 hg7; replace q0 := (hg3.drew.grown hg7 hng).get2; have y5 := hg5.drew.grown hg7 hng1; obtain ⟨z0, z1⟩ := y5.get2; obtain ⟨zf0, zf1⟩ := y5.free2))
      all_goals
        go_wp2_with fail
        go_meet
        rw [e0]
        exact ⟨rfl, hend _ _ _ _ m7 hb7 hg7 (fun X hX => by have := hX.tailEnd hkm; rwa [e0] at this) (fun a ha => by injection ha with ha; rw [← ha])⟩
  case rest =>
    obtain ⟨rfl, A', c', b5, m5, r5, hg5', hb5, hA5⟩ := hcut
    obtain ⟨z0, z1⟩ := b5.get2
    go_wp2_with fail
    rw [HPL.out, ← hpl] at r5
    refine bodyPost_ret (v := .tuple #[u4, .agg #[.slice A' (m - k) c', .int .i64 (d : Int)]]) (by simp [results, Tryd.results12, go_sem, z0, z1]) rfl ⟨u4, A', c', r.drop (8 * k), ?_, HQ.out.symm, ?_, ?_, hg5', hb5, fun a ha => ⟨ad, rfl, hA5 a ha⟩⟩
    · rw [hpl, HQL.out]
    · rw [HK.out]; exact m5
    · exact r5

end Go.Proofs.YtldodfdbaonmkaaDoor
