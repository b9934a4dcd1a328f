/-
  Texts of this proof, one behind the other: Chunk2, Carry, ChunkEnc.
-/
import Derived.Test.YtaebljoacffghaaGreatDoorPlain
import Derived.Test.YtaebljoacffghaaGreatDoorKinsP
import Derived.Test.YtaebljoacffghaaGreatDoorWords
import Derived.Deep.RegionHeld3
import Derived.Deep.DeepCutAuto
import Derived.Deep.CutBlock

/-
  Plain facts (no program): what many samples' bytes are, or what is amiss.
-/
namespace Go.Proofs.YtaebljoacffghaaGreatDoor

section
variable {z : Int} {xs : List (Int × Nat)}
/-- what is amiss with samples that are to be bytes (1 to 65535 of them; e of 0: nothing) -/
def EncE (z : Int) (xs : List (Int × Nat)) (e : Nat) : Prop :=
  (xs.length = 0 ∧ e = 1) ∨ (xs.length ≠ 0 ∧ (((z ≠ 1 ∧ z ≠ 2) ∧ e = 6) ∨ ∃ k : Nat, z = (k : Int) ∧ (k = 1 ∨ k = 2) ∧ ((¬ Rises xs ∧ e = 4) ∨ (Rises xs ∧ e = 0))))
theorem EncE.same {e e' : Nat} (h : EncE z xs e) (h' : EncE z xs e') : e = e' := by
  rcases h with ⟨h0, rfl⟩ | ⟨h0, h⟩
  · rcases h' with ⟨_, rfl⟩ | ⟨h0', _⟩
    · rfl
    · exact absurd h0 h0'
  · rcases h' with ⟨h0', _⟩ | ⟨_, h'⟩
    · exact absurd h0' h0
    · rcases h with ⟨hz, rfl⟩ | ⟨k, hz, hk, h⟩
      · rcases h' with ⟨_, rfl⟩ | ⟨k', hz', hk', _⟩
        · rfl
        · omega
      · rcases h' with ⟨hz', _⟩ | ⟨k', hz', hk', h'⟩
        · omega
        · rcases h with ⟨hr, rfl⟩ | ⟨hr, rfl⟩ <;> rcases h' with ⟨hr', rfl⟩ | ⟨hr', rfl⟩
          · rfl
          · exact absurd hr' hr
          · exact absurd hr hr'
          · rfl
theorem EncE.le {e : Nat} (h : EncE z xs e) : e ≤ 6 := by
  rcases h with ⟨_, rfl⟩ | ⟨_, ⟨_, rfl⟩ | ⟨k, _, _, ⟨_, rfl⟩ | ⟨_, rfl⟩⟩⟩ <;> omega
/-- nothing is amiss -/
theorem EncE.ok (h : EncE z xs 0) : 1 ≤ xs.length ∧ ∃ k : Nat, z = (k : Int) ∧ (k = 1 ∨ k = 2) ∧ Rises xs := by
  rcases h with ⟨_, h⟩ | ⟨h0, ⟨_, h⟩ | ⟨k, hz, hk, ⟨_, h⟩ | ⟨hr, _⟩⟩⟩
  · cases h
  · cases h
  · cases h
  · exact ⟨by omega, k, hz, hk, hr⟩
theorem EncE.take (h : EncE z xs 0) {m : Nat} (hm : 1 ≤ m) : EncE z (xs.take m) 0 := by
  obtain ⟨h1, k, hz, hk, hr⟩ := h.ok
  exact .inr ⟨by rw [List.length_take]; omega, .inr ⟨k, hz, hk, .inr ⟨hr.take m, rfl⟩⟩⟩
/-- their bits -/
def encP (z : Int) (xs : List (Int × Nat)) (e : Nat) : List Bool := if e = 0 then cdK z.toNat xs xs.length else []
theorem encP_le (h : AllQ xs) (e : Nat) : (encP z xs e).length ≤ 146 * xs.length := by
  unfold encP
  split
  · exact cdK_le h _
  · simp
/-- nothing was amiss with the first j -/
def PreE (z : Int) (xs : List (Int × Nat)) (j : Nat) : Prop := j = 0 ∨ (∃ k : Nat, z = (k : Int) ∧ (k = 1 ∨ k = 2)) ∧ ∀ i, i + 1 < j → (xs.getD i (0, 0)).1 < (xs.getD (i + 1) (0, 0)).1
theorem PreE.step {j : Nat} (h : PreE z xs j) (hj : j < xs.length) {r : PA} (hr : putA z (stK z.toNat xs j) (xs.getD j (0, 0)).1 (xs.getD j (0, 0)).2 = r) :
    (r.e ≠ 0 → EncE z xs r.e) ∧ (r.e = 0 → PreE z xs (j + 1) ∧ stK z.toNat xs (j + 1) = r.s ∧ cdK z.toNat xs (j + 1) = cdK z.toNat xs j ++ r.p) := by
  subst hr
  unfold putA
  split
  · rename_i hz
    exact ⟨fun _ => .inr ⟨by omega, .inl ⟨hz, rfl⟩⟩, fun h => by cases h⟩
  · rename_i hz
    obtain ⟨k, rfl, hk⟩ := known_is hz
    split
    · rename_i h2
      refine ⟨fun _ => .inr ⟨by omega, .inr ⟨k, rfl, hk, .inl ⟨fun hr => ?_, rfl⟩⟩⟩, fun h => by cases h⟩
      rw [stK_rises hr hj] at h2
      cases h2
    · rename_i h2
      refine ⟨fun h => absurd rfl h, fun _ => ⟨.inr ⟨⟨k, rfl, hk⟩, fun i hi => ?_⟩, rfl, rfl⟩⟩
      by_cases e : i + 1 = j
      · subst e
        have h3 : risesK (stK ((k : Int).toNat) xs (i + 1)) (xs.getD (i + 1) (0, 0)).1 = true := by simpa using h2
        unfold risesK at h3
        rw [stK_n, stK_t] at h3
        simpa using h3
      · rcases h with h0 | ⟨_, h⟩
        · omega
        · exact h i (by omega)
theorem PreE.done (h : PreE z xs xs.length) (h0 : xs.length ≠ 0) : EncE z xs 0 := by
  rcases h with h | ⟨⟨k, hz, hk⟩, hr⟩
  · exact absurd h h0
  · exact .inr ⟨h0, .inr ⟨k, hz, hk, .inr ⟨hr, rfl⟩⟩⟩
theorem PreE.zero : PreE z xs 0 := .inl rfl
end

end Go.Proofs.YtaebljoacffghaaGreatDoor

/-
  The contract of layer 9's carry: the whole bytes of bits behind bytes of the call's own, and the bits that are left.
-/
namespace Go.Proofs.YtaebljoacffghaaGreatDoor
open Go.RowKit

theorem grown_then {w w1 w2 : World} {row : Option Nat} (h : w.grownBy w1 row) (h' : w1.grownBy w2 row) : w.grownBy w2 row :=
  ⟨h'.os.trans h.os, h'.tape.trans h.tape, h'.output.trans h.output, Nat.le_trans h.size h'.size, fun k hk hne => (h'.block k (Nat.lt_of_lt_of_le hk h.size) hne).trans (h.block k hk hne)⟩
theorem grown_of {w w' : World} (h : Below w.heap.size w w') (row : Option Nat) : w.grownBy w' row := ⟨h.os, h.tape, h.output, h.size, fun k hk _ => h.block k hk⟩

theorem cells_oth2 {w : World} {g d : Nat} {a b : Value} (hd : g ≠ d) (h : w.cell? ⟨g, 0, none⟩ = some a ∧ w.cell? ⟨g, 1, none⟩ = some b) (u0 u1 : Value) :
    ((w.setCell ⟨d, 0, none⟩ u0).setCell ⟨d, 1, none⟩ u1).cell? ⟨g, 0, none⟩ = some a ∧ ((w.setCell ⟨d, 0, none⟩ u0).setCell ⟨d, 1, none⟩ u1).cell? ⟨g, 1, none⟩ = some b := by
  have ne : ∀ k j : Nat, (⟨d, k, none⟩ : Addr) ≠ ⟨g, j, none⟩ := fun _ _ e => hd (by injection e with e; exact e.symm)
  rw [World.cell?_setCell_other _ _ _ _ (ne 1 0), World.cell?_setCell_other _ _ _ _ (ne 0 0), World.cell?_setCell_other _ _ _ _ (ne 1 1), World.cell?_setCell_other _ _ _ _ (ne 0 1)]
  exact h

theorem grown_set (w : World) (g k : Nat) (u : Value) : w.grownBy (w.setCell ⟨g, k, none⟩ u) (some g) :=
  ⟨rfl, rfl, rfl, by simp, fun j _ hj => Below.heap_setCell _ _ _ j (fun e => hj (by rw [e]))⟩
/-- a block that holds something else is not the row's -/
theorem Mid.apart {w0 w : World} {B g : Nat} {v : Value} {bs : List Nat} {cs : Array Value} {t : TypeId} {p : Nat × Nat} (h : Mid w0 B w v bs) (ho : w.heap[g]? = Option.some (Obj.cells cs t p)) (ht : t ≠ 5) : v.ownBlock ≠ Option.some g := by
  intro e
  rcases h.row.2 with ⟨rfl, _⟩ | ⟨g', cap, cur, rfl, _, hh, _⟩
  · simp [Value.ownBlock] at e
  · simp [Value.ownBlock] at e
    subst e
    rw [ho] at hh
    injection hh with hh
    injection hh with _ h2 _
    exact ht h2
theorem Mid.setFar {w0 w : World} {B g : Nat} {v : Value} {bs : List Nat} (h : Mid w0 B w v bs) (hne : v.ownBlock ≠ Option.some g) (hg : w0.heap.size ≤ g) (k : Nat) (u : Value) : Mid w0 B (w.setCell ⟨g, k, none⟩ u) v bs :=
  ⟨h.row.kept (grown_set w g k u) (.inr hne), h.bel.setCell (p := ⟨g, k, none⟩) hg u, h.le⟩

theorem Rd.farG {w w' : World} {B n c : Nat} {ad : Addr} {bs : List Nat} {row : Option Nat} (h : Rd w B (Option.some ad) n c bs) (hg : w.grownBy w' row) (hne : row ≠ Option.some ad.block) : Rd w' B (Option.some ad) n c bs :=
  ⟨h.len, h.cap, h.no, fun hn => by
    obtain ⟨a, e, hb, hc⟩ := h.cell hn
    injection e with e
    subst e
    exact ⟨_, rfl, hb, fun j hj => hg.cell (hc j hj) (by rw [add_block]; exact fun e => hne e.symm)⟩⟩

/-- what carry comes to -/
def RetC (w0 : World) (B : Nat) (w : World) (v : Value) (A : Option Addr) (bs : List Nat) (r : List Bool) (e : Ending) (w' : World) : Prop :=
  ∃ v' A' c' q, e = .returned (.tuple #[v', .agg #[.slice A' (pack q).length c', .int .i64 ((q.length : Nat) : Int)]]) ∧ q = r.drop (8 * (r.length / 8)) ∧
    Mid w0 B w' v' (bs ++ (pack r).take (r.length / 8)) ∧ Rd w' w'.heap.size A' (pack q).length c' (pack q) ∧ w.grownBy w' v.ownBlock ∧ Below B w w' ∧ ∀ a, A' = some a → ∃ a0, A = some a0 ∧ a.block = a0.block

set_option maxRecDepth 20000 in
set_option maxHeartbeats 2000000 in
theorem carry_any (v : Value) (A : Option Addr) (m c M B : Nat) (bs : List Nat) (r : List Bool) (w0 w : World) (hm : Mid w0 B w v bs) (hB : B ≤ w.heap.size) (hr : Rd w w.heap.size A m c (pack r)) (hM : r.length = M) (h1 : 1 ≤ M) (hne : ∀ ad, A = some ad → v.ownBlock ≠ some ad.block) (hMs : M ≤ 100000) (hbs : bs.length ≤ 1000000) :
    Calls Tryz.prog 85 #[v, .agg #[.slice A m c, .int .i64 (M : Int)]] w (RetC w0 B w v A bs r) := by
  have hml : (pack r).length = m := hr.len
  have hmm := pack_length r
  rw [hml, hM] at hmm
  have hcap := hr.cap
  obtain ⟨ad, rfl, hbl, _⟩ := hr.at_ (k := 0) (by omega)
  replace hne := hne ad rfl
  obtain ⟨k, hk⟩ : ∃ k, M / 8 = k := ⟨_, rfl⟩
  obtain ⟨d, hd⟩ : ∃ d, M % 8 = d := ⟨_, rfl⟩
  have hkm : k ≤ m := by omega
  have HQ : Hid (r.drop (8 * (r.length / 8)) = r.drop (8 * k)) := Lib.hid (by rw [hM, hk])
  have HK : Hid (r.length / 8 = k) := Lib.hid (by rw [hM, hk])
  have HPL : Hid ((pack r).drop k = pack (r.drop (8 * k))) := Lib.hid (pack_left r k (by rw [hM]; omega))
  have HQL : Hid ((r.drop (8 * k)).length = d) := Lib.hid (by rw [List.length_drop, hM]; omega)
  have hpl : (pack (r.drop (8 * k))).length = m - k := by rw [← HPL.out, List.length_drop, hml]
  have HD : Hid ((M : Int).tmod 8 = (d : Int)) := Lib.hid (by rw [← hd]; simp [Int.tmod_eq_emod_of_nonneg])
  have HDV : Hid ((M : Int) / 8 = (k : Int)) := Lib.hid (by rw [← hk]; simp)
  have hg3 := (BoxL.new w [.slice (some ad) m c, .int .i64 (M : Int)] 148).onA (.cells #[.slice none 0 0, .int .i64 0] 148)
  have hg5 := BoxL.new (w.alloc (.cells #[.slice (some ad) m c, .int .i64 (M : Int)] 148)) [.slice none 0 0, .int .i64 0] 148
  simp only [World.size_alloc] at hg5
  have hW : Below w.heap.size w ((w.alloc (.cells #[.slice (some ad) m c, .int .i64 (M : Int)] 148)).alloc (.cells #[.slice none 0 0, .int .i64 0] 148)) := by repeat (first | with_reducible exact Below.refl _ _ | with_reducible assumption | with_reducible refine Below.drew ?_ | with_reducible refine below_drewN ?_ _ | with_reducible refine Below.alloc ?_ (by (first | assumption | omega | (simp; done) | (simp; omega))) _ | with_reducible refine below_set ?_ (by (first | assumption | omega | (simp; done) | (simp; omega))) _ _)
  have hmW := hm.on hW
  have hrW := hr.below hW
  have hvb : ∀ g, v.ownBlock = some g → g < w.heap.size := fun g hg => (hm.row.lt g hg).2
  have hsW : ((w.alloc (.cells #[.slice (some ad) m c, .int .i64 (M : Int)] 148)).alloc (.cells #[.slice none 0 0, .int .i64 0] 148)).heap.size = w.heap.size + 2 := by simp
  have HMM := Lib.hid hmm
  clear hmm hml hk hd
  have hdv := HDV.out
  have hdm := HD.out
  go_enter Tryz.func85, Tryz.ntmps85
  go_upto_region 2 with fail
  have hob := heap_alloc_new (w.alloc (.cells #[.slice (some ad) m c, .int .i64 (M : Int)] 148)) (.cells #[.slice none 0 0, .int .i64 0] 148)
  simp only [World.size_alloc] at hob
  generalize (w.alloc (.cells #[.slice (some ad) m c, .int .i64 (M : Int)] 148)).alloc (.cells #[.slice none 0 0, .int .i64 0] 148) = W at *
  obtain ⟨g, hg⟩ : ∃ g, w.heap.size = g := ⟨_, rfl⟩
  rw [hg] at hob hg3 hg5 hsW hrW hbl hB hvb hW ⊢
  have HG := Lib.hid hg
  have hsz : B ≤ W.heap.size := by omega
  have hmD := hmW.drew
  have hrD : Rd W.drew g (some ad) k c ((pack r).take k) := (hrW.cutHead hkm).drew
  have hng : v.ownBlock ≠ some g := fun e => by have := hvb _ e; omega
  have hng1 : v.ownBlock ≠ some (g + 1) := fun e => by have := hvb _ e; omega
  have hbl' : bs.length + k ≤ 1073741824 := by omega
  have q0 := hg3.drew.get2
  have hkm' : (k : Int) ≤ (m : Int) := by omega
  have hkc' : (k : Int) ≤ (c : Int) := by omega
  have hk0 : (0 : Int) ≤ (k : Int) := by omega
  have hkc2 : k ≤ c := by omega
  clear hM hm hr hdv HDV HD
  go_cut [4, 5] (fun x4 x5 wx => x5 = .pointer (some ⟨g + 1, 0, none⟩) ∧ ∃ A' c', BoxL wx (g + 1) [.slice A' (m - k) c', .int .i64 (d : Int)] ∧ Mid w0 B wx x4 (bs ++ (pack r).take k) ∧ Rd wx wx.heap.size A' (m - k) c' ((pack r).drop k) ∧ w.grownBy wx v.ownBlock ∧ Below B w wx ∧ ∀ a, A' = some a → a.block = ad.block)
  case first =>
    have hend : ∀ (v7 : Value) (w7 : World) (A1 : Option Addr) (c1 : Nat), Mid w0 B w7 v7 (bs ++ (pack r).take k) → Below B W.drew w7 → W.drew.grownBy w7 v.ownBlock → (∀ X, Rd X g (some ad) m c (pack r) → Rd X g A1 (m - k) c1 ((pack r).drop k)) → (∀ a, A1 = some a → a.block = ad.block) →
        ∃ A' c', BoxL ((w7.setCell ⟨g + 1, 0, none⟩ (.slice A1 (m - k) c1)).setCell ⟨g + 1, 1, none⟩ (.int .i64 (d : Int))) (g + 1) [.slice A' (m - k) c', .int .i64 (d : Int)] ∧ Mid w0 B ((w7.setCell ⟨g + 1, 0, none⟩ (.slice A1 (m - k) c1)).setCell ⟨g + 1, 1, none⟩ (.int .i64 (d : Int))) v7 (bs ++ (pack r).take k) ∧ Rd ((w7.setCell ⟨g + 1, 0, none⟩ (.slice A1 (m - k) c1)).setCell ⟨g + 1, 1, none⟩ (.int .i64 (d : Int))) ((w7.setCell ⟨g + 1, 0, none⟩ (.slice A1 (m - k) c1)).setCell ⟨g + 1, 1, none⟩ (.int .i64 (d : Int))).heap.size A' (m - k) c' ((pack r).drop k) ∧ w.grownBy ((w7.setCell ⟨g + 1, 0, none⟩ (.slice A1 (m - k) c1)).setCell ⟨g + 1, 1, none⟩ (.int .i64 (d : Int))) v.ownBlock ∧ Below B w ((w7.setCell ⟨g + 1, 0, none⟩ (.slice A1 (m - k) c1)).setCell ⟨g + 1, 1, none⟩ (.int .i64 (d : Int))) ∧ ∀ a, A' = some a → a.block = ad.block := by
      intro v7 w7 A1 c1 m7 hb7 hg7 hcut hA1
      have hsz7 := hg7.size
      have e1 : W.drew.heap.size = W.heap.size := rfl
      have hob7 : w7.heap[g + 1]? = some (.cells #[.slice none 0 0, .int .i64 0] 148 (0, 0)) := by
        rw [hg7.block (g + 1) (by rw [e1]; omega) (fun e => hng1 e.symm)]
        exact hob
      have hfar := m7.apart hob7 (by decide)
      have hle := m7.le
      have hst : Below (g + 1) w7 ((w7.setCell ⟨g + 1, 0, none⟩ (.slice A1 (m - k) c1)).setCell ⟨g + 1, 1, none⟩ (.int .i64 (d : Int))) := below_set2 (Below.refl _ _) (Nat.le_refl _) _ _
      have hgo : W.grownBy w7 v.ownBlock := ⟨hg7.os, hg7.tape, hg7.output, hg7.size, hg7.block⟩
      have hwW : w.grownBy W v.ownBlock := grown_of (by rw [hg]; exact hW) _
      refine ⟨A1, c1, (hg5.drew.grown hg7 hng1).all2 _ _, (m7.setFar hfar (by omega) 0 _).setFar hfar (by omega) 1 _, ?_, ?_, ?_, hA1⟩
      · have h3 := hcut w7 (hrW.drew.farG hg7 hne)
        refine (h3.below (hst.mono (Nat.le_succ _))).more ?_
        simp
        omega
      · refine ⟨hst.os.trans (hgo.os.trans hwW.os), hst.tape.trans (hgo.tape.trans hwW.tape), hst.output.trans (hgo.output.trans hwW.output), by have := hst.size; have := hgo.size; have := hwW.size; omega, fun j hj hne' => ?_⟩
        rw [hst.block j (by omega), hgo.block j (by omega) hne', hwW.block j hj hne']
      · exact (hW.mono hB).trans ((undrew hb7).trans (hst.mono (by omega)))
    rcases (by omega : k < c ∨ c = k) with hkc | hkc
    · have hck : (c = k) = False := by simp; omega
      go_region_held3 (fun w' => (w'.cell? ⟨g, 0, none⟩ = some (.slice (some ad) m c) ∧ w'.cell? ⟨g, 1, none⟩ = some (.int .i64 (M : Int))))
        (with_reducible first | exact q0 | exact cells_oth2 (Nat.ne_of_lt (Nat.lt_succ_self g)) q0 _ _) (first
        | (refine step_appM (by rfl) (.tmp 10) (.tmp 14) (by rfl) (by rfl) (by rfl) hmD hsz hrD hbl' ?_; intro v7 w7 m7 hb7 hg7; replace q0 := (hg3.drew.grown hg7 hng).get2; have y5 := hg5.drew.grown hg7 hng1; obtain ⟨z0, z1⟩ := y5.get2; obtain ⟨zf0, zf1⟩ := y5.free2))
      all_goals
        go_wp2_with fail
        go_meet
        exact ⟨rfl, hend _ _ _ _ m7 hb7 hg7 (fun X hX => hX.tail hkm) (fun a ha => by injection ha with ha; rw [← ha]; exact add_block ad k)⟩
    · have hkc' : k = c := hkc.symm
      clear hkc
      subst hkc'
      have e0 : m - k = 0 := by omega
      rw [e0] at hend
      go_region_held3 (fun w' => (w'.cell? ⟨g, 0, none⟩ = some (.slice (some ad) m k) ∧ w'.cell? ⟨g, 1, none⟩ = some (.int .i64 (M : Int))))
        (with_reducible first | exact q0 | exact cells_oth2 (Nat.ne_of_lt (Nat.lt_succ_self g)) q0 _ _) (first
        | (refine step_appM (by rfl) (.tmp 10) (.tmp 14) (by rfl) (by rfl) (by rfl) hmD hsz hrD hbl' ?_; intro v7 w7 m7 hb7 hg7; replace q0 := (hg3.drew.grown hg7 hng).get2; have y5 := hg5.drew.grown hg7 hng1; obtain ⟨z0, z1⟩ := y5.get2; obtain ⟨zf0, zf1⟩ := y5.free2))
      all_goals
        go_wp2_with fail
        go_meet
        rw [e0]
        exact ⟨rfl, hend _ _ _ _ m7 hb7 hg7 (fun X hX => by have := hX.tailEnd hkm; rwa [e0] at this) (fun a ha => by injection ha with ha; rw [← ha])⟩
  case rest =>
    obtain ⟨rfl, A', c', b5, m5, r5, hg5', hb5, hA5⟩ := hcut
    obtain ⟨z0, z1⟩ := b5.get2
    go_wp2_with fail
    rw [HPL.out, ← hpl] at r5
    refine bodyPost_ret (v := .tuple #[u4, .agg #[.slice A' (m - k) c', .int .i64 (d : Int)]]) (by simp [results, Tryz.results85, go_sem, z0, z1]) rfl ⟨u4, A', c', r.drop (8 * k), ?_, HQ.out.symm, ?_, ?_, hg5', hb5, fun a ha => ⟨ad, rfl, hA5 a ha⟩⟩
    · rw [hpl, HQL.out]
    · rw [HK.out]; exact m5
    · exact r5

end Go.Proofs.YtaebljoacffghaaGreatDoor

/-
  The contract of layer 9's Encode: any samples' bytes, or what is amiss.
-/
namespace Go.Proofs.YtaebljoacffghaaGreatDoor
open Go.RowKit

theorem Rd.sets2 {w : World} {B n c g : Nat} {A : Option Addr} {bs : List Nat} (h : Rd w B A n c bs) (hB : B ≤ w.heap.size) (hne : ∀ a, A = some a → a.block ≠ g) (u0 u1 : Value) : Rd ((w.setCell ⟨g, 0, none⟩ (u0)).setCell ⟨g, 1, none⟩ (u1)) B A n c bs :=
  h.far (grown_then (grown_set w g 0 u0) (grown_set _ g 1 u1)) hB hne
theorem Rd.sets8 {w : World} {B n c g : Nat} {A : Option Addr} {bs : List Nat} (h : Rd w B A n c bs) (hB : B ≤ w.heap.size) (hne : ∀ a, A = some a → a.block ≠ g) (u0 u1 u2 u3 u4 u5 u6 u7 : Value) : Rd ((((((((w.setCell ⟨g, 0, none⟩ (u0)).setCell ⟨g, 1, none⟩ (u1)).setCell ⟨g, 2, none⟩ (u2)).setCell ⟨g, 3, none⟩ (u3)).setCell ⟨g, 4, none⟩ (u4)).setCell ⟨g, 5, none⟩ (u5)).setCell ⟨g, 6, none⟩ (u6)).setCell ⟨g, 7, none⟩ (u7)) B A n c bs :=
  h.far (grown_then (grown_then (grown_then (grown_then (grown_then (grown_then (grown_then (grown_set w g 0 u0) (grown_set _ g 1 u1)) (grown_set _ g 2 u2)) (grown_set _ g 3 u3)) (grown_set _ g 4 u4)) (grown_set _ g 5 u5)) (grown_set _ g 6 u6)) (grown_set _ g 7 u7)) hB hne
theorem Rd.set_ {w : World} {B n c g : Nat} {A : Option Addr} {bs : List Nat} (h : Rd w B A n c bs) (hB : B ≤ w.heap.size) (hne : ∀ a, A = some a → a.block ≠ g) (k : Nat) (u : Value) : Rd (w.setCell ⟨g, k, none⟩ u) B A n c bs :=
  h.far (grown_set w g k u) hB hne

theorem putA_pos {z : Int} {s : KS} {t : Int} {v : Nat} (hs : s.May) (hv : v ≤ 18446744073709551615) (h : (putA z s t v).e = 0) : 1 ≤ (putA z s t v).p.length := by
  unfold putA at h ⊢
  split
  · rename_i h1
    rw [if_pos h1] at h
    simp at h
  · rename_i h1
    rw [if_neg h1] at h
    split
    · rename_i h2
      rw [if_pos h2] at h
      simp at h
    · have := (putK_len (k := z.toNat) (t := t) hs hv).1
      simp only
      omega

/-- what Encode comes to -/
def RetEnc (w : World) (z : Int) (xs : List (Int × Nat)) (e : Ending) (w' : World) : Prop :=
  ∃ er A c, EncE z xs er ∧ e = .returned (.tuple #[.slice A (pack (encP z xs er)).length c, errV er]) ∧ Own w w' (.slice A (pack (encP z xs er)).length c) (pack (encP z xs er))
theorem RetEnc.bad {w w' : World} {z : Int} {xs : List (Int × Nat)} {er : Nat} {e : Ending} (h : EncE z xs er) (h0 : er ≠ 0) (he : e = .returned (.tuple #[.slice none 0 0, errV er])) (hb : Below w.heap.size w w') : RetEnc w z xs e w' := by
  have e1 : encP z xs er = [] := by unfold encP; rw [if_neg h0]
  refine ⟨er, none, 0, h, ?_, ?_⟩
  · rw [e1]; exact he
  · rw [e1]; exact Own.nil_ _ _ hb
/-- behind some samples: whole bytes, the bits that are left, the state -/
def AtE (w : World) (B g7 g8 n : Nat) (z : Int) (xs : List (Int × Nat)) (v i : Value) (wr : World) : Prop :=
  ∃ (j : Nat) (pb : List Nat) (q : List Bool) (A : Option Addr) (m c : Nat), j ≤ n ∧ i = .int .i64 ((j : Nat) : Int) ∧ PreE z xs j ∧ Mid w B wr v pb ∧ BoxL wr g7 [.slice A m c, .int .i64 ((q.length : Nat) : Int)] ∧ BoxL wr g8 [.int .i64 ((stK z.toNat xs j).n : Int), .int .i64 (stK z.toNat xs j).t, .int .i64 (stK z.toNat xs j).d, .int .u64 ((stK z.toNat xs j).v : Int), .int .u64 ((stK z.toNat xs j).e : Int), .int .u64 ((stK z.toNat xs j).x.prev : Int), .int .i64 ((stK z.toNat xs j).x.lead : Int), .int .i64 ((stK z.toNat xs j).x.len : Int)] ∧
    Rd wr wr.heap.size A m c (pack q) ∧ q.length < 8 ∧ flat pb ++ q = cdK z.toNat xs j ∧ ∀ x ∈ pb, x < 256

set_option maxRecDepth 20000 in
set_option maxHeartbeats 1000000 in
theorem encode_none (A : Option Addr) (c : Nat) (z : Int) (w : World) :
    Calls Tryz.prog 64 #[.int .i64 z, .slice A 0 c] w (RetEnc w z []) := by
  go_enter Tryz.func64, Tryz.ntmps64
  go_wp2
  go_ret2
  exact RetEnc.bad (er := 1) (.inl ⟨rfl, rfl⟩) (by omega) rfl (Below.refl _ _)

set_option maxRecDepth 20000 in
set_option maxHeartbeats 20000000 in
theorem encode_some (A : Option Addr) (m c : Nat) (z : Int) (xs : List (Int × Nat)) (w : World) (h1 : RdQ w w.heap.size A m c xs) (hm : m ≤ 5000) (hm1 : 1 ≤ m) (hR : RoomW w) (hT : TzW w) :
    Calls Tryz.prog 64 #[.int .i64 z, .slice A m c] w (RetEnc w z xs) := by
  have HA := Lib.hid h1.all
  have HN : Hid (xs.length = m) := Lib.hid h1.len
  have hm0 : ((m : Int) == 0) = false := by simp; omega
  have hm9 : ¬ 65535 < (m : Int) := by omega
  go_enter Tryz.func64, Tryz.ntmps64
  go_upto_block 0 with fail
  have b7 := (BoxL.new w [.slice none 0 0, .int .i64 0] 148).onA (.cells #[.int .i64 0, .int .i64 0, .int .i64 0, .int .u64 0, .int .u64 0, .int .u64 0, .int .i64 0, .int .i64 0] 151)
  have b8 := BoxL.new (w.alloc (.cells #[.slice none 0 0, .int .i64 0] 148)) [.int .i64 0, .int .i64 0, .int .i64 0, .int .u64 0, .int .u64 0, .int .u64 0, .int .i64 0, .int .i64 0] 151
  simp only [World.size_alloc] at b8
  have hW : Below w.heap.size w ((w.alloc (.cells #[.slice none 0 0, .int .i64 0] 148)).alloc (.cells #[.int .i64 0, .int .i64 0, .int .i64 0, .int .u64 0, .int .u64 0, .int .u64 0, .int .i64 0, .int .i64 0] 151)) := by repeat (first | with_reducible exact Below.refl _ _ | with_reducible assumption | with_reducible refine Below.drew ?_ | with_reducible refine below_drewN ?_ _ | with_reducible refine Below.alloc ?_ (by (first | assumption | omega | (simp; done) | (simp; omega))) _ | with_reducible refine below_set ?_ (by (first | assumption | omega | (simp; done) | (simp; omega))) _ _)
  have hsW : ((w.alloc (.cells #[.slice none 0 0, .int .i64 0] 148)).alloc (.cells #[.int .i64 0, .int .i64 0, .int .i64 0, .int .u64 0, .int .u64 0, .int .u64 0, .int .i64 0, .int .i64 0] 151)).heap.size = w.heap.size + 2 := by simp
  generalize (w.alloc (.cells #[.slice none 0 0, .int .i64 0] 148)).alloc (.cells #[.int .i64 0, .int .i64 0, .int .i64 0, .int .u64 0, .int .u64 0, .int .u64 0, .int .i64 0, .int .i64 0] 151) = W at *
  obtain ⟨g7, hg7⟩ : ∃ g, w.heap.size = g := ⟨_, rfl⟩
  rw [hg7] at b7 b8 hsW
  rw [show w.heap.size = g7 from hg7]
  have HG7 := Lib.hid hg7
  clear hg7 hm0 hm9
  go_wp2_with fail
  go_loopw [6, 25] (fun v i wr => AtE w (g7 + 2) g7 (g7 + 1) m z xs v i wr) (fun _ i _ => m - (intOf i).toNat)
  case atStart =>
    have hb0 : Mid w (g7 + 2) W (.slice none 0 0) [] := ⟨World.ownsRow_nil _ _ _ _, hW, by rw [HG7.out]; omega⟩
    exact ⟨0, [], [], none, 0, 0, Nat.zero_le _, rfl, .zero, hb0, b7, b8, Rd.nil_, by simp, rfl, by simp⟩
  case round =>
    clear b7 b8 hW hsW
    obtain ⟨j, pb, q, A7, m7, c7, hj, rfl, hpre, hmr, x7, x8, hr7, hq8, hfl, hpb⟩ := hrel
    have hcl := cdK_le (k := z.toNat) HA.out j
    have hpl : pb.length ≤ 100000 := by
      have := congrArg List.length hfl
      rw [List.length_append, flat_length] at this
      omega
    by_cases hlt : j < m
    · obtain ⟨ad0, rfl, hbl, hc0, hc1⟩ := (h1.below hmr.bel).at_ hlt
      have hs := stK_may (k := z.toNat) HA.out j
      have hsn : (stK z.toNat xs j).n = j := stK_n j
      obtain ⟨ht, hv⟩ := HA.out j
      obtain ⟨r, HR⟩ : ∃ r, Hid (putA z (stK z.toNat xs j) (xs.getD j (0, 0)).1 (xs.getD j (0, 0)).2 = r) := ⟨_, Lib.hid rfl⟩
      have hsp := hpre.step (by rw [HN.out]; exact hlt) HR.out
      have HS1 := Lib.hid hsp.1
      have HS2 := Lib.hid hsp.2
      clear hsp
      have hbl' : (ad0.add (j * 2)).block < w.heap.size := by rw [add_block]; exact hbl
      have HFL := Lib.hid hfl
      have HPB := Lib.hid hpb
      generalize stK z.toNat xs j = s at *
      generalize (xs.getD j (0, 0)).1 = t at *
      generalize (xs.getD j (0, 0)).2 = v at *
      have hPA : ∀ X, Below wr.heap.size wr X → Calls Tryz.prog 84 #[.int .i64 z, (.agg #[.int .i64 (s.n : Int), .int .i64 s.t, .int .i64 s.d, .int .u64 (s.v : Int), .int .u64 (s.e : Int), .int .u64 (s.x.prev : Int), .int .i64 (s.x.lead : Int), .int .i64 (s.x.len : Int)]), (.agg #[.int .i64 t, .int .u64 (v : Int)])] X (RetPA X r) := fun X hX => by
        rw [← HR.out]; exact put_all z s t v X hs (by omega) hv ((hR.bel hmr.bel).bel hX) ((hT.bel hmr.bel).bel hX)
      have hrl : r.p.length ≤ 146 := by rw [← HR.out]; exact putA_len z hs hv
      have hrp : r.e = 0 → 1 ≤ r.p.length := by rw [← HR.out]; exact putA_pos hs hv
      unfold RetPA at hPA
      obtain ⟨N, HNN⟩ : ∃ N, Hid (r.p.length = N) := ⟨_, Lib.hid rfl⟩
      rw [HNN.out] at hPA hrl hrp
      obtain ⟨L, HL⟩ : ∃ L, Hid (q.length = L) := ⟨_, Lib.hid rfl⟩
      rw [HL.out] at x7 hq8
      have hal : Below wr.heap.size wr (wr.alloc (.cells #[.int .i64 t, .int .u64 (v : Int)] 74)) := by repeat (first | with_reducible exact Below.refl _ _ | with_reducible assumption | with_reducible refine Below.drew ?_ | with_reducible refine below_drewN ?_ _ | with_reducible refine Below.alloc ?_ (by (first | assumption | omega | (simp; done) | (simp; omega))) _ | with_reducible refine below_set ?_ (by (first | assumption | omega | (simp; done) | (simp; omega))) _ _)
      obtain ⟨y0, y1, y2, y3, y4, y5, y6, y7⟩ := (x8.below hal).get8
      have z0 := (hal.cell (p := ad0.add (j * 2)) (by have := hmr.bel.size; omega)).trans hc0
      have z1 := (hal.cell (p := ⟨(ad0.add (j * 2)).block, (ad0.add (j * 2)).off + 1, none⟩) (by have := hmr.bel.size; show (ad0.add (j * 2)).block < _; omega)).trans hc1
      have hwrs := hmr.bel.size
      clear ht hv hs hfl hpb HR hsn hcl hpre
      by_cases he : r.e = 0
      · have hev : errV r.e = .nilIface := by rw [he]; rfl
        rw [hev] at hPA
        clear hev
        go_wp2_with fail
        refine (hPA _ hal).mono ?_
        rintro e w9 ⟨A9, c9, rfl, ho9⟩
        clear hPA y0 y1 y2 y3 y4 y5 y6 y7 z0 z1
        go_upto_region 12 with fail
        have hb9 : Below wr.heap.size wr w9 := hal.trans (ho9.bel.mono hal.size)
        have hr9 := ho9.rd
        have b11 := (BoxL.new w9 [.slice A9 (pack r.p).length c9, .int .i64 (N : Int)] 148).onA (.cells #[.int .i64 (r.s.n : Int), .int .i64 r.s.t, .int .i64 r.s.d, .int .u64 (r.s.v : Int), .int .u64 (r.s.e : Int), .int .u64 (r.s.x.prev : Int), .int .i64 (r.s.x.lead : Int), .int .i64 (r.s.x.len : Int)] 151)
        have b12 := BoxL.new (w9.alloc (.cells #[.slice A9 (pack r.p).length c9, .int .i64 (N : Int)] 148)) [.int .i64 (r.s.n : Int), .int .i64 r.s.t, .int .i64 r.s.d, .int .u64 (r.s.v : Int), .int .u64 (r.s.e : Int), .int .u64 (r.s.x.prev : Int), .int .i64 (r.s.x.lead : Int), .int .i64 (r.s.x.len : Int)] 151
        simp only [World.size_alloc] at b12
        have ha9 : Below w9.heap.size w9 ((w9.alloc (.cells #[.slice A9 (pack r.p).length c9, .int .i64 (N : Int)] 148)).alloc (.cells #[.int .i64 (r.s.n : Int), .int .i64 r.s.t, .int .i64 r.s.d, .int .u64 (r.s.v : Int), .int .u64 (r.s.e : Int), .int .u64 (r.s.x.prev : Int), .int .i64 (r.s.x.lead : Int), .int .i64 (r.s.x.len : Int)] 151)) := by repeat (first | with_reducible exact Below.refl _ _ | with_reducible assumption | with_reducible refine Below.drew ?_ | with_reducible refine below_drewN ?_ _ | with_reducible refine Below.alloc ?_ (by (first | assumption | omega | (simp; done) | (simp; omega))) _ | with_reducible refine below_set ?_ (by (first | assumption | omega | (simp; done) | (simp; omega))) _ _)
        replace hb9 := hb9.trans (ha9.mono hb9.size)
        replace hr9 := (hr9.below ha9).more ha9.size
        have hg12 : wr.heap.size ≤ w9.heap.size := Nat.le_trans hal.size ho9.bel.size
        clear ho9 ha9
        generalize (w9.alloc (.cells #[.slice A9 (pack r.p).length c9, .int .i64 (N : Int)] 148)).alloc (.cells #[.int .i64 (r.s.n : Int), .int .i64 r.s.t, .int .i64 r.s.d, .int .u64 (r.s.v : Int), .int .u64 (r.s.e : Int), .int .u64 (r.s.x.prev : Int), .int .i64 (r.s.x.lead : Int), .int .i64 (r.s.x.len : Int)] 151) = V at *
        generalize w9.heap.size = g11 at *
        obtain ⟨hpre', hst', hcd'⟩ := HS2.out he
        replace hrp := hrp he
        have HPRE := Lib.hid hpre'
        have HST := Lib.hid hst'
        have HCD := Lib.hid hcd'
        clear hpre' hst' hcd' HS1 HS2
        have mV := hmr.on hb9
        have x7V := x7.below hb9
        have x8V := x8.below hb9
        have r7V := (hr7.below hb9).more hb9.size
        have hub : ∀ g, u6.ownBlock = some g → g < wr.heap.size := fun g hg => (hmr.row.lt g hg).2
        have hwV := hb9.size
        have l8 := x8.lt
        clear x7 x8 hr7 hal hb9 hc0 hc1 hbl' hmr
        obtain ⟨rr, HRR⟩ : ∃ rr, Hid (rr = q ++ r.p) := ⟨_, Lib.hid rfl⟩
        obtain ⟨MM, HMM⟩ : ∃ MM, Hid (rr.length = MM) := ⟨_, Lib.hid rfl⟩
        have hM1 : 1 ≤ MM ∧ MM ≤ 200 := by rw [← HMM.out, HRR.out, List.length_append, HL.out, HNN.out]; omega
        have hJ := join_as A7 A9 m7 c7 (pack r.p).length c9 q r.p rr (L : Int) (N : Int) MM V r7V hr9 (by rw [HL.out]) (by rw [HNN.out]) HRR.out HMM.out (by rw [HL.out]; omega) (by rw [HNN.out]; omega)
        obtain ⟨y0, y1⟩ := x7V.get2
        obtain ⟨z0, z1⟩ := b11.get2
        clear r7V hr9
        go_wp2_with fail
        refine hJ.mono ?_
        rintro e w10 ⟨A10, c10, rfl, ho10⟩
        clear hJ y0 y1 z0 z1 b11
        have m10 := mV.on ho10.bel
        have r10 := ho10.rd
        have s10 := ho10.bel.size
        replace x7V := x7V.below ho10.bel
        replace x8V := x8V.below ho10.bel
        replace b12 := b12.below ho10.bel
        have hne10 : ∀ ad, A10 = some ad → u6.ownBlock ≠ some ad.block := by
          rintro ad rfl e
          have h1 := hub _ e
          have h2 := (ho10.row.lt ad.block rfl).1
          omega
        have hCy := carry_any u6 A10 (pack rr).length c10 MM (g7 + 2) pb rr w w10 m10 (by omega) r10 HMM.out (by omega) hne10 (by omega) (by omega)
        clear mV m10 r10
        go_wp2_with fail
        refine hCy.mono ?_
        rintro e w11 ⟨v', A11, c11, q', rfl, hq', m11, r11, hgr, hb11, hA11⟩
        clear hCy
        have n12 : u6.ownBlock ≠ some (g11 + 1) := fun e => by have := hub _ e; omega
        replace x7V := x7V.belowB hb11 (by omega)
        replace x8V := x8V.belowB hb11 (by omega)
        replace b12 := b12.grown hgr n12
        have hfar : ∀ a, A11 = some a → g7 + 1 < a.block := by
          rintro a rfl
          obtain ⟨a0, rfl, ha⟩ := hA11 a rfl
          have h2 := (ho10.row.lt a0.block rfl).1
          omega
        have l12 := b12.lt
        obtain ⟨L', HL'⟩ : ∃ L', Hid (q'.length = L') := ⟨_, Lib.hid rfl⟩
        rw [HL'.out]
        have hL8 : L' < 8 := by rw [← HL'.out, hq', List.length_drop]; omega
        have hcb := carry_bits (bs := pb) (r := rr) (c := cdK z.toNat xs (j + 1)) (by rw [HCD.out, HRR.out, ← List.append_assoc, HFL.out]) (rr.length / 8) rfl
        rw [← hq'] at hcb
        have HCB := Lib.hid hcb.1
        clear hcb hq' hA11 ho10 hgr hub
        obtain ⟨y0, y1⟩ := x7V.get2
        obtain ⟨yf0, yf1⟩ := x7V.free2
        clear hpl hrp hM1 hne10
        go_upto_region 13 with fail
        clear y0 y1 yf0 yf1
        have hle := m11.le
        have m13 := m11.set2 (g := g7) (by rw [HG7.out]; omega) (by omega) (.slice A11 (pack q').length c11) (.int .i64 (L' : Int))
        have x7W := x7V.all2 (.slice A11 (pack q').length c11) (.int .i64 (L' : Int))
        have x8W := x8V.oth2 (d := g7) (by omega) (.slice A11 (pack q').length c11) (.int .i64 (L' : Int))
        have b12W := b12.oth2 (d := g7) (by omega) (.slice A11 (pack q').length c11) (.int .i64 (L' : Int))
        have r13 := r11.sets2 (g := g7) (Nat.le_refl _) (fun a ha => by have := hfar a ha; omega) (.slice A11 (pack q').length c11) (.int .i64 (L' : Int))
        have s13 : ((w11.setCell ⟨g7, 0, none⟩ (.slice A11 (pack q').length c11)).setCell ⟨g7, 1, none⟩ (.int .i64 (L' : Int))).heap.size = w11.heap.size := by simp
        generalize ((w11.setCell ⟨g7, 0, none⟩ (.slice A11 (pack q').length c11)).setCell ⟨g7, 1, none⟩ (.int .i64 (L' : Int))) = W13 at *
        have HS13 := Lib.hid s13
        obtain ⟨z0, z1, z2, z3, z4, z5, z6, z7⟩ := b12W.get8
        obtain ⟨zf0, zf1, zf2, zf3, zf4, zf5, zf6, zf7⟩ := x8W.free8
        obtain ⟨k0, k1, k2, k3, k4, k5, k6, k7⟩ := x8W.get8
        clear s13 x7V x8V b12 r11 m11

        go_wp2_with fail
        clear z0 z1 z2 z3 z4 z5 z6 z7 zf0 zf1 zf2 zf3 zf4 zf5 zf6 zf7 k0 k1 k2 k3 k4 k5 k6 k7
        go_roundw
        case rel =>
          refine ⟨j + 1, pb ++ (pack rr).take (rr.length / 8), q', A11, (pack q').length, c11, by omega, by go_num, HPRE.out, ?_, ?_, ?_, ?_, by rw [HL'.out]; exact hL8, HCB.out, ?_⟩
          · exact m13.set8 (by rw [HG7.out]; omega) (by omega) _ _ _ _ _ _ _ _
          · rw [HL'.out]; exact x7W.oth8 (by omega) _ _ _ _ _ _ _ _
          · rw [HST.out]; exact x8W.all8 _ _ _ _ _ _ _ _
          · have := r13.sets8 (g := g7 + 1) (by rw [HS13.out]; exact Nat.le_refl _) (fun a ha => by have := hfar a ha; omega) (.int .i64 (r.s.n : Int)) (.int .i64 r.s.t) (.int .i64 r.s.d) (.int .u64 (r.s.v : Int)) (.int .u64 (r.s.e : Int)) (.int .u64 (r.s.x.prev : Int)) (.int .i64 (r.s.x.lead : Int)) (.int .i64 (r.s.x.len : Int))
            exact this.more (by simp; rw [HS13.out]; exact Nat.le_refl _)
          · intro x hx
            rcases List.mem_append.1 hx with h | h
            · exact HPB.out x h
            · exact pack_lt rr x (List.mem_of_mem_take h)
        case measure => simp [intOf]; omega
      · have hev : errV r.e = .iface 59 (.int .i64 (r.e : Int)) := by unfold errV; rw [if_neg he]
        rw [hev] at hPA
        go_wp2_with fail
        refine (hPA _ hal).mono ?_
        rintro e w9 ⟨A9, c9, rfl, ho9⟩
        have hb9 := hmr.bel.trans ((hal.trans (ho9.bel.mono hal.size)).mono hwrs)
        have hs9 := hb9.size
        clear hPA y0 y1 y2 y3 y4 y5 y6 y7 z0 z1
        go_wp2
        go_ret2
        exact RetEnc.bad (HS1.out he) he (by rw [hev]; kernel_rfl) (by repeat (first | with_reducible exact Below.refl _ _ | with_reducible assumption | with_reducible refine Below.drew ?_ | with_reducible refine below_drewN ?_ _ | with_reducible refine Below.alloc ?_ (by (first | assumption | omega | (simp; done) | (simp; omega))) _ | with_reducible refine below_set ?_ (by (first | assumption | omega | (simp; done) | (simp; omega))) _ _))
    · obtain rfl : j = m := by omega
      obtain ⟨y0, y1⟩ := x7.get2
      have HE : Hid (pb ++ pack q = pack (encP z xs 0)) := Lib.hid (by rw [pack_behind pb hpb, hfl]; unfold encP; rw [if_pos rfl, HN.out])
      have HD : Hid (EncE z xs 0) := Lib.hid (by
        rw [← HN.out] at hpre
        exact hpre.done (by rw [HN.out]; omega))
      have hql := pack_length q
      have hrl := hr7.len
      have hmo := hmr.own
      clear hfl hpb
      go_wp2_with (at_builtin; (refine wpList_app rfl (.tmp 50) (.tmp 52) rfl rfl rfl hmo hr7 (by omega) ?_; intro v' w' hown3; rw [HE.out] at hown3; obtain ⟨A', c', rfl, _⟩ := hown3.form))
      go_ret2
      exact ⟨0, A', c', HD.out, rfl, hown3⟩

theorem encode_any (A : Option Addr) (m c : Nat) (z : Int) (xs : List (Int × Nat)) (w : World) (h1 : RdQ w w.heap.size A m c xs) (hm : m ≤ 5000) (hR : RoomW w) (hT : TzW w) :
    Calls Tryz.prog 64 #[.int .i64 z, .slice A m c] w (RetEnc w z xs) := by
  by_cases h0 : m = 0
  · subst h0
    obtain rfl : xs = [] := List.eq_nil_of_length_eq_zero h1.len
    exact encode_none A c z w
  · exact encode_some A m c z xs w h1 hm (by omega) hR hT

end Go.Proofs.YtaebljoacffghaaGreatDoor
