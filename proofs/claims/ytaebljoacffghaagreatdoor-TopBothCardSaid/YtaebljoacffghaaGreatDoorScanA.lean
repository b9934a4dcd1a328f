/-
  Texts of this proof, one behind the other: Who3, Scan.
-/
import Derived.Test.YtaebljoacffghaaGreatDoorWhoP
import Derived.Test.YtaebljoacffghaaGreatDoorIdxC
import Derived.Test.YtaebljoacffghaaGreatDoorWhoA
import Derived.Test.YtaebljoacffghaaGreatDoorCurA

/-
  The times of a block's samples rise; what is amiss with it is told by a number up to 9.
-/
namespace Go.Proofs.YtaebljoacffghaaGreatDoor

theorem rises_nil : Rises [] := fun i h => absurd h (by simp)
theorem rises_app {p q : List (Int × Nat)} (hp : Rises p) (hq : Rises q) (h : 1 ≤ p.length → 1 ≤ q.length → (p.getD (p.length - 1) (0, 0)).1 < (q.getD 0 (0, 0)).1) : Rises (p ++ q) := by
  intro i hi
  rw [List.length_append] at hi
  simp only [List.getD_eq_getElem?_getD]
  rcases Nat.lt_trichotomy (i + 1) p.length with h1 | h1 | h1
  · rw [List.getElem?_append_left (by omega), List.getElem?_append_left h1]
    have := hp i h1
    simpa only [List.getD_eq_getElem?_getD] using this
  · rw [List.getElem?_append_left (by omega), List.getElem?_append_right (by omega)]
    have := h (by omega) (by omega)
    simp only [List.getD_eq_getElem?_getD] at this
    rw [show i + 1 - p.length = 0 by omega, show i = p.length - 1 by omega]
    exact this
  · rw [List.getElem?_append_right (by omega), List.getElem?_append_right (by omega)]
    have := hq (i - p.length) (by omega)
    simp only [List.getD_eq_getElem?_getD] at this
    rw [show i + 1 - p.length = i - p.length + 1 by omega]
    exact this
/-- what chunks tell, from the j-th on, behind samples that rise and end where the chunk ahead ends -/
theorem blkF_rises {z : Int} {bs : List Nat} {es : List Ent} (hm : MayTo es es.length) : ∀ (d j a : Nat) (acc : List (Int × Nat)), j + d = es.length → Rises acc → (1 ≤ acc.length → 0 < j ∧ (acc.getD (acc.length - 1) (0, 0)).1 = (es.getD (j - 1) ent0).mx) → Rises (blkF z bs (es.drop j) a acc).1
  | 0, j, a, acc, hj, hr, _ => by rw [blkF_end (by omega)]; exact hr
  | d + 1, j, a, acc, hj, hr, hl => by
    have hlt : j < es.length := by omega
    cases hc : chF z (es.getD j ent0) ((bs.drop a).take (es.getD j ent0).ln.toNat) with
    | error k => rw [blkF_bad hlt hc]; exact hr
    | ok ys =>
      rw [blkF_ok hlt hc]
      obtain ⟨_, g1, _, g2, g3, g4⟩ := chF_good hc
      refine blkF_rises hm d (j + 1) _ _ (by omega) (rises_app hr g2 (fun h1 h2 => ?_)) (fun _ => ⟨by omega, ?_⟩)
      · obtain ⟨h3, h4⟩ := hl h1
        rw [h4, g3]
        exact (hm j hlt).2 h3
      · rw [List.length_append, Nat.add_sub_cancel]
        simp only [List.getD_eq_getElem?_getD] at g4 ⊢
        rw [List.getElem?_append_right (by omega), show acc.length + ys.length - 1 - acc.length = ys.length - 1 by omega]
        exact g4
theorem wholeF_rises {bs : List Nat} (hb : ∀ x ∈ bs, x < 256) : Rises (wholeF bs).1 := by
  unfold wholeF
  cases h : getI bs with
  | error j => exact rises_nil
  | ok p =>
    obtain ⟨k, es, n⟩ := p
    obtain ⟨⟨_, _, hm⟩, _⟩ := getI_ok hb h
    have := blkF_rises (z := (k : Int)) (bs := bs) hm es.length 0 n [] (by omega) rises_nil (fun h => absurd h (by simp))
    exact this

/-- what Decode comes to is told by a number up to 9 -/
theorem wholeF_le {bs : List Nat} : (wholeF bs).2 ≤ 9 := by
  unfold wholeF
  cases h : getI bs with
  | error j => exact (getI_err h).2
  | ok p => exact blkF_le _ _ _

end Go.Proofs.YtaebljoacffghaaGreatDoor

/-
  The contracts of layer 18's New, Next, SeekTo, At and Err: an iterator is a box of a cursor.
-/
namespace Go.Proofs.YtaebljoacffghaaGreatDoor
open Go.RowKit

/-- an iterator, new, over what bytes mean -/
def RetIt (w : World) (r : List (Int × Nat) × Nat) (e : Ending) (w' : World) : Prop :=
  ∃ g A c, e = .returned (.pointer (some ⟨g, 0, none⟩)) ∧ w.heap.size ≤ g ∧ BoxL w' g [.slice A r.1.length c, errV r.2, .int .i64 (-1), .bool false] ∧ RdQ w' g A r.1.length c r.1 ∧ Below w.heap.size w w'
/-- an iterator behind a step: its box alone is written anew -/
def RetSt (w : World) (g : Nat) (A : Option Addr) (n c : Nat) (er : Value) (R : Bool → Int → Prop) (e : Ending) (w' : World) : Prop :=
  ∃ ok a' W, e = .returned (.bool ok) ∧ R ok a' ∧ Below w.heap.size w W ∧ w' = ((((W.setCell ⟨g, 0, none⟩ (.slice A n c)).setCell ⟨g, 1, none⟩ (er)).setCell ⟨g, 2, none⟩ (.int .i64 a')).setCell ⟨g, 3, none⟩ (.bool (!ok)))
section
variable {w W : World} {g B n c : Nat} {A : Option Addr} {xs : List (Int × Nat)} {l : List Value} {v0 v1 v2 v3 u0 u1 u2 u3 : Value}
/-- the box itself, another one, samples that lie elsewhere, all that lies ahead -/
theorem BoxL.step (h : BoxL w g [v0, v1, v2, v3]) (hb : Below w.heap.size w W) : BoxL ((((W.setCell ⟨g, 0, none⟩ (u0)).setCell ⟨g, 1, none⟩ (u1)).setCell ⟨g, 2, none⟩ (u2)).setCell ⟨g, 3, none⟩ (u3)) g [u0, u1, u2, u3] := (h.below hb).all4c u0 u1 u2 u3
theorem BoxL.stepOth {d : Nat} (h : BoxL w d l) (hb : Below w.heap.size w W) (hd : d ≠ g) : BoxL ((((W.setCell ⟨g, 0, none⟩ (u0)).setCell ⟨g, 1, none⟩ (u1)).setCell ⟨g, 2, none⟩ (u2)).setCell ⟨g, 3, none⟩ (u3)) d l := (h.below hb).oth4c hd u0 u1 u2 u3
theorem RdQ.stored {k : Nat} {u : Value} (h : RdQ w B A n c xs) (hne : ∀ ad, A = some ad → ad.block ≠ g) : RdQ (w.setCell ⟨g, k, none⟩ u) B A n c xs :=
  ⟨h.len, h.cap, h.no, fun hn => by
    obtain ⟨ad, e, hb, hc⟩ := h.cell hn
    refine ⟨ad, e, hb, fun j hj => ?_⟩
    have ho : ∀ i : Nat, (w.setCell ⟨g, k, none⟩ u).cell? (ad.add i) = w.cell? (ad.add i) := fun i => World.cell?_setCell_other w ⟨g, k, none⟩ (ad.add i) u (fun e2 => hne ad e (by rw [← add_block ad i, ← e2]))
    rw [ho, ho]
    exact hc j hj, h.fit⟩
theorem RdQ.stepOth (h : RdQ w B A n c xs) (hb : Below w.heap.size w W) (hB : B ≤ w.heap.size) (hne : ∀ ad, A = some ad → ad.block ≠ g) : RdQ ((((W.setCell ⟨g, 0, none⟩ (u0)).setCell ⟨g, 1, none⟩ (u1)).setCell ⟨g, 2, none⟩ (u2)).setCell ⟨g, 3, none⟩ (u3)) B A n c xs :=
  ((((h.below (hb.mono hB)).stored hne).stored hne).stored hne).stored hne
theorem below_step {w0 : World} (h : Below w0.heap.size w0 w) (hb : Below w.heap.size w W) (hg : w0.heap.size ≤ g) : Below w0.heap.size w0 ((((W.setCell ⟨g, 0, none⟩ (u0)).setCell ⟨g, 1, none⟩ (u1)).setCell ⟨g, 2, none⟩ (u2)).setCell ⟨g, 3, none⟩ (u3)) := below_set4c (h.trans (hb.mono h.size)) hg u0 u1 u2 u3
theorem size_step (hb : Below w.heap.size w W) : w.heap.size ≤ (((((W.setCell ⟨g, 0, none⟩ (u0)).setCell ⟨g, 1, none⟩ (u1)).setCell ⟨g, 2, none⟩ (u2)).setCell ⟨g, 3, none⟩ (u3))).heap.size := by
  have := hb.size
  simpa using this
/-- samples of the call's own lie behind what was there ahead of it -/
theorem OwnQ.past {w0 : World} (h : OwnQ w0 w (.slice A n c) xs) : ∀ ad, A = some ad → w0.heap.size ≤ ad.block := by
  intro ad e
  rcases h.row.2 with ⟨h1, _⟩ | ⟨g, cap, cur, h1, h2, _⟩
  · injection h1 with h1
    rw [e] at h1
    cases h1
  · injection h1 with h1
    rw [e] at h1
    injection h1 with h1
    rw [h1]
    exact h2
end

set_option maxRecDepth 20000 in
set_option maxHeartbeats 2000000 in
theorem sc_new (A : Option Addr) (n c B : Nat) (bs : List Nat) (w : World) (h : Rd w B A n c bs) (hB : B ≤ w.heap.size) (hb : ∀ u ∈ bs, u < 256) (hn : n ≤ 140737488355328) (hR : RoomW w) (hT : TzW w) :
    Calls Tryz.prog 15 #[.slice A n c] w (RetIt w (wholeF bs)) := by
  have hwd := wdec_any A n c B bs w h hB hb hn hR hT
  clear h hB hb hR hT
  generalize wholeF bs = r at *
  obtain ⟨xs, er⟩ := r
  obtain ⟨N, HXL⟩ : ∃ N, Hid (xs.length = N) := ⟨_, Lib.hid rfl⟩
  unfold RetIt
  unfold RetWh at hwd
  simp only at hwd ⊢
  rw [HXL.out] at hwd ⊢
  have he := isErr_v er
  generalize errV er = ev at *
  have hst := store_err he
  go_enter Tryz.func15, Tryz.ntmps15
  go_wp2_with fail
  refine hwd.mono ?_
  rintro e w1 ⟨A1, c1, rfl, ho1⟩
  have hb1 := ho1.bel
  have hq1 := ho1.rd
  clear hwd ho1
  go_wp2_with fail
  refine (cur_new A1 N c1 ev w1 he).mono ?_
  rintro e w2 ⟨rfl, hb2⟩
  have hq2 := (hq1.below hb2).more hb2.size
  have hb3 := hb1.trans (hb2.mono hb1.size)
  clear hq1 hb1 hb2
  go_wp2
  go_ret
  exact ⟨_, A1, c1, rfl, hb3.size, BoxL.new_at0 [.slice A1 N c1, ev, .int .i64 (-1), .bool false] 83 rfl, hq2.below (by repeat (first | with_reducible exact Below.refl _ _ | assumption | with_reducible refine Below.drew ?_ | with_reducible refine Below.alloc ?_ (by (first | assumption | omega | (simp; done) | (simp; omega))) _)), hb3.alloc hb3.size _⟩

set_option maxRecDepth 20000 in
set_option maxHeartbeats 2000000 in
theorem sc_next (g : Nat) (A : Option Addr) (n c : Nat) (er : Value) (a : Int) (d : Bool) (w : World) (h : BoxL w g [.slice A n c, er, .int .i64 a, .bool d]) (he : IsErr er) (ha : StandsAt n a) (hn : n ≤ 100000) :
    Calls Tryz.prog 35 #[.pointer (some ⟨g, 0, none⟩)] w (RetSt w g A n c er (NextR n a d)) := by
  have hg := h.lt
  have hN := cur_next A n c er a d w he ha hn
  have hst := store_err he
  obtain ⟨u0, u1, u2, u3⟩ := h.get4c
  clear ha
  go_enter Tryz.func35, Tryz.ntmps35
  go_wp2_with fail
  refine hN.mono ?_
  rintro e w1 ⟨ok, a', rfl, hr, hb⟩
  have x1 := h.below hb
  clear u0 u1 u2 u3 hN
  obtain ⟨v0, v1, v2, v3⟩ := x1.get4c
  obtain ⟨f0, f1, f2, f3⟩ := x1.free4c
  go_wp2
  go_ret
  exact ⟨ok, a', w1, rfl, hr, hb, rfl⟩

set_option maxRecDepth 20000 in
set_option maxHeartbeats 2000000 in
theorem sc_seek (g B : Nat) (A : Option Addr) (n c : Nat) (xs : List (Int × Nat)) (er : Value) (a t : Int) (d : Bool) (w : World) (h : BoxL w g [.slice A n c, er, .int .i64 a, .bool d]) (he : IsErr er) (ha : StandsAt n a) (hn : n ≤ 100000) (hx : RdQ w B A n c xs) (hB : B ≤ w.heap.size) (hri : RiseQ xs) :
    Calls Tryz.prog 29 #[.pointer (some ⟨g, 0, none⟩), .int .i64 t] w (RetSt w g A n c er (SeekR xs t a d)) := by
  have hg := h.lt
  have hN := cur_seek A n c xs er a t d w he ha hn (hx.more hB) hri
  have hst := store_err he
  obtain ⟨u0, u1, u2, u3⟩ := h.get4c
  clear ha hx hri
  go_enter Tryz.func29, Tryz.ntmps29
  go_wp2_with fail
  refine hN.mono ?_
  rintro e w1 ⟨ok, a', rfl, hr, hb⟩
  have x1 := h.below hb
  clear u0 u1 u2 u3 hN
  obtain ⟨v0, v1, v2, v3⟩ := x1.get4c
  obtain ⟨f0, f1, f2, f3⟩ := x1.free4c
  go_wp2
  go_ret
  exact ⟨ok, a', w1, rfl, hr, hb, rfl⟩

set_option maxRecDepth 20000 in
set_option maxHeartbeats 2000000 in
theorem sc_err (g : Nat) (A : Option Addr) (n c : Nat) (er : Value) (a : Int) (d : Bool) (w : World) (h : BoxL w g [.slice A n c, er, .int .i64 a, .bool d]) (he : IsErr er) :
    Calls Tryz.prog 21 #[.pointer (some ⟨g, 0, none⟩)] w fun e w' => e = .returned (bif d then er else .nilIface) ∧ Below w.heap.size w w' := by
  have hN := cur_err A n c er a d w he
  obtain ⟨ev, hev⟩ : ∃ ev, (bif d then er else .nilIface) = ev := ⟨_, rfl⟩
  rw [hev] at hN ⊢
  clear hev
  obtain ⟨u0, u1, u2, u3⟩ := h.get4c
  go_enter Tryz.func21, Tryz.ntmps21
  go_wp2_with fail
  refine hN.mono ?_
  rintro e w1 ⟨rfl, hb⟩
  go_wp2
  go_ret
  exact ⟨rfl, hb⟩

set_option maxRecDepth 20000 in
set_option maxHeartbeats 2000000 in
theorem sc_at (g B : Nat) (A : Option Addr) (n c : Nat) (xs : List (Int × Nat)) (er : Value) (a : Int) (d : Bool) (w : World) (h : BoxL w g [.slice A n c, er, .int .i64 a, .bool d]) (he : IsErr er) (ha : StandsAt n a) (hx : RdQ w B A n c xs) (hB : B ≤ w.heap.size) :
    Calls Tryz.prog 19 #[.pointer (some ⟨g, 0, none⟩)] w fun e w' => e = .returned (.tuple #[.int .i64 (lookQ xs a d).1, .int .u64 ((lookQ xs a d).2 : Int)]) ∧ Below w.heap.size w w' := by
  have hN := cur_look A n c xs er a d w he ha (hx.more hB)
  generalize lookQ xs a d = lk at *
  obtain ⟨t, v⟩ := lk
  simp only at hN ⊢
  obtain ⟨u0, u1, u2, u3⟩ := h.get4c
  clear ha hx
  go_enter Tryz.func19, Tryz.ntmps19
  go_wp2_with fail
  refine hN.mono ?_
  rintro e w1 ⟨rfl, hb⟩
  go_wp2
  refine bodyPost_ret ?_ rfl ⟨rfl, hb⟩
  simp [results, Tryz.results19, go_sem]

end Go.Proofs.YtaebljoacffghaaGreatDoor
