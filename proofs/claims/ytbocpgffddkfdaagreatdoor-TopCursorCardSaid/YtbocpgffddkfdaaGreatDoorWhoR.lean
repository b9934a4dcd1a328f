/-
  Texts of this proof, one behind the other: RowT, WhoRChunk, WhoRef.
-/
import Derived.Test.YtbocpgffddkfdaaGreatDoorEntsA
import Derived.Test.YtbocpgffddkfdaaGreatDoorWords
import Derived.Test.YtbocpgffddkfdaaGreatDoorWhoA
import Derived.Test.YtbocpgffddkfdaaGreatDoorIdxA
import Derived.Test.YtbocpgffddkfdaaGreatDoorRefK
import Derived.Test.YtbocpgffddkfdaaGreatDoorIdxR
import Derived.Test.YtbocpgffddkfdaaGreatDoorIdxC
import Derived.Deep.RegionHeld3
import Derived.Deep.CutBlock
import Derived.Deep.DeepCutAuto

namespace Go.Proofs.YtbocpgffddkfdaaGreatDoor
open Go.RowKit

section
variable {t t' : TypeId} {base size n : Nat} {w w' : World} {v : Value} {vals : List Value}
theorem KeepT.of_row (h : w.ownsRow base t size v n vals) (hg : w.grownBy w' v.ownBlock) : KeepT t w w' := by
  refine ⟨hg.size, fun g hlt hn => hg.block g hlt (fun e => ?_)⟩
  rcases h.2 with ⟨rfl, _⟩ | ⟨g', cap, cur, rfl, _, hh, _⟩
  · cases e
  · have e' : some g' = some g := e.symm
    injection e' with e'
    subst e'
    exact hn _ _ hh
theorem row_keepT (h : w.ownsRow base t' size v n vals) (hk : KeepT t w w') (ht : t' ≠ t) : w'.ownsRow base t' size v n vals := by
  refine ⟨h.1, ?_⟩
  rcases h.2 with h1 | ⟨g, cap, cur, hv, hg, hh, r⟩
  · exact .inl h1
  · exact .inr ⟨g, cap, cur, hv, hg, hk.other hh ht, r⟩
theorem row_below (h : w.ownsRow base t size v n vals) (hb : Below w.heap.size w w') : w'.ownsRow base t size v n vals := by
  refine ⟨h.1, ?_⟩
  rcases h.2 with h1 | ⟨g, cap, cur, hv, hg, hh, r⟩
  · exact .inl h1
  · refine .inr ⟨g, cap, cur, hv, hg, ?_, r⟩
    rw [hb.block g (by
      rcases Nat.lt_or_ge g w.heap.size with hlt | hge
      · exact hlt
      · rw [Array.getElem?_eq_none hge] at hh; cases hh)]
    exact hh
theorem row_base {base' : Nat} (h : w.ownsRow base t size v n vals) (hb : base' ≤ base) : w.ownsRow base' t size v n vals := by
  refine ⟨h.1, ?_⟩
  rcases h.2 with h1 | ⟨g, cap, cur, hv, hg, r⟩
  · exact .inl h1
  · exact .inr ⟨g, cap, cur, hv, Nat.le_trans hb hg, r⟩
end

def ival (n : Nat) : Value := .int .i64 (n : Int)
theorem Tryz.infoZ : (Tryz.prog.info? 3).map (fun i => (i.zero, i.size, i.bytes)) = some (some (.int .i64 0), 1, 8) := by kernel_rfl
def OwnZ (B : Nat) (w : World) (v : Value) (xs : List Nat) : Prop := w.ownsRow B 3 1 v xs.length (xs.map ival)
section
variable {B : Nat} {w w' : World} {v : Value} {xs : List Nat}
theorem OwnZ.nil_ (B : Nat) (w : World) : OwnZ B w (.slice none 0 0) [] := World.ownsRow_nil _ _ _ _
theorem OwnZ.keep (h : OwnZ B w v xs) (hb : Below w.heap.size w w') : OwnZ B w' v xs := row_below h hb
theorem OwnZ.base {B' : Nat} (h : OwnZ B w v xs) (hb : B' ≤ B) : OwnZ B' w v xs := row_base h hb
theorem OwnZ.form (h : OwnZ B w v xs) : ∃ A c, v = .slice A xs.length c := by
  rcases h.2 with ⟨rfl, h0⟩ | ⟨g, cap, cur, rfl, _⟩
  · exact ⟨none, 0, by rw [h0]⟩
  · exact ⟨_, cap, rfl⟩
theorem OwnZ.cells (h : OwnZ B w v xs) {j : Nat} (hj : j < xs.length) : ∃ g c, v = .slice (some ⟨g, 0, none⟩) xs.length c ∧ B ≤ g ∧ g < w.heap.size ∧ xs.length ≤ c ∧ w.cell? ⟨g, j, none⟩ = some (.int .i64 ((xs.getD j 0 : Nat) : Int)) := by
  have h0 : World.ownsRow w B 3 1 v xs.length (xs.map ival) := h
  rcases h0.2 with ⟨_, h1⟩ | ⟨g, cap, cur, hv, hg, hh, hc, _⟩
  · omega
  · subst hv
    refine ⟨g, cap, rfl, hg, (h0.lt g rfl).2, hc, ?_⟩
    have hq := h0.cells (g := g) rfl j (ival (xs.getD j 0)) (by simp [List.getD_eq_getElem?_getD, hj])
    have e : (Addr.add ⟨g, 0, none⟩ j) = ⟨g, j, none⟩ := by
      unfold Addr.add
      split
      · rename_i h2; rw [h2]
      · simp
    rwa [e] at hq
end
set_option maxRecDepth 20000 in
theorem wpList_appZ {ops : Array Oper} {rest : List Oper} {o : Oper} {a : Act} {Q : Exit → Act → World → Prop} (hgd : o.guard = none) (s x : Operand)
    (ho : o.op = .call { callee := .builtin .append, args := #[s, x], argTypes := #[28, 28] })
    {B : Nat} {w : World} {v : Value} {xs : List Nat} {y : Nat} (hs : a.eval s = v) (hx : a.eval x = .slice (some ⟨w.heap.size, 0, none⟩) 1 1) (hown : OwnZ B w v xs) (hB : B ≤ w.heap.size) (hl : xs.length ≤ 1000000)
    (h : ∀ v' w', OwnZ B w' v' (xs ++ [y]) → KeepT 3 w w' → Below B w w' → wpList Tryz.prog ops Q rest (a.put o.dst v') w') : wpList Tryz.prog ops Q (o :: rest) a (w.alloc (.cells #[.int .i64 (y : Int)] 3)) := by
  refine wpList_plain hgd fun K hK => ?_
  obtain ⟨i0, hi, hz0, hz1, hz2⟩ := info_parts Tryz.infoZ
  have hr : World.ownsRow w B 3 1 v xs.length (xs.map ival) := hown
  have hg : ∀ k, v.ownBlock = some k → B ≤ k := fun k hk => (hr.lt k hk).1
  obtain ⟨v', w', hrun, hown', hgrow, _⟩ := run_append_own (P := Tryz.prog) (w.alloc (.cells #[.int .i64 (y : Int)] 3)) B 28 o.type 3 i0 (.int .i64 0) 1 8 Tryz.underlying28 hi hz0 hz1 hz2 rfl (by decide) v xs.length (xs.map ival) (hr.alloc _) ⟨w.heap.size, 0, none⟩ 1 1 [ival y]
    rfl (by
      intro j u hu
      have hj : j = 0 := by
        have := (List.getElem?_eq_some_iff.1 hu).1
        simp at this
        exact this
      subst hj
      simp at hu
      rw [← hu]
      exact cell_one_new w (.int .i64 (y : Int)) _ 0 _ rfl) (by intro u hu; simp at hu; subst hu; rfl) (by unfold maxLen; omega) (by omega) (by simp; omega)
  have hfin : OwnZ B w' v' (xs ++ [y]) := by
    show World.ownsRow w' B _ _ _ _ _
    rw [List.map_append, List.length_append]
    exact hown'
  have hkt : KeepT 3 w w' := (KeepT.alloc_ _ w _).trans (KeepT.of_row (hr.alloc _) hgrow)
  have hba : Below B w (w.alloc (.cells #[.int .i64 (y : Int)] 3)) := (Below.refl _ _).alloc hB _
  unfold Oper.wp execOp
  simp only [ho, resolve, invoke, builtin, Sem.run_bind, Sem.run_pure, Result.andThen_ok, List.map_toArray, List.map_cons, List.map_nil, hs, hx, hrun]
  exact hK _ _ (h v' w' hfin hkt (hba.grown hgrow (Nat.le_trans hB hba.size) hg))
section
variable {w0 w w' : World} {B : Nat} {v : Value} {xs : List (Int × Nat)}
theorem MidQ.keepT {t : TypeId} (h : MidQ w0 B w v xs) (hk : KeepT t w w') (ht : 61 ≠ t) (hb : Below B w w') : MidQ w0 B w' v xs :=
  ⟨row_keepT h.row hk ht, h.bel.trans (hb.mono h.le), h.le, h.fit⟩
theorem MidQ.keeps (h : MidQ w0 B w v xs) (hg : w.grownBy w' v.ownBlock) : KeepT 61 w w' := KeepT.of_row h.row hg
theorem OwnZ.keepT {t : TypeId} {ys : List Nat} (h : OwnZ B w v ys) (hk : KeepT t w w') (ht : 3 ≠ t) : OwnZ B w' v ys := row_keepT h hk ht
end

end Go.Proofs.YtbocpgffddkfdaaGreatDoor

namespace Go.Proofs.YtbocpgffddkfdaaGreatDoor
open Go.RowKit

def RetRCh (w : World) (r : Except Nat (List (Int × Nat))) (e : Ending) (w' : World) : Prop :=
  match r with
  | .ok xs => ∃ A c, e = .returned (.tuple #[.slice A xs.length c, .int .i64 0]) ∧ OwnQ w w' (.slice A xs.length c) xs
  | .error j => e = .returned (.tuple #[.slice none 0 0, .int .i64 (j : Int)]) ∧ Below w.heap.size w w'
theorem RetRCh.bad {w w' : World} {r : Except Nat (List (Int × Nat))} {j : Nat} {e : Ending} (h : r = .error j) (he : e = .returned (.tuple #[.slice none 0 0, .int .i64 (j : Int)])) (hb : Below w.heap.size w w') : RetRCh w r e w' := by
  rw [h]
  exact ⟨he, hb⟩
theorem RetRCh.good {w w' : World} {r : Except Nat (List (Int × Nat))} {xs : List (Int × Nat)} {e : Ending} {A : Option Addr} {n c : Nat} (h : r = .ok xs) (hn : xs.length = n) (he : e = .returned (.tuple #[.slice A n c, .int .i64 0])) (ho : OwnQ w w' (.slice A n c) xs) : RetRCh w r e w' := by
  subst hn
  rw [h]
  exact ⟨A, c, he, ho⟩
set_option maxRecDepth 20000 in
set_option maxHeartbeats 4000000 in
theorem rchunk_any (z m x k l : Int) (A : Option Addr) (n c B : Nat) (bs : List Nat) (w : World) (h : Rd w B A n c bs) (hB : B ≤ w.heap.size) (hb : ∀ u ∈ bs, u < 256) (hn : n ≤ 10000) (hk : -9223372036854775808 ≤ k ∧ k ≤ 9223372036854775807) :
    Calls Tryz.prog 35 #[.int .i64 z, .agg #[.int .i64 m, .int .i64 x, .int .i64 k, .int .i64 l], .slice A n c] w (RetRCh w (chF z ⟨m, x, k, l⟩ bs)) := by
  have HL := Lib.hid h.len
  have HB := Lib.hid hb
  have HBW := Lib.hid hB
  obtain ⟨W, hW⟩ : ∃ W, W = w.alloc (.cells #[.int .i64 m, .int .i64 x, .int .i64 k, .int .i64 l] 75) := ⟨_, rfl⟩
  have hbW : Below w.heap.size w W := by rw [hW]; exact (Below.refl _ _).alloc (Nat.le_refl _) _
  have hbx : BoxL W w.heap.size [.int .i64 m, .int .i64 x, .int .i64 k, .int .i64 l] := by rw [hW]; exact entry_box w m x k l _
  have HH : Hid (∀ w', Below w.heap.size w w' → Rd w' B A n c bs) := Lib.hid (fun w' hb => h.below (hb.mono hB))
  have hcap := h.cap
  have hno := h.no
  replace hW := Lib.hid hW
  obtain ⟨b0, b1, b2, b3⟩ := hbx.get4e
  by_cases hl : (n : Int) = l
  · subst hl
    by_cases h4 : 4 ≤ n
    · have HLN : Hid ((bs.length : Int) = (n : Int) ∧ 4 ≤ bs.length) := Lib.hid ⟨by rw [HL.out], by rw [HL.out]; exact h4⟩
      obtain ⟨q, hq⟩ : ∃ q, n = q + 4 := ⟨n - 4, by omega⟩
      obtain ⟨ad, rfl⟩ : ∃ ad, A = some ad := by
        cases A with
        | none => have := hno rfl; omega
        | some ad => exact ⟨ad, rfl⟩
      have HBC : Hid (bodyC bs = bs.take q) := Lib.hid (by unfold bodyC; rw [HL.out, hq, Nat.add_sub_cancel])
      have HTC : Hid (tailC bs = (bs.drop q).take 4) := Lib.hid (by unfold tailC; rw [HL.out, hq, Nat.add_sub_cancel, List.take_of_length_le (by rw [List.length_drop, HL.out]; omega)])
      have hcutA := fun X hX => (HH.out X hX).cutHead (n := q) (by omega)
      have hnum := fun X hX => rnumber_any _ 4 _ B _ X ((HH.out X hX).cutTo (a := q) (n := 4) (by omega)) (fun u hu => HB.out u (List.mem_of_mem_drop (List.mem_of_mem_take hu))) (by omega)
      have hbl : ∀ u ∈ bodyC bs, u < 256 := fun u hu => HB.out u (by rw [HBC.out] at hu; exact List.mem_of_mem_take hu)
      have hlb : ∀ u ∈ bs.take q, u < 256 := fun u hu => HB.out u (List.mem_of_mem_take hu)
      have hsum := fun X hX => rsum_any (some ad) q c B (bs.take q) X (hcutA X hX) hlb (by omega)
      have hdec := fun X (hX : Below w.heap.size w X) => rslowdec_any (some ad) q c (bs.take q) z k X hk ((hcutA X hX).more (Nat.le_trans hB hX.size)) hlb (by omega)
      rw [← HBC.out] at hsum hdec
      rw [← HTC.out] at hnum
      have hq4 : ¬ ((n : Int) < 4) := by omega
      have hq5 : IntKind.i64.wrap ((n : Int) - 4) = (q : Int) := by rw [show (n : Int) - 4 = (q : Int) by omega]; exact IntWalk.i64_in _ (by omega)
      have hq6 : (q : Int) ≤ (c : Int) := by omega
      have hq7 : (q : Int) ≤ (n : Int) := by omega
      have hq8 : (0 : Int) ≤ (q : Int) := by omega
      have hq9 : ¬ c = q := by omega
      have hq10 : n - q = 4 := by omega
      have hq11 : q ≤ n := by omega
      have HQ := Lib.hid hq
      clear h hB hb hno hcutA hlb hq h4
      obtain ⟨body, tl, HTB⟩ : ∃ body tl, Hid (tailC bs = tl ∧ bodyC bs = body) := ⟨_, _, Lib.hid ⟨rfl, rfl⟩⟩
      rw [HTB.out.2] at hsum hdec hbl
      rw [HTB.out.1] at hnum
      go_enter Tryz.func35, Tryz.ntmps35
      obtain ⟨X, HX⟩ : ∃ X, Hid (X = numB tl) := ⟨_, Lib.hid rfl⟩
      obtain ⟨Y, HY⟩ : ∃ Y, Hid (Y = crcS body) := ⟨_, Lib.hid rfl⟩
      rw [← HX.out] at hnum
      rw [← HY.out] at hsum
      have hY : Y < 4294967296 := by rw [HY.out]; exact crcS_lt hbl
      have hyw : IntKind.u64.wrap (Y : Int) = (Y : Int) := wrap_le Y (by omega)
      have hqn : ∀ k, Calls Tryz.prog 52 #[.slice (some (ad.add q)) 4 (c - q)] (W.drewN k) fun e w' => e = .returned (.int .u64 (X : Int)) ∧ ∃ m, w' = W.drewN m := fun k => (hnum _ (below_drewN hbW k)).mono fun _ _ ⟨he, hw⟩ => ⟨he, k, hw.symm⟩
      have hqs : ∀ k, Calls Tryz.prog 53 #[.slice (some ad) q c] (W.drewN k) fun e w' => e = .returned (.int .u32 (Y : Int)) ∧ ∃ m, w' = W.drewN m := fun k => (hsum _ (below_drewN hbW k)).mono fun _ _ ⟨he, hw⟩ => ⟨he, k, hw.symm⟩
      clear hnum hsum hbl
      by_cases hXY : X = Y
      · have hxy : ((X : Int) != (Y : Int)) = false := by simp; omega
        have HS : Hid (numB tl = crcS body) := Lib.hid (by rw [← HX.out, ← HY.out]; exact hXY)
        replace hXY := Lib.hid hXY
        go_upto_region 4 with fail
        rw [← hW.out]
        go_quiet (first
          | (go_at_call 52; exact hqn _)
          | (go_at_call 53; exact hqs _))
        have hb5 : Below w.heap.size w (W.drewN nq) := below_drewN hbW _
        have bx5 := hbx.drewN nq
        generalize W.drewN nq = w5 at *
        clear b0 b1 b2 b3 hbx hbW hW hq5 hqn hqs
        go_upto_region 6 with fail
        have HSS : Hid (∀ X, Below w5.heap.size w5 X → X.cell? ⟨w.heap.size, 2, none⟩ = some (.int .i64 k)) := Lib.hid (fun X hX => (bx5.below hX).get4e.2.2.1)
        have hsd := HSS.out w5.drew (Below.refl _ _).drew
        have hdec2 : Calls Tryz.prog 55 #[.int .i64 z, .slice (some ad) q c, .int .i64 k] w5.drew fun e w' => ∃ xs er A7 c7, DecA z body k xs er ∧ e = .returned (.tuple #[.slice A7 xs.length c7, .int .i64 (er : Int)]) ∧ OwnQ w5 w' (.slice A7 xs.length c7) xs ∧ Below w5.heap.size w5 w' := (hdec _ hb5.drew).mono (by
          rintro e w' ⟨xs, er, A7, c7, hd, rfl, ho⟩
          exact ⟨xs, er, A7, c7, hd, rfl, ho.weak (Below.refl _ _).drew, undrew ho.bel⟩)
        clear hdec
        go_region_held3 (fun X => X.cell? ⟨w.heap.size, 2, none⟩ = some (.int .i64 k)) (first | exact hsd | exact hsx) (first
          | (go_at_call 55; refine hdec2.mono ?_; rintro e w6 ⟨xs, er, A7, c7, hd, rfl, ho7, hb6⟩; have hsx := HSS.out _ hb6))
        all_goals
          have hb7 := hb5.trans (hb6.mono hb5.size)
          have bx7 := bx5.below hb6
          clear hsx hsd hdec2 HSS hb6
          by_cases he : er = 0
          · subst he
            obtain ⟨_, hl1, hl2⟩ := dec_some hd
            obtain ⟨P, hP⟩ : ∃ P, xs.length = P + 1 := ⟨xs.length - 1, by omega⟩
            have HE : Hid (EndsQ ⟨m, x, k, (n : Int)⟩ xs ↔ (xs.getD 0 (0, 0)).1 = m ∧ (xs.getD P (0, 0)).1 = x) := Lib.hid (by
              unfold EndsQ
              rw [hP, Nat.add_sub_cancel])
            have hr7 := ho7.rd
            have HPL := Lib.hid hP
            rw [hP] at hr7 ho7 ⊢
            obtain ⟨ad7, rfl, c0, c1⟩ := hr7.ends rfl
            have HOK : Hid (EndsQ ⟨m, x, k, (n : Int)⟩ xs → chF z ⟨m, x, k, n⟩ bs = .ok xs) := Lib.hid (fun h => chF_ok HLN.out (by rw [HTB.out.1, HTB.out.2]; exact HS.out) (by rw [HTB.out.2]; exact hd) h)
            have HNO : Hid (¬ EndsQ ⟨m, x, k, (n : Int)⟩ xs → chF z ⟨m, x, k, n⟩ bs = .error 8) := Lib.hid (fun h => chF_end HLN.out (by rw [HTB.out.1, HTB.out.2]; exact HS.out) (by rw [HTB.out.2]; exact hd) h)
            obtain ⟨b0, b1, b2, b3⟩ := bx7.get4e
            have hi0 : 0 < P + 1 := by omega
            have hi1 : (0 : Int) < ((P + 1 : Nat) : Int) := by omega
            have hi2 : P < P + 1 := by omega
            have hi3 : (P : Int) < ((P + 1 : Nat) : Int) := by omega
            have hi4 : (0 : Int) ≤ (P : Int) := by omega
            have hsub : IntKind.i64.wrap (((P + 1 : Nat) : Int) - 1) = (P : Int) := by rw [show ((P + 1 : Nat) : Int) - 1 = (P : Int) by omega]; exact IntWalk.i64_in _ (by omega)
            generalize (xs.getD 0 (0, 0)).1 = t0 at *
            generalize (xs.getD P (0, 0)).1 = t1 at *
            replace hd := Lib.hid hd
            obtain ⟨M, hM⟩ : ∃ M, P + 1 = M := ⟨_, rfl⟩
            rw [hM] at hr7 ho7 HPL hi0 hi1 hi2 hi3 hsub ⊢
            clear hM hr7 bx5 bx7 hP hl1 hl2
            have hfin : ∀ j : Nat, Below w.heap.size w (w6.drewN j) ∧ OwnQ w (w6.drewN j) (.slice (some ad7) M c7) xs := fun j => ⟨below_drewN hb7 j, (ho7.weak hb5).keep (below_drewN (Below.refl _ _) j)⟩
            have HF := Lib.hid hfin
            clear hfin hb5 ho7
            by_cases h0 : t0 = m
            · have hx0 : (t0 != m) = false := by simpa using h0
              by_cases h1 : t1 = x
              · have hx1 : (t1 != x) = false := by simpa using h1
                replace HOK := Lib.hid (HOK.out (HE.out.2 ⟨h0, h1⟩))
                clear h0 h1
                go_upto_region 9 with fail
                go_quiet (fail)
                go_wp2_with fail
                go_ret2
                exact RetRCh.good HOK.out HPL.out rfl (HF.out _).2
              · have hx1 : (t1 != x) = true := by simpa using h1
                replace HNO := Lib.hid (HNO.out (fun h => h1 (HE.out.1 h).2))
                clear h0 h1
                go_upto_region 9 with fail
                go_quiet (fail)
                go_wp2_with fail
                go_ret2
                exact RetRCh.bad HNO.out rfl (HF.out _).1
            · have hx0 : (t0 != m) = true := by simpa using h0
              replace HNO := Lib.hid (HNO.out (fun h => h0 (HE.out.1 h).1))
              clear h0
              go_upto_region 9 with fail
              go_quiet (fail)
              go_wp2_with fail
              go_ret2
              exact RetRCh.bad HNO.out rfl (HF.out _).1
          · have HC := Lib.hid (chF_dec (bs := bs) (e := ⟨m, x, k, (n : Int)⟩) HLN.out (by rw [HTB.out.1, HTB.out.2]; exact HS.out) (by rw [HTB.out.2]; exact hd) he)
            have HN := Lib.hid he
            have hne : ((er : Int) != 0) = true := by simp; omega
            clear hd he
            go_wp2_with fail
            go_ret2
            exact RetRCh.bad HC.out rfl hb7
      · have hxy : ((X : Int) != (Y : Int)) = true := by simp; omega
        have HC : Hid (chF z ⟨m, x, k, n⟩ bs = .error 7) := Lib.hid (chF_sum HLN.out (by rw [HTB.out.1, HTB.out.2, ← HX.out, ← HY.out]; exact hXY))
        replace hXY := Lib.hid hXY
        go_upto_region 4 with fail
        rw [← hW.out]
        go_quiet (first
          | (go_at_call 52; exact hqn _)
          | (go_at_call 53; exact hqs _))
        all_goals
          go_wp2_with fail
          go_ret2
          exact RetRCh.bad HC.out rfl (below_drewN hbW _)
    · have HC : Hid (chF z ⟨m, x, k, n⟩ bs = .error 1) := Lib.hid (chF_arg (fun h => h4 (by have := h.2; rw [HL.out] at this; exact this)))
      have h4' : (n : Int) < 4 := by omega
      clear h hB hb
      go_enter Tryz.func35, Tryz.ntmps35
      go_wp2_with fail
      rw [← hW.out]
      go_ret2
      exact RetRCh.bad HC.out rfl hbW
  · have HC : Hid (chF z ⟨m, x, k, l⟩ bs = .error 1) := Lib.hid (chF_arg (fun h => hl (by have := h.1; rw [HL.out] at this; exact this)))
    have hne : ((n : Int) == l) = false := by simpa using hl
    clear h hB hb
    go_enter Tryz.func35, Tryz.ntmps35
    go_wp2_with fail
    rw [← hW.out]
    go_ret2
    exact RetRCh.bad HC.out rfl hbW
end Go.Proofs.YtbocpgffddkfdaaGreatDoor

namespace Go.Proofs.YtbocpgffddkfdaaGreatDoor
open Go.RowKit

def RetRWh (w : World) (r : List (Int × Nat) × Nat) (ends : List Nat) (e : Ending) (w' : World) : Prop :=
  ∃ A c A2 c2, e = .returned (.tuple #[.slice A r.1.length c, .int .i64 (r.2 : Int), .slice A2 ends.length c2]) ∧ OwnQ w w' (.slice A r.1.length c) r.1 ∧ OwnZ w.heap.size w' (.slice A2 ends.length c2) ends
theorem RetRWh.mk {w w' : World} {r : List (Int × Nat) × Nat} {ends es2 : List Nat} {xs : List (Int × Nat)} {j : Nat} {e : Ending} {A A2 : Option Addr} {c c2 : Nat} (h : r = (xs, j)) (h2 : ends = es2) (he : e = .returned (.tuple #[.slice A xs.length c, .int .i64 (j : Int), .slice A2 es2.length c2])) (ho : OwnQ w w' (.slice A xs.length c) xs) (hz : OwnZ w.heap.size w' (.slice A2 es2.length c2) es2) : RetRWh w r ends e w' := by
  subst h h2
  exact ⟨A, c, A2, c2, he, ho, hz⟩
theorem results_tmp3' {fn : Func} {t u v : Tmp} (h : fn.results = #[.tmp t, .tmp u, .tmp v]) (tmps : Array Value) (P : Program) (w : World) :
    (results fn tmps).run P w = .ok (.tuple #[tmps.getD t undef, tmps.getD u undef, tmps.getD v undef]) w := by
  simp [results, h, go_sem]
def AtRWh (w W : World) (k n : Nat) (bs : List Nat) (es : List Ent) (at_ l ev i : Value) (wr : World) : Prop :=
  ∃ (j a : Nat) (acc : List (Int × Nat)) (ends : List Nat), j ≤ es.length ∧ i = .int .i64 (j : Int) ∧ at_ = .int .i64 (a : Int) ∧ a = n + lensN (es.take j) ∧ blkF (k : Int) bs es n [] = blkF (k : Int) bs (es.drop j) a acc ∧
    endF (k : Int) bs es n 0 = ends ++ endF (k : Int) bs (es.drop j) a acc.length ∧ ends.length = j ∧ acc.length ≤ 65535 * j ∧
    MidQ w W.heap.size wr l acc ∧ OwnZ W.heap.size wr ev ends ∧ Below W.heap.size W wr
set_option maxRecDepth 20000 in
set_option maxHeartbeats 4000000 in
theorem rwhole_any (A : Option Addr) (n c B : Nat) (bs : List Nat) (w : World) (h : Rd w B A n c bs) (hB : B ≤ w.heap.size) (hb : ∀ u ∈ bs, u < 256) (hn : n ≤ 10000) :
    Calls Tryz.prog 8 #[.slice A n c] w (RetRWh w (wholeF bs) (wholeN bs)) := by
  have HL := Lib.hid h.len
  have HBB := Lib.hid hb
  have HB := Lib.hid hB
  have hget := rgeti_any A n c B bs w h hB hb (by omega)
  have HH : Hid (∀ w', Below w.heap.size w w' → Rd w' B A n c bs) := Lib.hid (fun w' hb => h.below (hb.mono hB))
  have hcap := h.cap
  clear h hB hb
  go_enter Tryz.func8, Tryz.ntmps8
  go_wp2_with fail
  refine hget.mono ?_
  clear hget
  cases hg : getI bs with
  | error j =>
    have hj := (getI_err hg).1
    have HW : Hid (wholeF bs = ([], j)) := Lib.hid (by unfold wholeF; rw [hg])
    have HN : Hid (wholeN bs = []) := Lib.hid (by unfold wholeN; rw [hg])
    have hj' : ((j : Int) != 0) = true := by simp; omega
    clear hg
    rintro e w1 ⟨rfl, hb1⟩
    go_wp2_with fail
    refine bodyPost_ret (results_tmp3' rfl _ _ _) rfl ?_
    exact RetRWh.mk HW.out HN.out rfl (OwnQ.nil_ _ _ hb1) (OwnZ.nil_ _ _)
  | ok p =>
    obtain ⟨k, es, m⟩ := p
    obtain ⟨hmay, hfit, hmn, hlens⟩ := getI_ok HBB.out hg
    rw [HL.out] at hmn hlens
    have HMAY := Lib.hid hmay
    have HLENS := Lib.hid hlens
    have HFIT := Lib.hid hfit
    have HW : Hid (wholeF bs = blkF (k : Int) bs es m []) := Lib.hid (by unfold wholeF; rw [hg])
    have HWN : Hid (wholeN bs = endF (k : Int) bs es m 0) := Lib.hid (by unfold wholeN; rw [hg])
    have hmany : es.length ≤ 2500 := by
      have := lens_four hmay es.length (Nat.le_refl _)
      rw [List.take_length] at this
      omega
    clear hg hmay hfit hlens
    rintro e W ⟨Ae, ce, rfl, ho1⟩
    obtain ⟨N, HN⟩ : ∃ N, Hid (es.length = N) := ⟨_, Lib.hid rfl⟩
    rw [HN.out] at ho1 hmany ⊢
    have HRE : Hid (RdE W W.heap.size Ae N ce es) := Lib.hid ho1.rd
    have HBW : Hid (Below w.heap.size w W) := Lib.hid ho1.bel
    clear ho1
    go_upto_block 0 with fail
    have HBK := Lib.hid (hcap)
    go_wp2_with fail
    go_loopw [7, 9, 10, 11] (fun a l ev i wr => AtRWh w W k m bs es a l ev i wr) (fun _ _ _ i _ => N - (intOf i).toNat)
    case atStart =>
      exact ⟨0, m, [], [], Nat.zero_le _, rfl, rfl, by simp [lensN], by rw [List.drop_zero], by rw [List.drop_zero]; rfl, rfl, by simp, MidQ.nil_ HBW.out HBW.out.size, OwnZ.nil_ _ _, Below.refl _ _⟩
    case round =>
      obtain ⟨j, a, acc, ends, hj, rfl, rfl, ha, hblk, hend, hel, hacc, hmq, hoz, hbw⟩ := hrel
      have HBLK := Lib.hid hblk
      have HEND := Lib.hid hend
      have HEL := Lib.hid hel
      have HA := Lib.hid ha
      clear hblk ha hend hel
      have hbwr := HBW.out.trans (hbw.mono HBW.out.size)
      rw [HN.out] at hj
      by_cases hlt : j < N
      · have hjl : j < es.length := by rw [HN.out]; exact hlt
        obtain ⟨ad, rfl, _, hce⟩ := (HRE.out.below hbw).at_ hlt
        have hfe := HFIT.out _ (by rw [List.getD_eq_getElem?_getD, List.getElem?_eq_getElem hjl]; exact List.getElem_mem hjl : es.getD j ent0 ∈ es)
        have hme := may_at HMAY.out hjl
        have hsl := lensN_take hjl
        have hle := lensN_le es (j + 1)
        have HBAD := Lib.hid (fun (acc : List (Int × Nat)) (i : Nat) h => And.intro (blkF_bad (z := (k : Int)) (bs := bs) (a := a) (acc := acc) (k := i) hjl h) (endF_bad (z := (k : Int)) (bs := bs) (a := a) (m := acc.length) (k := i) hjl h))
        have HOKK := Lib.hid (fun (acc ys : List (Int × Nat)) h => And.intro (blkF_ok (z := (k : Int)) (bs := bs) (a := a) (acc := acc) (ys := ys) hjl h) (endF_ok (z := (k : Int)) (bs := bs) (a := a) (m := acc.length) (ys := ys) hjl h))
        have HSUC : Hid (lensN (es.take (j + 1)) = lensN (es.take j) + (es.getD j ent0).ln.toNat) := Lib.hid hsl
        have HCE := Lib.hid (fun X (hX : Below W.heap.size W X) => show CellsE X (ad.add (j * 4)) (es.getD j ent0) from by
          obtain ⟨ad', e', _, hc⟩ := (HRE.out.below hX).at_ hlt
          injection e' with e'
          subst e'
          exact hc)
        generalize es.getD j ent0 = en at *
        obtain ⟨em, ex, ec, el⟩ := en
        obtain ⟨ll, rfl⟩ : ∃ ll : Nat, el = (ll : Int) := ⟨el.toNat, by have := hme.2.1; simp only at this; omega⟩
        simp only [Int.toNat_natCast] at hsl HBAD HOKK HSUC
        have hll : 4 ≤ ll ∧ ll ≤ 2147483647 := by have := hme.2.1; simp only at this; omega
        have hec : -9223372036854775808 ≤ ec ∧ ec ≤ 9223372036854775807 := hfe.2.2.1
        have hal : a + ll ≤ n := by
          have h1 := HA.out
          have h2 := HLENS.out
          omega
        clear hme hfe hsl hle hce
        have hcut := fun X (hX : Below w.heap.size w X) => (HH.out X hX).cutTo (a := a) (n := ll) hal
        have hch := fun X (hX : Below w.heap.size w X) => rchunk_any (k : Int) em ex ec ll _ ll _ B _ X (hcut X hX) (Nat.le_trans HB.out hX.size) (fun u hu => HBB.out u (List.mem_of_mem_drop (List.mem_of_mem_take hu))) (by omega) hec
        clear hcut
        go_upto_region 9 with fail
        obtain ⟨s, hs⟩ : ∃ s, s = a + ll := ⟨_, rfl⟩
        have hsw : IntKind.i64.wrap ((a : Int) + (ll : Int)) = (s : Int) := by rw [show (a : Int) + (ll : Int) = (s : Int) by omega]; exact IntWalk.i64_in _ (by omega)
        have HSN : Hid (s ≤ 10000) := Lib.hid (by omega)
        have hs1 : s - a = ll := by omega
        have hs2 : (a : Int) ≤ (s : Int) := by omega
        have hs3 : (s : Int) ≤ (c : Int) := by omega
        have hs4 : ¬ c = a := by omega
        have hs5 : (0 : Int) ≤ (a : Int) := by omega
        have hj0 : (0 : Int) ≤ (j : Int) := by omega
        have hj1 : (j : Int) < (N : Int) := by omega
        have HSE := Lib.hid hs
        rw [← hs] at HOKK
        have HSS : Hid (∀ X, Below wr.heap.size wr X → X.cell? (ad.add (j * 4)) = some (.int .i64 em) ∧ X.cell? ⟨(ad.add (j * 4)).block, (ad.add (j * 4)).off + 1, none⟩ = some (.int .i64 ex) ∧ X.cell? ⟨(ad.add (j * 4)).block, (ad.add (j * 4)).off + 2, none⟩ = some (.int .i64 ec) ∧ X.cell? ⟨(ad.add (j * 4)).block, (ad.add (j * 4)).off + 3, none⟩ = some (.int .i64 (ll : Int))) := Lib.hid (fun X hX => by
          obtain ⟨q0, q1, q2, q3⟩ := HCE.out X (hbw.trans (hX.mono hbw.size))
          exact ⟨q0, q1, q2, q3⟩)
        have hsd := HSS.out wr.drew (Below.refl _ _).drew
        have hch2 := hch wr.drew hbwr.drew
        clear hs hch hbwr hal
        cases hc : chF (k : Int) ⟨em, ex, ec, (ll : Int)⟩ ((bs.drop a).take ll) with
        | error i =>
          have hi := (chF_err hc).1
          obtain ⟨hbad1, hbad2⟩ := HBAD.out acc i hc
          have HRET : Hid (wholeF bs = (acc, i)) := Lib.hid (by rw [HW.out, HBLK.out]; exact hbad1)
          have HREN : Hid (wholeN bs = ends) := Lib.hid (by rw [HWN.out, HEND.out, hbad2, List.append_nil])
          have hi' : ((i : Int) != 0) = true := by simp; omega
          rw [hc] at hch2
          replace hch2 : Calls Tryz.prog 35 #[.int .i64 (k : Int), .agg #[.int .i64 em, .int .i64 ex, .int .i64 ec, .int .i64 (ll : Int)], .slice (A.map (fun x => x.add a)) ll (c - a)] wr.drew fun e w' => e = .returned (.tuple #[.slice none 0 0, .int .i64 (i : Int)]) ∧ Below wr.heap.size wr w' := hch2.mono (by
            rintro e w' ⟨rfl, hb⟩
            exact ⟨rfl, undrew hb⟩)
          clear hc hbad1 hbad2
          go_region_held3 (fun X => X.cell? (ad.add (j * 4)) = some (.int .i64 em) ∧ X.cell? ⟨(ad.add (j * 4)).block, (ad.add (j * 4)).off + 1, none⟩ = some (.int .i64 ex) ∧ X.cell? ⟨(ad.add (j * 4)).block, (ad.add (j * 4)).off + 2, none⟩ = some (.int .i64 ec) ∧ X.cell? ⟨(ad.add (j * 4)).block, (ad.add (j * 4)).off + 3, none⟩ = some (.int .i64 (ll : Int))) (first | exact hsd | exact hsx) (first
            | (go_at_call 35; refine hch2.mono ?_; rintro e w5 ⟨rfl, hb5⟩; have hsx := HSS.out _ hb5))
          all_goals
            have hown := (hmq.on hb5).own
            have hoz5 := (hoz.keep hb5).base HBW.out.size
            obtain ⟨A7, c7, rfl, _⟩ := hown.form
            obtain ⟨A8, c8, rfl⟩ := hoz5.form
            go_wp2_with fail
            refine bodyPost_ret (results_tmp3' rfl _ _ _) rfl ?_
            exact RetRWh.mk HRET.out HREN.out rfl hown hoz5
        | ok ys =>
          obtain ⟨hok1, hok2⟩ := HOKK.out acc ys hc
          have HNX := Lib.hid hok1
          have HNE := Lib.hid hok2
          have hyl := (chF_good hc).2.2.1
          rw [hc] at hch2
          obtain ⟨M, HM⟩ : ∃ M, Hid (ys.length = M) := ⟨_, Lib.hid rfl⟩
          replace hch2 : Calls Tryz.prog 35 #[.int .i64 (k : Int), .agg #[.int .i64 em, .int .i64 ex, .int .i64 ec, .int .i64 (ll : Int)], .slice (A.map (fun x => x.add a)) ll (c - a)] wr.drew fun e w' => ∃ A8 c8, e = .returned (.tuple #[.slice A8 M c8, .int .i64 0]) ∧ RdQ w' w'.heap.size A8 M c8 ys ∧ Below wr.heap.size wr w' := hch2.mono (by
            rintro e w' ⟨A8, c8, rfl, ho⟩
            rw [HM.out] at ho ⊢
            exact ⟨A8, c8, rfl, ho.rd, undrew ho.bel⟩)
          rw [HM.out] at hyl
          clear hc hok1 hok2
          go_region_held3 (fun X => X.cell? (ad.add (j * 4)) = some (.int .i64 em) ∧ X.cell? ⟨(ad.add (j * 4)).block, (ad.add (j * 4)).off + 1, none⟩ = some (.int .i64 ex) ∧ X.cell? ⟨(ad.add (j * 4)).block, (ad.add (j * 4)).off + 2, none⟩ = some (.int .i64 ec) ∧ X.cell? ⟨(ad.add (j * 4)).block, (ad.add (j * 4)).off + 3, none⟩ = some (.int .i64 (ll : Int))) (first | exact hsd | exact hsx) (first
            | (go_at_call 35; refine hch2.mono ?_; rintro e w5 ⟨A8, c8, rfl, hr8, hb5⟩; have hsx := HSS.out _ hb5))
          all_goals
            have hm5 := hmq.on hb5
            have hoz5 := hoz.keep hb5
            have hbW5 := hbw.trans (hb5.mono hbw.size)
            have hbig : acc.length + M ≤ 8796093022208 := by omega
            have HBIG := Lib.hid hacc
            have HYL := Lib.hid hyl
            obtain ⟨qs, HQS⟩ : ∃ qs, Hid (acc ++ ys = qs) := ⟨_, Lib.hid rfl⟩
            obtain ⟨L, HLQ⟩ : ∃ L, Hid (qs.length = L) := ⟨_, Lib.hid rfl⟩
            have HLL : Hid (L = acc.length + M) := Lib.hid (by rw [← HLQ.out, ← HQS.out, List.length_append, HM.out])
            have hell : ends.length ≤ 1000000 := by have := HEL.out; omega
            replace hell := Lib.hid hell
            clear hmq hoz hb5 hsx hsd hch2 HSS hacc hbw
            go_upto_region 13 with (at_builtin; (refine wpList_appMQ rfl (.tmp 54) (.tmp 55) rfl rfl rfl hm5 hbW5.size hr8 hbig ?_; intro v6 w6 hm6 hb6 hg6))
            have hoz6 := hoz5.keepT (hm5.keeps hg6) (by decide)
            have hbW6 := hbW5.trans hb6
            rw [HQS.out] at hm6
            obtain ⟨A6, c6, rfl, _⟩ := hm6.own.form
            rw [HLQ.out] at hm6 ⊢
            clear hm5 hoz5 hbW5 hr8 hb6 hg6 hbig
            go_upto_region 14 with (at_builtin; (refine wpList_appZ rfl (.tmp 57) (.tmp 60) rfl rfl rfl hoz6 hbW6.size hell.out ?_; intro v7 w7 hoz7 hk7 hb7))
            have hm7 := hm6.keepT hk7 (by decide) hb7
            have hbW7 := hbW6.trans hb7
            obtain ⟨q0, q1, q2, q3⟩ := HCE.out _ hbW7
            clear hm6 hoz6 hbW6 hk7 hb7 hsw
            go_wp2_with fail
            go_roundw
            case rel =>
              refine ⟨j + 1, s, qs, ends ++ [L], by rw [HN.out]; omega, by go_num, congrArg (Value.int .i64) (by have h1 := HSE.out; have h2 := HSN.out; unfold wrap64; omega), ?_, ?_, ?_, ?_, ?_, hm7, hoz7, hbW7⟩
              · rw [HSUC.out, HSE.out, HA.out]; omega
              · rw [HBLK.out, HNX.out, HQS.out]
              · rw [HEND.out, HNE.out, HM.out, ← HLL.out, List.append_assoc, HLQ.out]; rfl
              · rw [List.length_append, HEL.out]; rfl
              · rw [HLQ.out, HLL.out]; have h1 := HBIG.out; have h2 := HYL.out; omega
            case measure => simp [intOf]; omega
      · obtain rfl : j = N := by omega
        have HRET : Hid (wholeF bs = (acc, 0)) := Lib.hid (by rw [HW.out, HBLK.out]; exact blkF_end (by rw [HN.out]; omega))
        have HREN : Hid (wholeN bs = ends) := Lib.hid (by rw [HWN.out, HEND.out, endF_end (by rw [HN.out]; omega), List.append_nil])
        have hown := hmq.own
        have hoz5 := hoz.base HBW.out.size
        obtain ⟨A7, c7, rfl, _⟩ := hown.form
        obtain ⟨A8, c8, rfl⟩ := hoz5.form
        clear hmq hbw hbwr hacc hoz
        go_wp2_with fail
        refine bodyPost_ret (results_tmp3' rfl _ _ _) rfl ?_
        exact RetRWh.mk HRET.out HREN.out rfl hown hoz5
end Go.Proofs.YtbocpgffddkfdaaGreatDoor
