/-
  Texts of this proof, one behind the other: WhoNum, WhoChunk, WhoDec.
-/
import Derived.Test.YtaebljoacffghaaGreatDoorWords
import Derived.Test.YtaebljoacffghaaGreatDoorIdxP
import Derived.Test.YtaebljoacffghaaGreatDoorWhoP
import Derived.Test.YtaebljoacffghaaGreatDoorSlowG
import Derived.Test.YtaebljoacffghaaGreatDoorIdxC
import Derived.Test.YtaebljoacffghaaGreatDoorIdxA
import Derived.Test.YtaebljoacffghaaGreatDoorEntsA
import Derived.Laws.BitsAllLaws
import Derived.IntWalk
import Derived.Deep.DeepCutAuto
import Derived.Deep.QuietTactic
import Derived.BigQuiet
import Derived.Deep.RegionHeld3
import Derived.Deep.CutBlock

/-
  The contract of the program's own number: the number of four bytes, the highest first; it changes nothing.
-/
namespace Go.Proofs.YtaebljoacffghaaGreatDoor
open Go.RowKit

theorem or_four (b0 b1 b2 b3 : Nat) (x0 : b0 < 256) (x1 : b1 < 256) (x2 : b2 < 256) (x3 : b3 < 256) :
    bits .or .u32 (bits .or .u32 (bits .or .u32 ((b0 : Int) * 16777216) ((b1 : Int) * 65536)) ((b2 : Int) * 256)) (b3 : Int) = ((numB [b0, b1, b2, b3] : Nat) : Int) := by
  have n4 : numB [b0, b1, b2, b3] = 256 * (256 * (256 * b0 + b1) + b2) + b3 := by simp [numB]
  have e0 : (b0 : Int) * 16777216 = ((2 ^ 24 * b0 : Nat) : Int) := by omega
  have e1 : (b1 : Int) * 65536 = ((2 ^ 16 * b1 : Nat) : Int) := by omega
  have e2 : (b2 : Int) * 256 = ((2 ^ 8 * b2 : Nat) : Int) := by omega
  have o1 : 2 ^ 24 * b0 ||| 2 ^ 16 * b1 = 2 ^ 16 * (256 * b0 + b1) := by
    rw [← Nat.two_pow_add_eq_or_of_lt (by omega)]
    omega
  have o2 : 2 ^ 16 * (256 * b0 + b1) ||| 2 ^ 8 * b2 = 2 ^ 8 * (256 * (256 * b0 + b1) + b2) := by
    rw [← Nat.two_pow_add_eq_or_of_lt (by omega)]
    omega
  have o3 : 2 ^ 8 * (256 * (256 * b0 + b1) + b2) ||| b3 = 256 * (256 * (256 * b0 + b1) + b2) + b3 := by
    rw [← Nat.two_pow_add_eq_or_of_lt (by omega)]
  rw [e0, e1, e2, u32_or_nat _ _ (by omega) (by omega), o1, u32_or_nat _ _ (by omega) (by omega), o2, u32_or_nat _ _ (by omega) (by omega), o3, n4]
theorem byte4 {bs : List Nat} (hb : ∀ x ∈ bs, x < 256) (k : Nat) : bs.getD k 0 < 256 := by
  rcases Nat.lt_or_ge k bs.length with h | h
  · rw [List.getD_eq_getElem?_getD, List.getElem?_eq_getElem h]
    exact hb _ (List.getElem_mem h)
  · rw [List.getD_eq_getElem?_getD, List.getElem?_eq_none h]
    simp
theorem ret_u32 {a b : Int} (h : a = b) : Ending.returned (.int .u32 a) = .returned (.int .u32 b) := by rw [h]
theorem four_is {bs : List Nat} (h : bs.length = 4) : bs = [bs.getD 0 0, bs.getD 1 0, bs.getD 2 0, bs.getD 3 0] := by
  match bs, h with
  | [_, _, _, _], _ => rfl

set_option maxRecDepth 20000 in
set_option maxHeartbeats 400000 in
theorem wnumber_any (A : Option Addr) (n c B : Nat) (bs : List Nat) (w : World) (h : Rd w B A n c bs) (hb : ∀ x ∈ bs, x < 256) (hn : n = 4) :
    Calls Tryz.prog 73 #[.slice A n c] w fun e w' => e = .returned (.int .u32 ((numB bs : Nat) : Int)) ∧ ∃ m, w' = w.drewN m := by
  subst hn
  have H4 := Lib.hid (four_is h.len)
  obtain ⟨ad, rfl, _, hcell⟩ := h.cell (by omega)
  have c0 : w.cell? ad = some (.int .u8 ((bs.getD 0 0 : Nat) : Int)) := by have := hcell 0 (by omega); rwa [show ad.add 0 = ad by simp [Addr.add]] at this
  have c1 : w.cell? ⟨ad.block, ad.off + 1, none⟩ = some (.int .u8 ((bs.getD 1 0 : Nat) : Int)) := by simpa [Addr.add] using hcell 1 (by omega)
  have c2 : w.cell? ⟨ad.block, ad.off + 2, none⟩ = some (.int .u8 ((bs.getD 2 0 : Nat) : Int)) := by simpa [Addr.add] using hcell 2 (by omega)
  have c3 : w.cell? ⟨ad.block, ad.off + 3, none⟩ = some (.int .u8 ((bs.getD 3 0 : Nat) : Int)) := by simpa [Addr.add] using hcell 3 (by omega)
  have x0 := byte4 hb 0
  have x1 := byte4 hb 1
  have x2 := byte4 hb 2
  have x3 := byte4 hb 3
  clear hcell h hb
  obtain ⟨q, HQ⟩ : ∃ q, Hid (q = bs) := ⟨_, Lib.hid rfl⟩
  rw [show numB bs = numB q by rw [HQ.out]]
  replace H4 : Hid (q = [bs.getD 0 0, bs.getD 1 0, bs.getD 2 0, bs.getD 3 0]) := Lib.hid (HQ.out.trans H4.out)
  clear HQ
  generalize bs.getD 0 0 = b0 at *
  generalize bs.getD 1 0 = b1 at *
  generalize bs.getD 2 0 = b2 at *
  generalize bs.getD 3 0 = b3 at *
  go_enter Tryz.func73, Tryz.ntmps73
  go_wp2
  go_quiet (fail)
  go_wp2
  go_ret
  refine ⟨?_, nq, rfl⟩
  rw [H4.out]
  exact ret_u32 (or_four b0 b1 b2 b3 x0 x1 x2 x3)

end Go.Proofs.YtaebljoacffghaaGreatDoor

/-
  The contract of the program's Chunk: the samples of a chunk, or what is amiss.
-/
namespace Go.Proofs.YtaebljoacffghaaGreatDoor
open Go.RowKit

/-- what Chunk comes to -/
def RetCh (w : World) (r : Except Nat (List (Int × Nat))) (e : Ending) (w' : World) : Prop :=
  match r with
  | .ok xs => ∃ A c, e = .returned (.tuple #[.slice A xs.length c, .nilIface]) ∧ OwnQ w w' (.slice A xs.length c) xs
  | .error j => e = .returned (.tuple #[.slice none 0 0, errV j]) ∧ Below w.heap.size w w'
theorem RetCh.bad {w w' : World} {r : Except Nat (List (Int × Nat))} {j : Nat} {e : Ending} (h : r = .error j) (he : e = .returned (.tuple #[.slice none 0 0, errV j])) (hb : Below w.heap.size w w') : RetCh w r e w' := by
  rw [h]
  exact ⟨he, hb⟩
theorem RetCh.good {w w' : World} {r : Except Nat (List (Int × Nat))} {xs : List (Int × Nat)} {e : Ending} {A : Option Addr} {n c : Nat} (h : r = .ok xs) (hn : xs.length = n) (he : e = .returned (.tuple #[.slice A n c, .nilIface])) (ho : OwnQ w w' (.slice A n c) xs) : RetCh w r e w' := by
  subst hn
  rw [h]
  exact ⟨A, c, he, ho⟩
theorem entry_box (w : World) (m x k l : Int) (t : TypeId) : BoxL (w.alloc (.cells #[.int .i64 m, .int .i64 x, .int .i64 k, .int .i64 l] t)) w.heap.size [.int .i64 m, .int .i64 x, .int .i64 k, .int .i64 l] := BoxL.new w [.int .i64 m, .int .i64 x, .int .i64 k, .int .i64 l] t
theorem BoxL.get4e {w : World} {g : Nat} {a0 a1 a2 a3 : Value} (h : BoxL w g [a0, a1, a2, a3]) : w.cell? ⟨g, 0, none⟩ = some a0 ∧ w.cell? ⟨g, 1, none⟩ = some a1 ∧ w.cell? ⟨g, 2, none⟩ = some a2 ∧ w.cell? ⟨g, 3, none⟩ = some a3 :=
  ⟨h.cell 0 _ rfl, h.cell 1 _ rfl, h.cell 2 _ rfl, h.cell 3 _ rfl⟩
/-- the last sample's cell -/
theorem RdQ.ends {w : World} {B n c : Nat} {A : Option Addr} {xs : List (Int × Nat)} {p : Nat} (h : RdQ w B A n c xs) (hp : n = p + 1) : ∃ ad, A = some ad ∧ w.cell? ad = some (.int .i64 (xs.getD 0 (0, 0)).1) ∧ w.cell? (ad.add (p * 2)) = some (.int .i64 (xs.getD p (0, 0)).1) := by
  obtain ⟨ad, e, _, h0, _⟩ := h.at_ (k := 0) (by omega)
  obtain ⟨ad', e', _, h1, _⟩ := h.at_ (k := p) (by omega)
  rw [e] at e'
  injection e' with e'
  subst e'
  rw [show ad.add (0 * 2) = ad by simp [Addr.add]] at h0
  exact ⟨ad, e, h0, h1⟩

set_option maxRecDepth 20000 in
set_option maxHeartbeats 4000000 in
theorem chunk_any (z m x k l : Int) (A : Option Addr) (n c B : Nat) (bs : List Nat) (w : World) (h : Rd w B A n c bs) (hB : B ≤ w.heap.size) (hb : ∀ u ∈ bs, u < 256) (hn : n ≤ 140737488355328) (hk : -9223372036854775808 ≤ k ∧ k ≤ 9223372036854775807) (hR : RoomW w) (hT : TzW w) :
    Calls Tryz.prog 53 #[.int .i64 z, .agg #[.int .i64 m, .int .i64 x, .int .i64 k, .int .i64 l], .slice A n c] w (RetCh w (chF z ⟨m, x, k, l⟩ bs)) := by
  have HL := Lib.hid h.len
  have HB := Lib.hid hb
  have HBW := Lib.hid hB
  obtain ⟨W, hW⟩ : ∃ W, W = w.alloc (.cells #[.int .i64 m, .int .i64 x, .int .i64 k, .int .i64 l] 103) := ⟨_, rfl⟩
  have hbW : Below w.heap.size w W := by rw [hW]; exact (Below.refl _ _).alloc (Nat.le_refl _) _
  have hbx : BoxL W w.heap.size [.int .i64 m, .int .i64 x, .int .i64 k, .int .i64 l] := by rw [hW]; exact entry_box w m x k l _
  have HH : Hid (∀ w', Below w.heap.size w w' → Rd w' B A n c bs) := Lib.hid (fun w' hb => h.below (hb.mono hB))
  have hcap := h.cap
  have hno := h.no
  replace hW := Lib.hid hW
  obtain ⟨b0, b1, b2, b3⟩ := hbx.get4e
  by_cases hl : (n : Int) = l
  · subst hl
    by_cases h4 : 4 ≤ n
    · have HLN : Hid ((bs.length : Int) = (n : Int) ∧ 4 ≤ bs.length) := Lib.hid ⟨by rw [HL.out], by rw [HL.out]; exact h4⟩
      obtain ⟨q, hq⟩ : ∃ q, n = q + 4 := ⟨n - 4, by omega⟩
      obtain ⟨ad, rfl⟩ : ∃ ad, A = some ad := by
        cases A with
        | none => have := hno rfl; omega
        | some ad => exact ⟨ad, rfl⟩
      have HBC : Hid (bodyC bs = bs.take q) := Lib.hid (by unfold bodyC; rw [HL.out, hq, Nat.add_sub_cancel])
      have HTC : Hid (tailC bs = (bs.drop q).take 4) := Lib.hid (by unfold tailC; rw [HL.out, hq, Nat.add_sub_cancel, List.take_of_length_le (by rw [List.length_drop, HL.out]; omega)])
      have hcutA := fun X hX => (HH.out X hX).cutHead (n := q) (by omega)
      have hnum := fun X hX => wnumber_any _ 4 _ B _ X ((HH.out X hX).cutTo (a := q) (n := 4) (by omega)) (fun u hu => HB.out u (List.mem_of_mem_drop (List.mem_of_mem_take hu))) rfl
      have hlb : ∀ u ∈ bs.take q, u < 256 := fun u hu => HB.out u (List.mem_of_mem_take hu)
      have hsum := fun X hX => sum_any (some ad) q c B (bs.take q) X (hcutA X hX) hlb (by omega)
      have hdec := fun X (hX : Below w.heap.size w X) => slowdec_any (some ad) q c (bs.take q) z k X hk ((hcutA X hX).more (Nat.le_trans hB hX.size)) hlb (by omega) (hR.bel hX) (hT.bel hX)
      rw [← HBC.out] at hsum hdec
      rw [← HTC.out] at hnum
      have hq4 : ¬ ((n : Int) < 4) := by omega
      have hq5 : IntKind.i64.wrap ((n : Int) - 4) = (q : Int) := by rw [show (n : Int) - 4 = (q : Int) by omega]; exact IntWalk.i64_in _ (by omega)
      have hq6 : (q : Int) ≤ (c : Int) := by omega
      have hq7 : (q : Int) ≤ (n : Int) := by omega
      have hq8 : (0 : Int) ≤ (q : Int) := by omega
      have hq9 : ¬ c = q := by omega
      have hq10 : n - q = 4 := by omega
      have hq11 : q ≤ n := by omega
      have HQ := Lib.hid hq
      have HR := Lib.hid hR
      have HT := Lib.hid hT
      clear h hB hb hno hcutA hlb hq h4 hR hT
      obtain ⟨body, tl, HTB⟩ : ∃ body tl, Hid (tailC bs = tl ∧ bodyC bs = body) := ⟨_, _, Lib.hid ⟨rfl, rfl⟩⟩
      rw [HTB.out.2] at hsum hdec
      rw [HTB.out.1] at hnum
      go_enter Tryz.func53, Tryz.ntmps53
      go_upto_region 3 with fail
      rw [← hW.out]
      go_quiet (fail)
      have hb4 : Below w.heap.size w (W.drewN nq) := below_drewN hbW _
      have bx4 := hbx.drewN nq
      generalize W.drewN nq = w4 at *
      clear b0 b1 b2 b3 hbx hbW hW hq5
      obtain ⟨X, HX⟩ : ∃ X, Hid (X = numB tl) := ⟨_, Lib.hid rfl⟩
      obtain ⟨Y, HY⟩ : ∃ Y, Hid (Y = crcS body) := ⟨_, Lib.hid rfl⟩
      rw [← HX.out] at hnum
      rw [← HY.out] at hsum
      go_wp2_with fail
      refine (hnum _ hb4).mono ?_
      rintro e w5 ⟨rfl, nq2, hw5⟩
      have hb5 : Below w.heap.size w w5 := by rw [hw5]; exact below_drewN hb4 _
      have bx5 : BoxL w5 w.heap.size [.int .i64 m, .int .i64 x, .int .i64 k, .int .i64 (n : Int)] := by rw [hw5]; exact bx4.drewN _
      clear hw5 hnum bx4 hb4
      obtain ⟨b0, b1, b2, b3⟩ := bx5.get4e
      by_cases hXY : X = Y
      · have hxy : ((X : Int) == (Y : Int)) = true := by simp; omega
        have HS : Hid (numB tl = crcS body) := Lib.hid (by rw [← HX.out, ← HY.out]; exact hXY)
        replace hXY := Lib.hid hXY
        go_wp2_with fail
        refine (hsum _ hb5).mono ?_
        rintro e w6 ⟨rfl, hw6⟩
        subst hw6
        clear hsum
        go_wp2_with fail
        refine (hdec _ hb5).mono ?_
        rintro e w6 ⟨xs, er, A7, c7, hd, rfl, ho7⟩
        clear hdec b0 b1 b2 b3
        have hb7 := hb5.trans (ho7.bel.mono hb5.size)
        have bx7 := bx5.below ho7.bel
        by_cases he : er = 0
        · subst he
          rw [show errV 0 = .nilIface from rfl]
          obtain ⟨_, hl1, hl2⟩ := dec_some hd
          obtain ⟨P, hP⟩ : ∃ P, xs.length = P + 1 := ⟨xs.length - 1, by omega⟩
          have HE : Hid (EndsQ ⟨m, x, k, (n : Int)⟩ xs ↔ (xs.getD 0 (0, 0)).1 = m ∧ (xs.getD P (0, 0)).1 = x) := Lib.hid (by
            unfold EndsQ
            rw [hP, Nat.add_sub_cancel])
          have hr7 := ho7.rd
          have HPL := Lib.hid hP
          rw [hP] at hr7 ho7 ⊢
          obtain ⟨ad7, rfl, c0, c1⟩ := hr7.ends rfl
          have HOK : Hid (EndsQ ⟨m, x, k, (n : Int)⟩ xs → chF z ⟨m, x, k, n⟩ bs = .ok xs) := Lib.hid (fun h => chF_ok HLN.out (by rw [HTB.out.1, HTB.out.2]; exact HS.out) (by rw [HTB.out.2]; exact hd) h)
          have HNO : Hid (¬ EndsQ ⟨m, x, k, (n : Int)⟩ xs → chF z ⟨m, x, k, n⟩ bs = .error 8) := Lib.hid (fun h => chF_end HLN.out (by rw [HTB.out.1, HTB.out.2]; exact HS.out) (by rw [HTB.out.2]; exact hd) h)
          obtain ⟨b0, b1, b2, b3⟩ := bx7.get4e
          have hi0 : 0 < P + 1 := by omega
          have hi1 : (0 : Int) < ((P + 1 : Nat) : Int) := by omega
          have hi2 : P < P + 1 := by omega
          have hi3 : (P : Int) < ((P + 1 : Nat) : Int) := by omega
          have hi4 : (0 : Int) ≤ (P : Int) := by omega
          have hsub : IntKind.i64.wrap (((P + 1 : Nat) : Int) - 1) = (P : Int) := by rw [show ((P + 1 : Nat) : Int) - 1 = (P : Int) by omega]; exact IntWalk.i64_in _ (by omega)
          generalize (xs.getD 0 (0, 0)).1 = t0 at *
          generalize (xs.getD P (0, 0)).1 = t1 at *
          replace hd := Lib.hid hd
          obtain ⟨M, hM⟩ : ∃ M, P + 1 = M := ⟨_, rfl⟩
          rw [hM] at hr7 ho7 HPL hi0 hi1 hi2 hi3 hsub ⊢
          clear hM hr7 bx5 bx7 hP hl1 hl2
          have hfin : ∀ j : Nat, Below w.heap.size w (w6.drewN j) ∧ OwnQ w (w6.drewN j) (.slice (some ad7) M c7) xs := fun j => ⟨below_drewN hb7 j, (ho7.weak hb5).keep (below_drewN (Below.refl _ _) j)⟩
          have HF := Lib.hid hfin
          clear hfin hb5 ho7
          by_cases h0 : t0 = m
          · have hx0 : (t0 != m) = false := by simpa using h0
            by_cases h1 : t1 = x
            · have hx1 : (t1 != x) = false := by simpa using h1
              replace HOK := Lib.hid (HOK.out (HE.out.2 ⟨h0, h1⟩))
              clear h0 h1
              go_upto_region 9 with fail
              go_quiet (fail)
              go_wp2_with fail
              go_ret2
              exact RetCh.good HOK.out HPL.out rfl (HF.out _).2
            · have hx1 : (t1 != x) = true := by simpa using h1
              replace HNO := Lib.hid (HNO.out (fun h => h1 (HE.out.1 h).2))
              clear h0 h1
              go_upto_region 9 with fail
              go_quiet (fail)
              go_wp2_with fail
              go_ret2
              exact RetCh.bad HNO.out rfl (HF.out _).1
          · have hx0 : (t0 != m) = true := by simpa using h0
            replace HNO := Lib.hid (HNO.out (fun h => h0 (HE.out.1 h).1))
            clear h0
            go_upto_region 9 with fail
            go_quiet (fail)
            go_wp2_with fail
            go_ret2
            exact RetCh.bad HNO.out rfl (HF.out _).1
        · have HC := Lib.hid (chF_dec (bs := bs) (e := ⟨m, x, k, (n : Int)⟩) HLN.out (by rw [HTB.out.1, HTB.out.2]; exact HS.out) (by rw [HTB.out.2]; exact hd) he)
          have HN := Lib.hid he
          rw [errV_no he]
          clear hd he
          go_wp2_with fail
          go_ret2
          exact RetCh.bad HC.out (by rw [errV_no HN.out]; kernel_rfl) hb7
      · have hxy : ((X : Int) == (Y : Int)) = false := by simp; omega
        have HC : Hid (chF z ⟨m, x, k, n⟩ bs = .error 7) := Lib.hid (chF_sum HLN.out (by rw [HTB.out.1, HTB.out.2, ← HX.out, ← HY.out]; exact hXY))
        replace hXY := Lib.hid hXY
        go_wp2_with fail
        refine (hsum _ hb5).mono ?_
        rintro e w6 ⟨rfl, hw6⟩
        subst hw6
        clear hsum
        go_wp2_with fail
        go_ret2
        exact RetCh.bad HC.out rfl hb5
    · have HC : Hid (chF z ⟨m, x, k, n⟩ bs = .error 1) := Lib.hid (chF_arg (fun h => h4 (by have := h.2; rw [HL.out] at this; exact this)))
      have h4' : (n : Int) < 4 := by omega
      clear h hB hb
      go_enter Tryz.func53, Tryz.ntmps53
      go_wp2_with fail
      rw [← hW.out]
      go_ret2
      exact RetCh.bad HC.out rfl hbW
  · have HC : Hid (chF z ⟨m, x, k, l⟩ bs = .error 1) := Lib.hid (chF_arg (fun h => hl (by have := h.1; rw [HL.out] at this; exact this)))
    have hne : ((n : Int) == l) = false := by simpa using hl
    clear h hB hb
    go_enter Tryz.func53, Tryz.ntmps53
    go_wp2_with fail
    rw [← hW.out]
    go_ret2
    exact RetCh.bad HC.out rfl hbW

end Go.Proofs.YtaebljoacffghaaGreatDoor

/-
  The contract of the program's Decode of a block: the samples of all chunks, up to the first that isn't good.
-/
namespace Go.Proofs.YtaebljoacffghaaGreatDoor
open Go.RowKit

/-- what Decode comes to -/
def RetWh (w : World) (r : List (Int × Nat) × Nat) (e : Ending) (w' : World) : Prop :=
  ∃ A c, e = .returned (.tuple #[.slice A r.1.length c, errV r.2]) ∧ OwnQ w w' (.slice A r.1.length c) r.1
theorem RetWh.mk {w w' : World} {r : List (Int × Nat) × Nat} {xs : List (Int × Nat)} {j : Nat} {e : Ending} {A : Option Addr} {c : Nat} (h : r = (xs, j)) (he : e = .returned (.tuple #[.slice A xs.length c, errV j])) (ho : OwnQ w w' (.slice A xs.length c) xs) : RetWh w r e w' := by
  subst h
  exact ⟨A, c, he, ho⟩
theorem head_box2 (w : World) (k : Int) (v : Value) : BoxL (w.alloc (.cells #[.int .i64 k, v] 86)) w.heap.size [.int .i64 k, v] := BoxL.new w [.int .i64 k, v] _

/-- behind j chunks: the place, and the samples -/
def AtWh (w W : World) (k n : Nat) (bs : List Nat) (es : List Ent) (at_ l i : Value) (wr : World) : Prop :=
  ∃ (j a : Nat) (acc : List (Int × Nat)), j ≤ es.length ∧ i = .int .i64 (j : Int) ∧ at_ = .int .i64 (a : Int) ∧ a = n + lensN (es.take j) ∧ blkF (k : Int) bs es n [] = blkF (k : Int) bs (es.drop j) a acc ∧ acc.length ≤ 65535 * j ∧
    MidQ w W.heap.size wr l acc ∧ Below W.heap.size W wr

set_option maxRecDepth 20000 in
set_option maxHeartbeats 4000000 in
theorem wdec_any (A : Option Addr) (n c B : Nat) (bs : List Nat) (w : World) (h : Rd w B A n c bs) (hB : B ≤ w.heap.size) (hb : ∀ u ∈ bs, u < 256) (hn : n ≤ 140737488355328) (hR : RoomW w) (hT : TzW w) :
    Calls Tryz.prog 32 #[.slice A n c] w (RetWh w (wholeF bs)) := by
  have HL := Lib.hid h.len
  have HBB := Lib.hid hb
  have HB := Lib.hid hB
  have hget := iget_any A n c B bs w h hB hb (by omega)
  have HH : Hid (∀ w', Below w.heap.size w w' → Rd w' B A n c bs) := Lib.hid (fun w' hb => h.below (hb.mono hB))
  have hcap := h.cap
  clear h hB hb
  go_enter Tryz.func32, Tryz.ntmps32
  go_wp2_with fail
  refine hget.mono ?_
  clear hget
  cases hg : getI bs with
  | error j =>
    have HJ := Lib.hid (getI_err hg).1
    have HW : Hid (wholeF bs = ([], j)) := Lib.hid (by unfold wholeF; rw [hg])
    clear hg
    rintro e w1 ⟨rfl, hb1⟩
    rw [errV_no HJ.out]
    go_wp2_with fail
    go_ret2
    exact RetWh.mk HW.out (by rw [errV_no HJ.out]; kernel_rfl) (OwnQ.nil_ _ _ (hb1.alloc hb1.size _))
  | ok p =>
    obtain ⟨k, es, m⟩ := p
    obtain ⟨hmay, hfit, hmn, hlens⟩ := getI_ok HBB.out hg
    rw [HL.out] at hmn hlens
    have HMAY := Lib.hid hmay
    have HLENS := Lib.hid hlens
    have HFIT := Lib.hid hfit
    have HW : Hid (wholeF bs = blkF (k : Int) bs es m []) := Lib.hid (by unfold wholeF; rw [hg])
    have hmany : es.length ≤ 65535 := hmay.2.1
    clear hg hmay hfit hlens
    rintro e w1 ⟨Ae, ce, rfl, ho1⟩
    obtain ⟨N, HN⟩ : ∃ N, Hid (es.length = N) := ⟨_, Lib.hid rfl⟩
    rw [HN.out] at ho1 hmany ⊢
    obtain ⟨W, hW⟩ : ∃ W, W = w1.alloc (.cells #[.int .i64 (k : Int), .slice Ae N ce] 86) := ⟨_, rfl⟩
    have hbW : Below w1.heap.size w1 W := by rw [hW]; exact (Below.refl _ _).alloc (Nat.le_refl _) _
    have hbx : BoxL W w1.heap.size [.int .i64 (k : Int), .slice Ae N ce] := by rw [hW]; exact head_box2 w1 k _
    have HRE : Hid (RdE W W.heap.size Ae N ce es) := Lib.hid ((ho1.rd.below hbW).more hbW.size)
    have HBW : Hid (Below w.heap.size w W) := Lib.hid (ho1.bel.trans (hbW.mono ho1.bel.size))
    have HBX : Hid (∀ w', Below W.heap.size W w' → w'.cell? ⟨w1.heap.size, 0, none⟩ = some (.int .i64 (k : Int)) ∧ w'.cell? ⟨w1.heap.size, 1, none⟩ = some (.slice Ae N ce)) := Lib.hid (fun w' hb => (hbx.below hb).get2)
    replace hW := Lib.hid hW
    clear ho1 hbW hbx
    go_upto_block 0 with fail
    rw [← hW.out]
    generalize w1.heap.size = g4 at *
    clear hW
    have HBK := Lib.hid (hcap)
    go_wp2_with fail
    go_loopw [5, 7, 25] (fun a l i wr => AtWh w W k m bs es a l i wr) (fun _ _ i _ => N - (intOf i).toNat)
    case atStart =>
      exact ⟨0, m, [], Nat.zero_le _, rfl, rfl, by simp [lensN], by rw [List.drop_zero], by simp, MidQ.nil_ HBW.out HBW.out.size, Below.refl _ _⟩
    case round =>
      obtain ⟨j, a, acc, hj, rfl, rfl, ha, hblk, hacc, hmq, hbw⟩ := hrel
      have HBLK := Lib.hid hblk
      have HA := Lib.hid ha
      clear hblk ha
      have hbwr := HBW.out.trans (hbw.mono HBW.out.size)
      rw [HN.out] at hj
      by_cases hlt : j < N
      · have hjl : j < es.length := by rw [HN.out]; exact hlt
        obtain ⟨ad, rfl, _, hce⟩ := (HRE.out.below hbw).at_ hlt
        have hfe := HFIT.out _ (by rw [List.getD_eq_getElem?_getD, List.getElem?_eq_getElem hjl]; exact List.getElem_mem hjl : es.getD j ent0 ∈ es)
        have hme := may_at HMAY.out hjl
        have hsl := lensN_take hjl
        have hle := lensN_le es (j + 1)
        have HBAD := Lib.hid (fun (acc : List (Int × Nat)) (i : Nat) h => blkF_bad (z := (k : Int)) (bs := bs) (a := a) (acc := acc) (k := i) hjl h)
        have HOKK := Lib.hid (fun (acc ys : List (Int × Nat)) h => blkF_ok (z := (k : Int)) (bs := bs) (a := a) (acc := acc) (ys := ys) hjl h)
        have HSUC : Hid (lensN (es.take (j + 1)) = lensN (es.take j) + (es.getD j ent0).ln.toNat) := Lib.hid hsl
        generalize es.getD j ent0 = en at *
        obtain ⟨em, ex, ec, el⟩ := en
        obtain ⟨ll, rfl⟩ : ∃ ll : Nat, el = (ll : Int) := ⟨el.toNat, by have := hme.2.1; simp only at this; omega⟩
        simp only [Int.toNat_natCast] at hsl HBAD HOKK HSUC
        have hll : 4 ≤ ll ∧ ll ≤ 2147483647 := by have := hme.2.1; simp only at this; omega
        have hec : -9223372036854775808 ≤ ec ∧ ec ≤ 9223372036854775807 := hfe.2.2.1
        have hal : a + ll ≤ n := by
          have h1 := HA.out
          have h2 := HLENS.out
          omega
        obtain ⟨q0, q1, q2, q3⟩ := hce
        simp only at q0 q1 q2 q3
        clear hme hfe hsl hle
        have hcut := fun X (hX : Below w.heap.size w X) => (HH.out X hX).cutTo (a := a) (n := ll) hal
        have hch := fun X (hX : Below w.heap.size w X) => chunk_any (k : Int) em ex ec ll _ ll _ B _ X (hcut X hX) (Nat.le_trans HB.out hX.size) (fun u hu => HBB.out u (List.mem_of_mem_drop (List.mem_of_mem_take hu))) (by omega) hec (hR.bel hX) (hT.bel hX)
        clear hcut
        go_upto_region 9 with fail
        obtain ⟨V, hV⟩ : ∃ V, V = wr.alloc (.cells #[.int .i64 em, .int .i64 ex, .int .i64 ec, .int .i64 (ll : Int)] 103) := ⟨_, rfl⟩
        have hbV : Below wr.heap.size wr V := by rw [hV]; exact (Below.refl _ _).alloc (Nat.le_refl _) _
        have bxV : BoxL V wr.heap.size [.int .i64 em, .int .i64 ex, .int .i64 ec, .int .i64 (ll : Int)] := by rw [hV]; exact entry_box wr em ex ec ll _
        rw [← hV]
        obtain ⟨s, hs⟩ : ∃ s, s = a + ll := ⟨_, rfl⟩
        rw [show (a : Int) + (ll : Int) = (s : Int) by omega]
        have hs1 : s - a = ll := by omega
        have hs2 : (a : Int) ≤ (s : Int) := by omega
        have hs3 : (s : Int) ≤ (c : Int) := by omega
        have hs4 : ¬ c = a := by omega
        have hs5 : (0 : Int) ≤ (a : Int) := by omega
        have HSE := Lib.hid hs
        rw [← hs] at HOKK
        have hmV := hmq.on hbV
        have hbWV := hbw.trans (hbV.mono hbw.size)
        have hbwV := hbwr.trans (hbV.mono hbwr.size)
        generalize wr.heap.size = ge at *
        have HSS : Hid (∀ X, Below V.heap.size V X → (X.cell? ⟨g4, 0, none⟩ = some (.int .i64 (k : Int))) ∧ (X.cell? ⟨ge, 0, none⟩ = some (.int .i64 em) ∧ X.cell? ⟨ge, 1, none⟩ = some (.int .i64 ex) ∧ X.cell? ⟨ge, 2, none⟩ = some (.int .i64 ec) ∧ X.cell? ⟨ge, 3, none⟩ = some (.int .i64 (ll : Int)))) := Lib.hid (fun X hX => ⟨(HBX.out X (hbWV.trans (hX.mono hbWV.size))).1, (bxV.below hX).get4e⟩)
        have hsd := HSS.out V.drew (Below.refl _ _).drew
        have hch2 := hch V.drew hbwV.drew
        clear hV hs q0 q1 q2 q3 hch hmq hbw hbwr bxV hbV hal
        cases hc : chF (k : Int) ⟨em, ex, ec, (ll : Int)⟩ ((bs.drop a).take ll) with
        | error i =>
          have HI := Lib.hid (chF_err hc).1
          have HRET : Hid (wholeF bs = (acc, i)) := Lib.hid (by rw [HW.out, HBLK.out]; exact HBAD.out acc i hc)
          rw [hc] at hch2
          replace hch2 : Calls Tryz.prog 53 #[.int .i64 (k : Int), .agg #[.int .i64 em, .int .i64 ex, .int .i64 ec, .int .i64 (ll : Int)], .slice (A.map (fun x => x.add a)) ll (c - a)] V.drew fun e w' => e = .returned (.tuple #[.slice none 0 0, .iface 59 (.int .i64 (i : Int))]) ∧ Below V.heap.size V w' := hch2.mono (by
            rintro e w' ⟨rfl, hb⟩
            exact ⟨by rw [errV_no HI.out], undrew hb⟩)
          clear hc
          go_region_held3 (fun X => (X.cell? ⟨g4, 0, none⟩ = some (.int .i64 (k : Int))) ∧ (X.cell? ⟨ge, 0, none⟩ = some (.int .i64 em) ∧ X.cell? ⟨ge, 1, none⟩ = some (.int .i64 ex) ∧ X.cell? ⟨ge, 2, none⟩ = some (.int .i64 ec) ∧ X.cell? ⟨ge, 3, none⟩ = some (.int .i64 (ll : Int)))) (first | exact hsd | exact hsx) (first
            | (go_at_call 53; refine hch2.mono ?_; rintro e w5 ⟨rfl, hb5⟩; have hsx := HSS.out _ hb5))
          all_goals
            have hown := (hmV.on hb5).own
            obtain ⟨A7, c7, rfl, _⟩ := hown.form
            go_wp2_with fail
            go_ret2
            exact RetWh.mk HRET.out (by rw [errV_no HI.out]; kernel_rfl) hown
        | ok ys =>
          have HNX := Lib.hid (HOKK.out acc ys hc)
          have hyl := (chF_good hc).2.2.1
          rw [hc] at hch2
          obtain ⟨M, HM⟩ : ∃ M, Hid (ys.length = M) := ⟨_, Lib.hid rfl⟩
          replace hch2 : Calls Tryz.prog 53 #[.int .i64 (k : Int), .agg #[.int .i64 em, .int .i64 ex, .int .i64 ec, .int .i64 (ll : Int)], .slice (A.map (fun x => x.add a)) ll (c - a)] V.drew fun e w' => ∃ A8 c8, e = .returned (.tuple #[.slice A8 M c8, .nilIface]) ∧ RdQ w' w'.heap.size A8 M c8 ys ∧ Below V.heap.size V w' := hch2.mono (by
            rintro e w' ⟨A8, c8, rfl, ho⟩
            rw [HM.out] at ho ⊢
            exact ⟨A8, c8, rfl, ho.rd, undrew ho.bel⟩)
          rw [HM.out] at hyl
          clear hc
          go_region_held3 (fun X => (X.cell? ⟨g4, 0, none⟩ = some (.int .i64 (k : Int))) ∧ (X.cell? ⟨ge, 0, none⟩ = some (.int .i64 em) ∧ X.cell? ⟨ge, 1, none⟩ = some (.int .i64 ex) ∧ X.cell? ⟨ge, 2, none⟩ = some (.int .i64 ec) ∧ X.cell? ⟨ge, 3, none⟩ = some (.int .i64 (ll : Int)))) (first | exact hsd | exact hsx) (first
            | (go_at_call 53; refine hch2.mono ?_; rintro e w5 ⟨A8, c8, rfl, hr8, hb5⟩; have hsx := HSS.out _ hb5))
          all_goals
            have hm5 := hmV.on hb5
            have hbW5 := hbWV.trans (hb5.mono hbWV.size)
            have hbig : acc.length + M ≤ 8796093022208 := by omega
            have HBIG := Lib.hid hacc
            clear hmV hb5 hsx hsd hch2 HSS hacc
            go_wp2_with (at_builtin; (refine wpList_appMQ rfl (.tmp 48) (.tmp 49) rfl rfl rfl hm5 hbW5.size hr8 hbig ?_; intro v6 w6 hm6 hb6 hg6))
            go_roundw
            case rel =>
              refine ⟨j + 1, s, acc ++ ys, by rw [HN.out]; omega, by go_num, rfl, ?_, ?_, ?_, hm6, hbW5.trans hb6⟩
              · rw [HSUC.out, HSE.out, HA.out]; omega
              · rw [HBLK.out, HNX.out]
              · rw [List.length_append, HM.out]; have := HBIG.out; omega
            case measure => simp [intOf]; omega
      · obtain rfl : j = N := by omega
        have HRET : Hid (wholeF bs = (acc, 0)) := Lib.hid (by rw [HW.out, HBLK.out]; exact blkF_end (by rw [HN.out]; omega))
        have hown := hmq.own
        obtain ⟨A7, c7, rfl, _⟩ := hown.form
        clear hmq hbw hbwr hacc
        go_wp2_with fail
        go_ret2
        exact RetWh.mk HRET.out rfl hown

end Go.Proofs.YtaebljoacffghaaGreatDoor
