/-
  The contract of the program's Pack: any samples' block, by any size, or what is amiss.
-/
import Derived.Test.YtkndoalnlldolaaDoorPackCheck
import Derived.Test.YtkndoalnlldolaaDoorPackSum
import Derived.Test.YtkndoalnlldolaaDoorPackMem
import Derived.Test.YtkndoalnlldolaaDoorStepE
import Derived.Test.YtkndoalnlldolaaDoorIdxPut
import Derived.Deep.RegionLaw
import Derived.Deep.CutBlock
import Derived.Deep.DeepCutAuto
namespace Go.Proofs.YtkndoalnlldolaaDoor
open Go.RowKit

/-- what Pack comes to -/
def RetPack (w : World) (z s : Int) (xs : List (Int × Nat)) (e : Ending) (w' : World) : Prop :=
  ∃ er A c, PackE z s xs er ∧ e = .returned (.tuple #[.slice A (blockE z s xs er).length c, errV er]) ∧ Own w w' (.slice A (blockE z s xs er).length c) (blockE z s xs er)
theorem RetPack.bad {w w' : World} {z s : Int} {xs : List (Int × Nat)} {er : Nat} {e : Ending} (h : PackE z s xs er) (h0 : er ≠ 0) (he : e = .returned (.tuple #[.slice none 0 0, errV er])) (hb : Below w.heap.size w w') : RetPack w z s xs e w' := by
  have e1 : blockE z s xs er = [] := by unfold blockE; rw [if_neg h0]
  refine ⟨er, none, 0, h, ?_, ?_⟩
  · rw [e1]; exact he
  · rw [e1]; exact Own.nil_ _ _ hb
theorem part_take {s : Nat} {xs : List (Int × Nat)} {j m : Nat} (h : (xs.drop (j * s)).length = m) : (xs.drop (j * s)).take (min s m) = partQ s xs j := by
  unfold partQ
  rcases Nat.le_total s m with h1 | h1
  · rw [Nat.min_eq_left h1]
  · rw [Nat.min_eq_right h1, List.take_of_length_le (by omega), List.take_of_length_le (by omega)]
theorem drop_next {s : Nat} {xs : List (Int × Nat)} {j : Nat} : (xs.drop (j * s)).drop s = xs.drop ((j + 1) * s) := by
  rw [List.drop_drop, Nat.add_mul, Nat.one_mul]

/-- behind j chunks: what is left, their bytes, their entries -/
def AtPk (w : World) (g k s : Nat) (xs : List (Int × Nat)) (l b : Value) (wr : World) : Prop :=
  ∃ (j : Nat) (A : Option Addr) (m c : Nat) (lv : Value), l = .slice A m c ∧ (m = 0 → manyQ s xs = j) ∧ (0 < m → j < manyQ s xs) ∧ RdQ wr w.heap.size A m c (xs.drop (j * s)) ∧ Own w wr b (bodyTo k s xs j) ∧ BoxT 40 wr g [.int .i64 (k : Int), lv] ∧ OwnE 46 w wr lv (entsTo k s xs j)

set_option maxRecDepth 20000 in
set_option maxHeartbeats 8000000 in
theorem pack_any (z s : Int) (A : Option Addr) (n c : Nat) (xs : List (Int × Nat)) (w : World) (h : RdQ w w.heap.size A n c xs) (hn : n ≤ 5000) (hR : RoomW w) (hT : TzW w) :
    Calls Tryd.prog 6 #[.int .i64 z, .slice A n c, .int .i64 s] w (RetPack w z s xs) := by
  have hC := check_any z s A n c xs w h hn
  go_enter Tryd.func6, Tryd.ntmps6
  go_wp2_with fail
  refine hC.mono ?_
  rintro e w1 ⟨er, her, rfl, hb1⟩
  clear hC
  by_cases he : er = 0
  · subst he
    have HE := Lib.hid her
    obtain ⟨hs, k, rfl, hk, hr⟩ := her.ok
    obtain ⟨S, rfl⟩ := Int.eq_ofNat_of_zero_le (show 0 ≤ s by omega)
    rw [show errV 0 = .nilIface from rfl]
    have HA := Lib.hid h.all
    have HL := Lib.hid h.len
    have HH := Lib.hid h
    have HR := Lib.hid hr
    have hs1 : 1 ≤ S := by omega
    have hs2 : S ≤ 65535 := by omega
    clear her hr h hs
    go_upto_block 0 with fail
    have hbx := BoxT.new w1 [.int .i64 (k : Int), .slice none 0 0] 40
    have hbw := hb1.alloc hb1.size (.cells #[.int .i64 (k : Int), .slice none 0 0] 40)
    have hg0 := hb1.size
    generalize w1.alloc (.cells #[.int .i64 (k : Int), .slice none 0 0] 40) = W at *
    obtain ⟨g, hg⟩ : ∃ g, w1.heap.size = g := ⟨_, rfl⟩
    rw [hg] at hbx hg0
    rw [show w1.heap.size = g from hg]
    have HG := Lib.hid hg
    clear hg hb1
    go_wp2_with fail
    go_loopw [1, 10] (fun l b wr => AtPk w g k S xs l b wr) (fun l _ _ => sliceLen l)
    case atStart =>
      have hb0 : Own w W (.slice none 0 0) (bodyTo k S xs 0) := Own.nil_ _ _ hbw
      have he0 : OwnE 46 w W (.slice none 0 0) (entsTo k S xs 0) := OwnE.nil_ _ _ _ hbw
      have hm0 := lt_many (s := S) (xs := xs) hs1 0
      rw [HL.out] at hm0
      exact ⟨0, A, n, c, _, rfl, by omega, by omega, by rw [Nat.zero_mul, List.drop_zero]; exact HH.out.below hbw, hb0, hbx, he0⟩
    case round =>
      clear hbx hbw
      obtain ⟨j, A', m, c', lv, rfl, hj0, hj1, hrd, hown, hbx, hent⟩ := hrel
      have HDL : Hid ((xs.drop (j * S)).length = m) := Lib.hid hrd.len
      have hmn : m ≤ 5000 := by have h1 := HDL.out; have h2 := HL.out; rw [List.length_drop] at h1; omega
      by_cases hm : 0 < m
      · have HJ := Lib.hid (hj1 hm)
        clear hj0 hj1
        obtain ⟨q, HQ⟩ : ∃ q, Hid (min S m = q) := ⟨_, Lib.hid rfl⟩
        have hq : 1 ≤ q ∧ q ≤ S ∧ q ≤ m := by have := HQ.out; omega
        have hmin : (if m < S then (m : Int) else (S : Int)) = (q : Int) := by have := HQ.out; split <;> omega
        have hcap := hrd.cap
        have HP : Hid ((xs.drop (j * S)).take q = partQ S xs j) := Lib.hid (by rw [← HQ.out]; exact part_take HDL.out)
        have HPL : Hid ((partQ S xs j).length = q) := Lib.hid (by rw [← HP.out, List.length_take, HDL.out]; omega)
        have hs := summed_any k A' q c' (partQ S xs j) wr (by rw [← HP.out]; exact (hrd.cutHead hq.2.2).more hown.bel.size) hq.1 (by omega) hk (part_rises HR.out j) (hR.bel hown.bel) (hT.bel hown.bel)
        go_wp2_with fail
        refine hs.mono ?_
        rintro e w2 ⟨A2, c2, rfl, ho2⟩
        clear hs hmin
        have HSL : Hid ((sumQ k (partQ S xs j)).length ≤ 100000) := Lib.hid (part_sum_len HA.out (by rw [HL.out]; exact hn) j)
        have hbw2 := hown.bel.trans (ho2.bel.mono hown.bel.size)
        have hb2 := ho2.bel
        have hsum := ho2.weak hown.bel
        have hbx2 := hbx.below hb2
        have hown2 := hown.keep hb2
        have hent2 := hent.keep hb2
        have hrd2 := hrd.below (hb2.mono hown.bel.size)
        clear ho2 hbx hown hent hrd hb2
        obtain ⟨L, hL⟩ : ∃ L, (sumQ k (partQ S xs j)).length = L := ⟨_, rfl⟩
        rw [hL] at hsum ⊢
        have HL2 := Lib.hid hL
        clear hL
        obtain ⟨p, hp⟩ : ∃ p, q = p + 1 := ⟨q - 1, by omega⟩
        have hsub : IntKind.i64.wrap ((q : Int) - 1) = (p : Int) := by rw [show (q : Int) - 1 = (p : Int) by omega]; exact IntWalk.i64_in _ (by omega)
        have hpm : p < m := by omega
        have hpm' : (p : Int) < (m : Int) := by omega
        have hm' : (0 : Int) < (m : Int) := by omega
        obtain ⟨ad, rfl, hbl, hc0, _⟩ := hrd2.at_ (k := 0) hm
        obtain ⟨ad', e', _, hc1, _⟩ := hrd2.at_ (k := p) hpm
        injection e' with e'
        subst e'
        have hgd : ∀ i, i < q → ((xs.drop (j * S)).getD i (0, 0)) = (partQ S xs j).getD i (0, 0) := fun i hi => by rw [← HP.out, getD_takeQ _ hi]
        rw [hgd 0 (by omega)] at hc0
        rw [hgd p (by omega)] at hc1
        have HEN : Hid (entQ k (partQ S xs j) = ⟨((partQ S xs j).getD 0 (0, 0)).1, ((partQ S xs j).getD p (0, 0)).1, (q : Int), (L : Int)⟩) := Lib.hid (by
          unfold entQ
          rw [HPL.out, HL2.out, hp, Nat.add_sub_cancel])
        have hfit := ent_fit (k := k) (s := S) HA.out (by rw [HL.out]; exact hn) j
        rw [HEN.out] at hfit
        have HES : Hid (entsTo k S xs (j + 1) = entsTo k S xs j ++ [entQ k (partQ S xs j)]) := Lib.hid (ents_succ j)
        have HEL : Hid ((entsTo k S xs j).length + 1 ≤ 1073741824) := Lib.hid (by rw [ents_len]; have := HJ.out; have := many_le (xs := xs) hs1; have := HL.out; omega)
        generalize ((partQ S xs j).getD 0 (0, 0)).1 = t0 at *
        generalize ((partQ S xs j).getD p (0, 0)).1 = t1 at *
        obtain ⟨es, HEE⟩ : ∃ es, Hid (entsTo k S xs j = es) := ⟨_, Lib.hid rfl⟩
        rw [HEE.out] at hent2 HEL
        rw [show ad.add (0 * 2) = ad by simp [Addr.add]] at hc0
        have hhp := Lib.hid hp
        clear hgd hp
        go_upto_region 11 with fail
        go_cut [10] (fun x10 wx => x10 = u10 ∧ ∃ lv', BoxT 40 wx g [.int .i64 (k : Int), lv'] ∧ OwnE 46 w wx lv' (entsTo k S xs (j + 1)) ∧ Own w wx u10 (bodyTo k S xs j) ∧ Own w wx (.slice A2 L c2) (sumQ k (partQ S xs j)) ∧ Below w.heap.size w wx)
        case first =>
          obtain ⟨b0, b1⟩ := hbx2.drew_.box.get2
          have hwd : Below w.heap.size w (w2.drew.alloc (.cells #[.int .i64 t0, .int .i64 t1, .int .i64 (q : Int), .int .i64 (L : Int)] 46)) := hbw2.drew.alloc hbw2.drew.size _
          have hbxd := hbx2.drew_.below ((Below.refl w2.drew.heap.size w2.drew).alloc (Nat.le_refl _) (.cells #[.int .i64 t0, .int .i64 t1, .int .i64 (q : Int), .int .i64 (L : Int)] 46))
          obtain ⟨d0, d1⟩ := (hbx2.below ((Below.refl w2.heap.size w2).alloc (Nat.le_refl _) (.cells #[.int .i64 t0, .int .i64 t1, .int .i64 (q : Int), .int .i64 (L : Int)] 46))).box.get2
          have hu := Tryd.underlying38
          have hi := Tryd.infoE
          have hone := RdE.one 46 w2.drew ⟨t0, t1, (q : Int), (L : Int)⟩ hfit
          have hal := hent2.drew.alloc (.cells #[.int .i64 t0, .int .i64 t1, .int .i64 (q : Int), .int .i64 (L : Int)] 46)
          replace hc0 : w2.drew.cell? ad = some (.int .i64 t0) := hc0
          replace hc1 : w2.drew.cell? (ad.add (p * 2)) = some (.int .i64 t1) := hc1
          go_region_law (first
            | (refine step_appE hu hi rfl (.tmp 44) (.tmp 59) rfl rfl rfl hal hone HEL.out ?_; intro v3 w3 hown3 hg3; have hkt := KeepT.of_grown hal hg3; have hbx3 := hbxd.keepT hkt (by decide); obtain ⟨e0, e1⟩ := hbx3.box.get2; obtain ⟨f0, f1⟩ := hbx3.box.free2; obtain ⟨A3, c3, rfl, _⟩ := hown3.form))
          all_goals
            go_wp2_with fail
            go_meet
            rw [List.length_append, List.length_singleton] at hown3
            have hks := KeepT.set hbx3 1 (.slice A3 (es.length + 1) c3)
            have hbn := below_set hown3.bel hg0 1 (.slice A3 (es.length + 1) c3)
            refine ⟨rfl, _, hbx3.put 1 (.slice A3 (es.length + 1) c3), ?_, ?_, ?_, hbn⟩
            · rw [HES.out, HEE.out, HEN.out]
              exact hown3.keepT hks (by decide) hbn
            · exact ((hown2.drew.alloc _).keepT hkt (by decide) hown3.bel).keepT hks (by decide) hbn
            · exact ((hsum.drew.alloc _).keepT hkt (by decide) hown3.bel).keepT hks (by decide) hbn
        case rest =>
          obtain ⟨rfl, lv', hbx5, hent5, hown5, hsum5, hbw5⟩ := hcut
          have hrd5 := hrd2.keep fun p hp => (hbw5.cell hp).trans (hbw2.cell hp).symm
          clear hc0 hc1 hbx2 hent2 hown2 hsum hrd2 hfit hsub
          have HBS : Hid (bodyTo k S xs (j + 1) = bodyTo k S xs j ++ sumQ k (partQ S xs j)) := Lib.hid (body_succ j)
          have HBL : Hid ((bodyTo k S xs j).length + L ≤ 1073741824) := Lib.hid (by
            have h1 := body_len (k := k) (s := S) HA.out (by rw [HL.out]; exact hn) j
            have h2 := HJ.out
            have h3 := many_le (xs := xs) hs1
            have h4 := HL.out
            have h5 := HSL.out
            rw [HL2.out] at h5
            omega)
          go_upto_region 13 with (at_builtin; (refine wpList_appK rfl (.tmp 62) (.tmp 63) rfl rfl rfl hown5 hsum5.rd HBL.out ?_; intro v6 w6 hown6 hk6))
          rw [← HBS.out] at hown6
          have hbx6 := hbx5.keepT hk6.keepT (by decide)
          have hent6 := hent5.keepT hk6.keepT (by decide) hown6.bel
          have hrd6 := hrd5.keep fun p hp => (hown6.bel.cell hp).trans (hbw5.cell hp).symm
          have HQ2 : Hid (q < m → q = S) := Lib.hid (by have := HQ.out; omega)
          have HDN : Hid ((xs.drop (j * S)).drop S = xs.drop ((j + 1) * S)) := Lib.hid drop_next
          have HMJ := Lib.hid (lt_many (s := S) (xs := xs) hs1 (j + 1))
          have HLD : Hid (m = xs.length - j * S) := Lib.hid (by rw [← HDL.out, List.length_drop])
          have HSJ : Hid ((j + 1) * S = j * S + S) := Lib.hid (by rw [Nat.add_mul, Nat.one_mul])
          clear hbx5 hent5 hown5 hsum5 hrd5
          by_cases hqm : q < m
          · have hT := hrd6.cutTail (a := q) (by omega)
            have hqi : (q : Int) < (m : Int) := by omega
            have hqc : q < c' := by omega
            have hqci : (q : Int) < (c' : Int) := by omega
            go_wp2_with fail
            refine ⟨⟨j + 1, _, _, _, _, rfl, by omega, fun _ => HMJ.out.2 (by have h1 := HSJ.out; have h2 := HLD.out; have h3 := HQ2.out hqm; omega), ?_, hown6, hbx6, hent6⟩, by simp [sliceLen]; omega⟩
            rw [← HDN.out, show (xs.drop (j * S)).drop S = (xs.drop (j * S)).drop q by rw [HQ2.out hqm]]
            exact hT
          · obtain rfl : q = m := by omega
            go_wp2_with fail
            refine ⟨⟨j + 1, _, _, _, _, rfl, fun _ => ?_, by omega, RdQ.empty ?_ ?_, hown6, hbx6, hent6⟩, by simp [sliceLen]; omega⟩
            · have h1 := HSJ.out
              have h2 := HLD.out
              have h3 := HJ.out
              rcases Nat.lt_or_ge (j + 1) (manyQ S xs) with h4 | h4
              · have := HMJ.out.1 h4
                omega
              · omega
            · have h1 := HSJ.out
              have h2 := HLD.out
              rw [List.length_drop]
              omega
            · split <;> simp
      · obtain rfl : m = 0 := by omega
        obtain rfl := hj0 rfl
        have HMAY := Lib.hid (block_may (s := S) hk HA.out HR.out (by rw [HL.out]; exact hn) hs1 hs2)
        obtain ⟨b0, b1⟩ := hbx.box.get2
        obtain ⟨Ae, ce, rfl, hre⟩ := hent.form
        have hput := iput_any (k : Int) Ae _ ce _ _ wr hre (Nat.le_refl _) (by rw [ents_len]; have := many_le (xs := xs) hs1; have := HL.out; omega)
        clear hj1 hrd hent hbx
        go_wp2_with fail
        refine hput.mono ?_
        rintro e w6 ⟨hy, _⟩
        obtain ⟨A6, c6, rfl, ho6⟩ := hy HMAY.out
        rw [show ((k : Int)).toNat = k by omega] at ho6 ⊢
        have HBK : Hid (blockB k S xs = idxB k (entsTo k S xs (manyQ S xs)) ++ bodyTo k S xs (manyQ S xs)) := Lib.hid rfl
        have HBL : Hid ((blockB k S xs).length ≤ 700000000) := Lib.hid (block_len HA.out (by rw [HL.out]; exact hn) hs1)
        have hob := ho6.weak hown.bel
        have hbd := hown.keep ho6.bel
        have HBE : Hid (blockE (k : Int) (S : Int) xs 0 = blockB k S xs) := Lib.hid (by unfold blockE; rw [if_pos rfl]; rfl)
        clear hy hput hown ho6 b0 b1 hre
        generalize idxB k (entsTo k S xs (manyQ S xs)) = ib at *
        obtain ⟨bb, HBB⟩ : ∃ bb, Hid (bb = bodyTo k S xs (manyQ S xs)) := ⟨_, Lib.hid rfl⟩
        rw [← HBB.out] at hbd
        obtain ⟨il, hil⟩ : ∃ il, ib.length = il := ⟨_, rfl⟩
        rw [hil] at hob ⊢
        have HIL := Lib.hid hil
        clear hil
        obtain ⟨A8, c8, rfl, hrb⟩ := hbd.form
        have HLL : Hid (ib.length + bb.length ≤ 1073741824) := Lib.hid (by
          have h1 := HBL.out
          rw [HBK.out, ← HBB.out, List.length_append] at h1
          omega)
        go_wp2_with (at_builtin; (refine wpList_app rfl (.tmp 76) (.tmp 77) rfl rfl rfl hob hrb HLL.out ?_; intro v9 w9 hown9))
        rw [HBB.out, ← HBK.out, ← HBE.out] at hown9
        obtain ⟨A9, c9, rfl, _⟩ := hown9.form
        go_ret2
        exact ⟨0, A9, c9, HE.out, rfl, hown9⟩
  · have hev : errV er = .iface 56 (.int .i64 (er : Int)) := by unfold errV; rw [if_neg he]
    have HE := Lib.hid her
    have HN := Lib.hid he
    rw [hev]
    clear her he
    go_wp2
    go_ret2
    exact RetPack.bad HE.out HN.out (by rw [hev]; kernel_rfl) hb1

end Go.Proofs.YtkndoalnlldolaaDoor
