/-
  The contract of the reference's Pack: any samples' block, by any size, or what is amiss.
-/
import Derived.Test.YtkndoalnlldolaaDoorPackRise
import Derived.Test.YtkndoalnlldolaaDoorPackMem
import Derived.Test.YtkndoalnlldolaaDoorPackSum
import Derived.Test.YtkndoalnlldolaaDoorStepE
import Derived.Test.YtkndoalnlldolaaDoorRefChunk
import Derived.Test.YtkndoalnlldolaaDoorIdxRef
import Derived.Deep.CutBlock
import Derived.Deep.DeepCutAuto
namespace Go.Proofs.YtkndoalnlldolaaDoor
open Go.RowKit

/-- what the reference's Pack comes to -/
def RetRPack (w : World) (z s : Int) (xs : List (Int × Nat)) (e : Ending) (w' : World) : Prop :=
  ∃ er A c, PackE z s xs er ∧ e = .returned (.tuple #[.slice A (blockE z s xs er).length c, .int .i64 (er : Int)]) ∧ Own w w' (.slice A (blockE z s xs er).length c) (blockE z s xs er)
theorem RetRPack.bad {w w' : World} {z s : Int} {xs : List (Int × Nat)} {er : Nat} {e : Ending} (h : PackE z s xs er) (h0 : er ≠ 0) (he : e = .returned (.tuple #[.slice none 0 0, .int .i64 (er : Int)])) (hb : Below w.heap.size w w') : RetRPack w z s xs e w' := by
  have e1 : blockE z s xs er = [] := by unfold blockE; rw [if_neg h0]
  refine ⟨er, none, 0, h, ?_, ?_⟩
  · rw [e1]; exact he
  · rw [e1]; exact Own.nil_ _ _ hb

theorem part_take2 {s : Nat} {xs : List (Int × Nat)} {j m : Nat} (h : (xs.drop (j * s)).length = m) : (xs.drop (j * s)).take (min s m) = partQ s xs j := by
  unfold partQ
  rcases Nat.le_total s m with h1 | h1
  · rw [Nat.min_eq_left h1]
  · rw [Nat.min_eq_right h1, List.take_of_length_le (by omega), List.take_of_length_le (by omega)]

/-- behind j chunks: their entries, their bytes, where the next one begins -/
def AtRPk (w : World) (k s : Nat) (xs : List (Int × Nat)) (l b i : Value) (wr : World) : Prop :=
  ∃ j a : Nat, j ≤ manyQ s xs ∧ a = j * s ∧ i = .int .i64 (a : Int) ∧ OwnE 51 w wr l (entsTo k s xs j) ∧ Own w wr b (bodyTo k s xs j)

set_option maxRecDepth 20000 in
set_option maxHeartbeats 8000000 in
theorem rpack_any (z s : Int) (A : Option Addr) (n c : Nat) (xs : List (Int × Nat)) (w : World) (h : RdQ w w.heap.size A n c xs) (hn : n ≤ 100) :
    Calls Tryd.prog 7 #[.int .i64 z, .slice A n c, .int .i64 s] w (RetRPack w z s xs) := by
  have hR := rrises_any A n c xs w h (by omega)
  go_enter Tryd.func7, Tryd.ntmps7
  by_cases h1 : 1 ≤ s
  · by_cases h2 : s ≤ 65535
    · obtain ⟨S, rfl⟩ := Int.eq_ofNat_of_zero_le (show 0 ≤ s by omega)
      have HS : Hid (1 ≤ (S : Int) ∧ (S : Int) ≤ 65535) := Lib.hid ⟨h1, h2⟩
      by_cases hz : z = 1 ∨ z = 2
      · obtain ⟨k, rfl, hk⟩ : ∃ d : Nat, z = (d : Int) ∧ (d = 1 ∨ d = 2) := ⟨z.toNat, by omega, by omega⟩
        have hnl : ¬ 65535 * (S : Int) < (n : Int) := by omega
        have HK := Lib.hid hk
        have hz1 : ((k : Int) != 1 && (k : Int) != 2) = false := by rcases hk with rfl | rfl <;> rfl
        go_upto_region 3 with fail
        go_cut [26] (fun x wx => x = .bool false ∧ wx = w)
        case first =>
          rcases hk with rfl | rfl
          all_goals
            go_wp2_with fail
            go_meet
            exact ⟨rfl, rfl⟩
        case rest =>
        obtain ⟨rfl, rfl⟩ := hcut
        rename World => w
        clear hz hz1
        go_wp2_with fail
        refine hR.mono ?_
        rintro e w1 ⟨b, hb, rfl, hb1⟩
        clear hR
        cases b with
        | false =>
          have HN : Hid (¬ Rises xs) := Lib.hid (fun hr => by cases (hb.2 hr))
          clear hb
          go_wp2
          go_ret2
          exact RetRPack.bad (er := 4) (.inr ⟨HS.out, .inr ⟨k, rfl, HK.out, .inl ⟨HN.out, rfl⟩⟩⟩) (by omega) rfl hb1
        | true =>
          have HR := Lib.hid (hb.1 rfl)
          have HA := Lib.hid h.all
          have HL := Lib.hid h.len
          have HH := Lib.hid h
          have hs1 : 1 ≤ S := by omega
          have hs2 : S ≤ 65535 := by omega
          clear hb h h1 h2
          go_upto_block 0 with fail
          go_wp2_with fail
          go_loopw [9, 10, 11] (fun l b i wr => AtRPk w k S xs l b i wr) (fun _ _ i _ => n - (intOf i).toNat)
          case atStart =>
            exact ⟨0, 0, Nat.zero_le _, by simp, rfl, OwnE.nil_ _ _ _ hb1, Own.nil_ _ _ hb1⟩
          case round =>
            clear hb1
            obtain ⟨j, a, hj, ha, rfl, hent, hown⟩ := hrel
            have HAJ := Lib.hid ha
            have HM := Lib.hid (lt_many (s := S) (xs := xs) hs1 j)
            have HJL := Lib.hid hj
            have hjn : j ≤ n := by have := many_le (xs := xs) hs1; have := HL.out; omega
            clear ha hj
            by_cases hlt : a < n
            · have HJ : Hid (j < manyQ S xs) := Lib.hid (HM.out.2 (by rw [HL.out, ← HAJ.out]; exact hlt))
              have hrd := (HH.out.below hown.bel).cutTail (a := a) (by omega)
              have HDL : Hid ((xs.drop (j * S)).length = n - a) := Lib.hid (by rw [List.length_drop, HL.out, ← HAJ.out])
              obtain ⟨q, HQ⟩ : ∃ q, Hid (min S (n - a) = q) := ⟨_, Lib.hid rfl⟩
              have hq : 1 ≤ q ∧ q ≤ S ∧ q ≤ n - a := by have := HQ.out; omega
              have HP : Hid ((xs.drop (j * S)).take q = partQ S xs j) := Lib.hid (by rw [← HQ.out]; exact part_take2 HDL.out)
              have HPL : Hid ((partQ S xs j).length = q) := Lib.hid (by rw [← HP.out, List.length_take, HDL.out]; omega)
              have hcap := (HH.out).cap
              have hwr : IntKind.i64.wrap ((a : Int) + (S : Int)) = (a : Int) + (S : Int) := IntWalk.i64_in _ (by omega)
              obtain ⟨ad, rfl, hbl, _, _⟩ := (HH.out).at_ (k := a) hlt
              obtain ⟨r, hr⟩ : ∃ r, r = a + q := ⟨_, rfl⟩
              have hmin : (if (a : Int) + (S : Int) < (n : Int) then (a : Int) + (S : Int) else (n : Int)) = (r : Int) := by have := HQ.out; split <;> omega
              have hrq : r - a = q := by omega
              have hra : a ≤ r := by omega
              have hrc : r ≤ c := by omega
              have hac : a < c := by omega
              rw [HAJ.out] at hrd
              have hpt0 := (hrd.cutHead (n := q) (by rw [← HAJ.out]; exact hq.2.2)).more hown.bel.size
              rw [HP.out] at hpt0
              rw [← HAJ.out] at hpt0
              have hpt : RdQ wr wr.heap.size (some (ad.add (a * 2))) q (c - a) (partQ S xs j) := hpt0
              clear hpt0
              have hE := rencode_any (some (ad.add (a * 2))) q (c - a) (k : Int) (partQ S xs j) wr hpt (by omega)
              have HEE := Lib.hid (enc_ok (k := k) (xs := partQ S xs j) (by rw [HPL.out]; omega) HK.out (part_rises HR.out j))
              have HBQ : Hid (pack (encP (k : Int) (partQ S xs j) 0) = bytQ k (partQ S xs j)) := Lib.hid (by unfold encP bytQ; rw [if_pos rfl]; rfl)
              clear hrd hr
              go_wp2_with fail
              refine hE.mono ?_
              rintro e w2 ⟨er, A2, c2, her, rfl, ho2⟩
              obtain rfl := her.same HEE.out
              rw [HBQ.out] at ho2 ⊢
              clear her hE hmin
              have hbw2 := hown.bel.trans (ho2.bel.mono hown.bel.size)
              have hbw := hown.bel
              have hne : ∀ ad, A2 = some ad → u10.ownBlock ≠ some ad.block := fun ad e e2 => by have h1 := ho2.beyond ad e; have h2 := hown.before _ e2; omega
              have hown2 := hown.keep ho2.bel
              have hent2 := hent.keep ho2.bel
              have hr2 := ho2.weak hbw
              have hpt2 := hpt.below ho2.bel
              clear ho2 hown hent hpt
              obtain ⟨bq, HBB⟩ : ∃ bq, Hid (bytQ k (partQ S xs j) = bq) := ⟨_, Lib.hid rfl⟩
              rw [HBB.out] at hr2 ⊢
              obtain ⟨L, hL⟩ : ∃ L, bq.length = L := ⟨_, rfl⟩
              rw [hL] at hr2 ⊢
              have HLQ := Lib.hid hL
              clear hL
              obtain ⟨p, hp⟩ : ∃ p, q = p + 1 := ⟨q - 1, by omega⟩
              have hsub : IntKind.i64.wrap ((q : Int) - 1) = (p : Int) := by rw [show (q : Int) - 1 = (p : Int) by omega]; exact IntWalk.i64_in _ (by omega)
              have hpq : p < q := by omega
              have hpq' : (p : Int) < (q : Int) := by omega
              have hq' : (0 : Int) < (q : Int) := by omega
              have hqp : 0 < q := by omega
              have hbl1 : (ad.add (a * 2)).block < w.heap.size := by rw [add_block]; exact hbl
              generalize ad.add (a * 2) = ad1 at *
              obtain ⟨ad', e', hbl2, hc0, _⟩ := hpt2.at_ (k := 0) hqp
              injection e' with e'
              subst e'
              obtain ⟨ad', e', _, hc1, _⟩ := hpt2.at_ (k := p) hpq
              injection e' with e'
              subst e'
              have HBQL : Hid (L ≤ 100000) := Lib.hid (by
                have h1 := byt_len (k := k) (part_all (s := S) HA.out j)
                rw [HBB.out, HLQ.out, HPL.out] at h1
                omega)
              obtain ⟨L4, hL4⟩ : ∃ L4, L4 = L + 4 := ⟨_, rfl⟩
              have hw4 : IntKind.i64.wrap ((L : Int) + 4) = (L4 : Int) := by rw [show (L : Int) + 4 = (L4 : Int) by omega]; exact IntWalk.i64_in _ (by have := HBQL.out; omega)
              have HEN : Hid (entQ k (partQ S xs j) = ⟨((partQ S xs j).getD 0 (0, 0)).1, ((partQ S xs j).getD p (0, 0)).1, (q : Int), (L4 : Int)⟩) := Lib.hid (by
                unfold entQ
                rw [sum_len, HPL.out, HBB.out, HLQ.out, ← hL4, hp, Nat.add_sub_cancel])
              have hfit := ent_fit (k := k) (s := S) HA.out (by rw [HL.out]; omega) j
              rw [HEN.out] at hfit
              have HES : Hid (entsTo k S xs (j + 1) = entsTo k S xs j ++ [entQ k (partQ S xs j)]) := Lib.hid (ents_succ j)
              have HEL : Hid ((entsTo k S xs j).length + 1 ≤ 1073741824) := Lib.hid (by rw [ents_len]; omega)
              generalize ((partQ S xs j).getD 0 (0, 0)).1 = t0 at *
              generalize ((partQ S xs j).getD p (0, 0)).1 = t1 at *
              obtain ⟨es, HEE⟩ : ∃ es, Hid (entsTo k S xs j = es) := ⟨_, Lib.hid rfl⟩
              rw [HEE.out] at hent2 HEL
              rw [show ad1.add (0 * 2) = ad1 by simp [Addr.add]] at hc0
              have HSC : Hid (∀ w', Below w.heap.size w w' → w'.cell? ad1 = some (.int .i64 t0) ∧ w'.cell? (ad1.add (p * 2)) = some (.int .i64 t1)) := Lib.hid (fun w' hb =>
                ⟨((hb.cell hbl1).trans (hbw2.cell hbl1).symm).trans hc0, ((hb.cell (p := ad1.add (p * 2)) (by rw [add_block]; exact hbl1)).trans (hbw2.cell (p := ad1.add (p * 2)) (by rw [add_block]; exact hbl1)).symm).trans hc1⟩)
              have HPQ := Lib.hid hp
              have HL4 := Lib.hid hL4
              clear hp hL4 hc0 hc1 hpt2
              go_upto_region 17 with fail
              go_cut [9] (fun x9 wx => OwnE 51 w wx x9 (entsTo k S xs (j + 1)) ∧ Own w wx u10 (bodyTo k S xs j) ∧ Own w wx (.slice A2 L c2) bq ∧ Below w.heap.size w wx)
              case first =>
                have hownd := hent2.drew
                have hs0 := HSC.out _ hownd.bel
                have hs1 := HSC.out _ (hownd.alloc (.cells #[.int .i64 t0, .int .i64 t1, .int .i64 (q : Int), .int .i64 (L4 : Int)] 51)).bel
                have hu := Tryd.underlying49
                have hi := Tryd.infoF
                have hone := RdE.one 51 w2.drew ⟨t0, t1, (q : Int), (L4 : Int)⟩ hfit
                have hal := hownd.alloc (.cells #[.int .i64 t0, .int .i64 t1, .int .i64 (q : Int), .int .i64 (L4 : Int)] 51)
                have hbwn := HSC
                go_region_held3 (fun w' => w'.cell? ad1 = some (.int .i64 t0) ∧ w'.cell? (ad1.add (p * 2)) = some (.int .i64 t1))
                  (first | exact hs0 | exact hs1 | exact hs2) (first
                  | (refine step_appE hu hi rfl (.tmp 58) (.tmp 76) rfl rfl rfl hal hone HEL.out ?_; intro v3 w3 hown3 hg3; have hkt := KeepT.of_grown hal hg3; have hs2 := HSC.out _ hown3.bel))
                all_goals
                  go_wp2_with fail
                  go_meet
                  refine ⟨?_, ?_, ?_, hown3.bel⟩
                  · rw [HES.out, HEE.out, HEN.out]
                    exact hown3
                  · exact (hown2.drew.alloc _).keepT hkt (by decide) hown3.bel
                  · exact (hr2.drew.alloc _).keepT hkt (by decide) hown3.bel
              case rest =>
                obtain ⟨hent5, hown5, hr5, hbw5⟩ := hcut
                clear hent2 hown2 hr2 hfit hsub hw4
                have HSL := Lib.hid (sum_len k (partQ S xs j))
                have HBS : Hid (bodyTo k S xs (j + 1) = bodyTo k S xs j ++ sumQ k (partQ S xs j)) := Lib.hid (body_succ j)
                have HSQ : Hid (sumQ k (partQ S xs j) = bq ++ bigB 4 (crcS bq)) := Lib.hid (by rw [← HBB.out]; rfl)
                have HQB : Hid (∀ x ∈ bq, x < 256) := Lib.hid (by rw [← HBB.out]; exact byt_lt _ _)
                have HBL : Hid ((bodyTo k S xs j).length + L ≤ 100000000) := Lib.hid (by
                  have h1 := body_len (k := k) (s := S) HA.out (by rw [HL.out]; omega) j
                  have h2 := HBQL.out
                  omega)
                have hlt32 := crcS_lt HQB.out
                have hbg := fun w => big_any (crcS bq) 4 w (by omega) (by omega)
                have hsm := fun w' (hr : Rd w' w'.heap.size A2 L c2 bq) => rsum_any A2 L c2 _ bq w' hr HQB.out (by have := HBQL.out; omega)
                generalize crcS bq = cs at *
                have hcw : IntKind.u64.wrap (cs : Int) = (cs : Int) := wrap_le cs (by omega)
                obtain ⟨bb, HB2⟩ : ∃ bb, Hid (bodyTo k S xs j = bb) := ⟨_, Lib.hid rfl⟩
                rw [HB2.out] at hown5 HBL
                go_wp2_with (at_builtin; (refine wpList_appG rfl (.tmp 78) (.tmp 79) rfl rfl rfl hown5 hr5.rd (by have := HBL.out; omega) ?_; intro v6 w6 hown6 hg6 hk6))
                have hr6 := (hr5.rd.aside hg6 hne).more hg6.size
                have hent6 := hent5.keepT hk6.keepT (by decide) hown6.bel
                obtain ⟨p6, HP6⟩ : ∃ p6, Hid (bb ++ bq = p6) := ⟨_, Lib.hid rfl⟩
                rw [HP6.out] at hown6
                have HPL6 : Hid (p6.length + (bigB 4 cs).length ≤ 1073741824) := Lib.hid (by
                  have h1 := HBL.out
                  rw [← HP6.out, List.length_append, bigB_length, HLQ.out]
                  omega)
                clear hent5 hown5 hr5 hg6 hk6
                refine (hsm _ hr6).mono ?_
                rintro e w7 ⟨rfl, rfl⟩
                clear hsm hr6
                go_wp2_with fail
                refine (hbg _).mono ?_
                rintro e w8 ⟨A8, c8, rfl, ho8⟩
                have hent8 := hent6.keep ho8.bel
                have hown8 := hown6.keep ho8.bel
                clear hbg hent6 hown6
                go_wp2_with (at_builtin; (refine wpList_appK rfl (.tmp 80) (.tmp 84) rfl rfl rfl hown8 ho8.rd HPL6.out ?_; intro v9 w9 hown9 hk9))
                have hent9 := hent8.keepT hk9.keepT (by decide) hown9.bel
                go_roundw
                case rel =>
                  refine ⟨j + 1, a + S, by have := HJ.out; omega, by rw [HAJ.out, Nat.add_mul, Nat.one_mul], by go_num, hent9, ?_⟩
                  rw [HBS.out, HB2.out, HSQ.out, ← List.append_assoc, HP6.out]
                  exact hown9
                case measure => simp [intOf]; omega
            · obtain rfl : j = manyQ S xs := by
                have h1 := HJL.out
                rcases Nat.lt_or_ge j (manyQ S xs) with h2 | h2
                · have h3 := HM.out.1 h2
                  rw [HL.out, ← HAJ.out] at h3
                  omega
                · omega
              have HBK : Hid (blockB k S xs = idxB k (entsTo k S xs (manyQ S xs)) ++ bodyTo k S xs (manyQ S xs)) := Lib.hid rfl
              have HBL : Hid ((blockB k S xs).length ≤ 700000000) := Lib.hid (block_len HA.out (by rw [HL.out]; omega) hs1)
              have HBE : Hid (blockE (k : Int) (S : Int) xs 0 = blockB k S xs) := Lib.hid (by unfold blockE; rw [if_pos rfl]; rfl)
              obtain ⟨Ae, ce, rfl, hre⟩ := hent.form
              have hix := rindex_any k Ae _ ce _ _ wr hre (Nat.le_refl _) (by rw [ents_len]; omega) HK.out
              clear hent hre
              go_wp2_with fail
              refine hix.mono ?_
              rintro e w6 ⟨A6, c6, rfl, ho6⟩
              have hob := ho6.weak hown.bel
              have hbd := hown.keep ho6.bel
              clear hix hown ho6
              generalize idxB k (entsTo k S xs (manyQ S xs)) = ib at *
              obtain ⟨bb, HBB⟩ : ∃ bb, Hid (bb = bodyTo k S xs (manyQ S xs)) := ⟨_, Lib.hid rfl⟩
              rw [← HBB.out] at hbd
              obtain ⟨il, hil⟩ : ∃ il, ib.length = il := ⟨_, rfl⟩
              rw [hil] at hob ⊢
              have HIL := Lib.hid hil
              clear hil
              obtain ⟨A8, c8, rfl, hrb⟩ := hbd.form
              have HLL : Hid (ib.length + bb.length ≤ 1073741824) := Lib.hid (by
                have h1 := HBL.out
                rw [HBK.out, ← HBB.out, List.length_append] at h1
                omega)
              go_wp2_with (at_builtin; (refine wpList_app rfl (.tmp 88) (.tmp 89) rfl rfl rfl hob hrb HLL.out ?_; intro v9 w9 hown9))
              rw [HBB.out, ← HBK.out, ← HBE.out] at hown9
              obtain ⟨A9, c9, rfl, _⟩ := hown9.form
              go_ret2
              exact ⟨0, A9, c9, .inr ⟨HS.out, .inr ⟨k, rfl, HK.out, .inr ⟨HR.out, rfl⟩⟩⟩, rfl, hown9⟩
      · have HZ : Hid (z ≠ 1 ∧ z ≠ 2) := Lib.hid (by omega)
        have hz1 : (z != 1) = true := by simp; omega
        have hz2 : (z != 2) = true := by simp; omega
        clear hR hz
        go_wp2
        go_ret2
        exact RetRPack.bad (er := 6) (.inr ⟨HS.out, .inl ⟨HZ.out, rfl⟩⟩) (by omega) rfl (Below.refl _ _)
    · have HS : Hid (¬ (1 ≤ s ∧ s ≤ 65535)) := Lib.hid (by omega)
      clear hR
      go_wp2
      go_ret2
      exact RetRPack.bad (er := 1) (.inl ⟨HS.out, rfl⟩) (by omega) rfl (Below.refl _ _)
  · have HS : Hid (¬ (1 ≤ s ∧ s ≤ 65535)) := Lib.hid (by omega)
    clear hR
    go_wp2
    go_ret2
    exact RetRPack.bad (er := 1) (.inl ⟨HS.out, rfl⟩) (by omega) rfl (Below.refl _ _)

end Go.Proofs.YtkndoalnlldolaaDoor
