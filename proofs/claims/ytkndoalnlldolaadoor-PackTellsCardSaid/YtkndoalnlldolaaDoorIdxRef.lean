/-
  The contract of the reference's Index: an index's bytes.
-/
import Derived.Test.YtkndoalnlldolaaDoorEnts
import Derived.Test.YtkndoalnlldolaaDoorIdxNum
import Derived.Test.YtkndoalnlldolaaDoorUvPut
import Derived.Test.YtkndoalnlldolaaDoorCrc
import Derived.Deep.RegionHeld3
import Derived.Deep.CutBlock
namespace Go.Proofs.YtkndoalnlldolaaDoor
open Go.RowKit

theorem wrap_u64r (x : Int) : IntKind.u64.wrap x = ((u64n x : Nat) : Int) := by
  rw [u64n_is]
  simp [IntKind.wrap, IntKind.bits, IntKind.signed]
theorem wrap_subr (x y : Int) : IntKind.u64.wrap (((u64n x : Nat) : Int) - ((u64n y : Nat) : Int)) = ((u64n (x - y) : Nat) : Int) := by
  rw [wrap_u64r]
  congr 1
  unfold u64n
  omega

/-- a loop's relation: the first j entries are laid -/
def AtRefI (w1 : World) (k : Nat) (n : Nat) (es : List Ent) (b i : Value) (wr : World) : Prop :=
  ∃ j : Nat, j ≤ n ∧ i = .int .i64 (j : Int) ∧ Own w1 wr b ([71, 84, 83, 49, k] ++ uvB es.length ++ entsB (es.take j))

theorem five_lit {w0 w : World} (h : Below w0.heap.size w0 w) (k : Nat) : Own w0 (w.alloc (.cells #[.int .u8 71, .int .u8 84, .int .u8 83, .int .u8 49, .int .u8 (k : Int)] 5)) (.slice (some ⟨w.heap.size, 0, none⟩) 5 5) [71, 84, 83, 49, k] :=
  ⟨World.ownsRow_lit w #[.int .u8 71, .int .u8 84, .int .u8 83, .int .u8 49, .int .u8 (k : Int)] 5 h.size (by unfold maxLen; omega) rfl, h.alloc h.size _⟩

set_option maxRecDepth 20000 in
set_option maxHeartbeats 1000000 in
theorem rindex_any (kn : Nat) (A : Option Addr) (n c B : Nat) (es : List Ent) (w : World) (h : RdE w B A n c es) (hB : B ≤ w.heap.size) (hn6 : n ≤ 65535) (hk : kn = 1 ∨ kn = 2) :
    Calls Tryd.prog 19 #[.int .i64 (kn : Int), .slice A n c] w (RetB w (idxB kn es)) := by
  have HL := Lib.hid h.len
  have HB := Lib.hid hB
  have HH := Lib.hid h
  clear h hB
  have hwk : IntKind.u8.wrap (kn : Int) = (kn : Int) := by rcases hk with rfl | rfl <;> rfl
  have hun : IntKind.u64.wrap (n : Int) = (n : Int) := wrap_le n (by omega)
  have h5 := five_lit (Below.refl w.heap.size w) kn
  have hl5 := uvB_ten n (by omega)
  have HLB : Hid (([71, 84, 83, 49, kn] : List Nat).length + (uvB n).length ≤ 1073741824) := Lib.hid (by simp; omega)
  go_enter Tryd.func19, Tryd.ntmps19
  go_wp2_with fail
  refine (refuv_any n _ (by omega)).mono ?_
  rintro e w4 ⟨A4, c4, rfl, ho4⟩
  go_upto_region 2 with (at_builtin; (refine wpList_app rfl (.tmp 9) (.tmp 13) rfl rfl rfl (h5.keep ho4.bel) ho4.rd HLB.out ?_; intro v5 w5 hown5))
  clear hl5 h5 ho4 hwk hun
  go_wp2_with fail
  go_loopw [5, 6] (fun b i wr => AtRefI w kn n es b i wr) (fun _ i _ => n - (intOf i).toNat)
  case atStart => exact ⟨0, by omega, rfl, by rw [HL.out]; simpa [entsB] using hown5⟩
  case round =>
    obtain ⟨j, hj, rfl, hown6⟩ := hrel
    obtain ⟨q, HQ⟩ : ∃ q, Hid (q = [71, 84, 83, 49, kn] ++ uvB es.length ++ entsB (es.take j)) := ⟨_, Lib.hid rfl⟩
    rw [← HQ.out] at hown6
    have HQL : Hid (q.length ≤ 5 + 10 + 38 * j) := Lib.hid (by
      rw [HQ.out]
      have h1 := uvB_ten es.length (by have := HL.out; omega)
      have h2 := (entsB_len (es.take j)).1
      rw [List.length_take] at h2
      simp only [List.length_append, List.length_cons, List.length_nil]
      omega)
    by_cases hlt : j < n
    · have HAT : Hid (∀ w', Below w.heap.size w w' → ∃ ad, A = some ad ∧ CellsE w' (ad.add (j * 4)) (es.getD j ent0)) := Lib.hid (fun w' hb => by
        obtain ⟨ad, e, _, hc⟩ := (HH.out.below (hb.mono HB.out)).at_ hlt
        exact ⟨ad, e, hc⟩)
      obtain ⟨ad, rfl, _⟩ := HAT.out _ (Below.refl _ _)
      have HX := Lib.hid (entsB_take (es := es) (k := j) (by have := HL.out; omega))
      generalize es.getD j ent0 = x at *
      obtain ⟨m, x1, ct, l⟩ := x
      have HS : Hid (∀ w', Below w.heap.size w w' → (w'.cell? (ad.add (j * 4)) = some (.int .i64 m) ∧ w'.cell? ⟨(ad.add (j * 4)).block, (ad.add (j * 4)).off + 1, none⟩ = some (.int .i64 x1) ∧ w'.cell? ⟨(ad.add (j * 4)).block, (ad.add (j * 4)).off + 2, none⟩ = some (.int .i64 ct) ∧ w'.cell? ⟨(ad.add (j * 4)).block, (ad.add (j * 4)).off + 3, none⟩ = some (.int .i64 l))) := Lib.hid (fun w' hb => by
        obtain ⟨ad', e, hc⟩ := HAT.out w' hb
        injection e with e
        subst e
        exact ⟨hc.c0, hc.c1, hc.c2, hc.c3⟩)
      have hin0 : (0 : Int) ≤ (j : Int) := by omega
      have hin1 : (j : Int) < (n : Int) := by omega
      have hw1 := wrap_u64r m
      have hw2 := wrap_u64r x1
      have hw3 := wrap_u64r ct
      have hw4 := wrap_u64r l
      have hws := wrap_subr x1 m
      have HE : Hid (entB ⟨m, x1, ct, l⟩ = bigB 8 (u64n m) ++ (uvB (u64n (x1 - m)) ++ (uvB (u64n ct) ++ uvB (u64n l)))) := Lib.hid rfl
      have hm := u64n_le m
      have hd := u64n_le (x1 - m)
      have hc := u64n_le ct
      have hll := u64n_le l
      have q1 := uvB_ten _ hd
      have q2 := uvB_ten _ hc
      have q3 := uvB_ten _ hll
      generalize u64n m = M at *
      generalize u64n x1 = X at *
      generalize u64n (x1 - m) = D at *
      generalize u64n ct = C at *
      generalize u64n l = L at *
      generalize entB ⟨m, x1, ct, l⟩ = EB at *
      have hQ := HQL.out
      have hb1 : q.length + (bigB 8 M).length ≤ 1073741824 := by rw [bigB_length]; omega
      have hb2 : q.length + (bigB 8 M).length + (uvB D).length ≤ 1073741824 := by rw [bigB_length]; omega
      have hb3 : q.length + (bigB 8 M).length + (uvB D).length + (uvB C).length ≤ 1073741824 := by rw [bigB_length]; omega
      have hb4 : q.length + (bigB 8 M).length + (uvB D).length + (uvB C).length + (uvB L).length ≤ 1073741824 := by rw [bigB_length]; omega
      replace hb1 := Lib.hid hb1
      replace hb2 := Lib.hid hb2
      replace hb3 := Lib.hid hb3
      replace hb4 := Lib.hid hb4
      clear q1 q2 q3 hQ
      obtain ⟨c0, c1, c2, c3⟩ := HS.out _ hown6.bel
      go_wp2_with fail
      refine (big_any M 8 wr hm (by omega)).mono ?_
      rintro e w7 ⟨A7, c7, rfl, ho7⟩
      go_upto_region 6 with (at_builtin; (refine wpList_app rfl (.tmp 21) (.tmp 28) rfl rfl rfl (hown6.keep ho7.bel) ho7.rd hb1.out ?_; intro v8 w8 hown8))
      clear c0 c1 c2 c3 hown6 ho7
      obtain ⟨p2, HP2⟩ : ∃ p2, Hid (p2 = q ++ bigB 8 M) := ⟨_, Lib.hid rfl⟩
      rw [← HP2.out] at hown8
      replace hb2 : Hid (p2.length + (uvB D).length ≤ 1073741824) := Lib.hid (by rw [HP2.out, List.length_append]; exact hb2.out)
      have hownd := hown8.drew
      have hs0 := HS.out _ hownd.bel
      clear hown8
      go_region_held3 (fun w' => (w'.cell? (ad.add (j * 4)) = some (.int .i64 m) ∧ w'.cell? ⟨(ad.add (j * 4)).block, (ad.add (j * 4)).off + 1, none⟩ = some (.int .i64 x1) ∧ w'.cell? ⟨(ad.add (j * 4)).block, (ad.add (j * 4)).off + 2, none⟩ = some (.int .i64 ct) ∧ w'.cell? ⟨(ad.add (j * 4)).block, (ad.add (j * 4)).off + 3, none⟩ = some (.int .i64 l)))
        (first | exact hs0 | exact hs1 | exact hs2) (first
        | (go_at_call 29; refine (refuv_any D _ hd).mono ?_; rintro e w9 ⟨A9, c9, rfl, ho9⟩; have hkp := hownd.keep ho9.bel; have hs1 := HS.out _ hkp.bel)
        | (refine step_app rfl (.tmp 30) (.tmp 44) rfl rfl rfl hkp ho9.rd hb2.out ?_; intro v10 w10 hown10 _; have hs2 := HS.out _ hown10.bel))
      all_goals
        clear hs0 hs1 hs2 hkp hownd ho9
        obtain ⟨p4, HP4⟩ : ∃ p4, Hid (p4 = p2 ++ uvB D) := ⟨_, Lib.hid rfl⟩
        rw [← HP4.out] at hown10
        replace hb3 : Hid (p4.length + (uvB C).length ≤ 1073741824) := Lib.hid (by rw [HP4.out, HP2.out, List.length_append, List.length_append]; exact hb3.out)
        obtain ⟨c0, c1, c2, c3⟩ := HS.out _ hown10.bel
        go_wp2_with fail
        refine (refuv_any C w10 hc).mono ?_
        rintro e w11 ⟨A11, c11, rfl, ho11⟩
        go_upto_region 8 with (at_builtin; (refine wpList_app rfl (.tmp 46) (.tmp 53) rfl rfl rfl (hown10.keep ho11.bel) ho11.rd hb3.out ?_; intro v12 w12 hown12))
        clear c0 c1 c2 c3 hown10 ho11
        obtain ⟨p6, HP6⟩ : ∃ p6, Hid (p6 = p4 ++ uvB C) := ⟨_, Lib.hid rfl⟩
        rw [← HP6.out] at hown12
        replace hb4 : Hid (p6.length + (uvB L).length ≤ 1073741824) := Lib.hid (by rw [HP6.out, HP4.out, HP2.out, List.length_append, List.length_append, List.length_append]; exact hb4.out)
        obtain ⟨c0, c1, c2, c3⟩ := HS.out _ hown12.bel
        go_wp2_with fail
        refine (refuv_any L w12 hll).mono ?_
        rintro e w13 ⟨A13, c13, rfl, ho13⟩
        go_wp2_with (at_builtin; (refine wpList_app rfl (.tmp 55) (.tmp 62) rfl rfl rfl (hown12.keep ho13.bel) ho13.rd hb4.out ?_; intro v14 w14 hown14))
        clear c0 c1 c2 c3
        go_roundw
        case rel =>
          refine ⟨j + 1, by omega, by go_num, ?_⟩
          rw [HP6.out, HP4.out, HP2.out] at hown14
          rw [HX.out, ← List.append_assoc, ← HQ.out, HE.out]
          simpa only [List.append_assoc] using hown14
        case measure => simp [intOf]; omega
    · have HQ2 : Hid (q = headB kn es) := Lib.hid (by rw [HQ.out, List.take_of_length_le (by have := HL.out; omega)]; rfl)
      obtain ⟨A6, c6, rfl, hr6⟩ := hown6.form
      have hkn : kn < 256 := by omega
      have hlt32 : crcS q < 4294967296 := crcS_lt (by rw [HQ2.out]; exact headB_lt hkn es)
      have hcrc := rsum_any A6 q.length c6 _ q wr hr6 (by rw [HQ2.out]; exact headB_lt hkn es) (by have := HQL.out; omega)
      have HI : Hid (idxB kn es = q ++ bigB 4 (crcS q)) := Lib.hid (by rw [HQ2.out]; rfl)
      have hbg := fun w => big_any (crcS q) 4 w (by omega) (by omega)
      have hlen : Hid (q.length + (bigB 4 (crcS q)).length ≤ 1073741824) := Lib.hid (by rw [bigB_length]; have := HQL.out; omega)
      generalize hql : q.length = ql at *
      replace hql := Lib.hid hql
      generalize crcS q = cs at *
      have hcw : IntKind.u64.wrap (cs : Int) = (cs : Int) := wrap_le cs (by omega)
      go_wp2_with fail
      refine hcrc.mono ?_
      rintro e w7 ⟨rfl, rfl⟩
      go_wp2_with fail
      refine (hbg _).mono ?_
      rintro e w8 ⟨A8, c8, rfl, ho8⟩
      go_wp2_with (at_builtin; (refine wpList_app rfl (.tmp 64) (.tmp 68) rfl rfl rfl (hown6.keep ho8.bel) ho8.rd (by rw [hql.out]; exact hlen.out) ?_; intro v9 w9 hown9))
      go_ret
      rw [HI.out]
      exact RetB.mk hown9

end Go.Proofs.YtkndoalnlldolaaDoor
