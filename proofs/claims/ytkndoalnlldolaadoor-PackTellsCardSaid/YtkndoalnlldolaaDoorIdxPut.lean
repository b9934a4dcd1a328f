/-
  The contracts of the program's putEntry and Put: an index's bytes, or that it may not be.
-/
import Derived.Test.YtkndoalnlldolaaDoorIdxNum
import Derived.Test.YtkndoalnlldolaaDoorIdxMayBe
import Derived.Test.YtkndoalnlldolaaDoorMagic
import Derived.Test.YtkndoalnlldolaaDoorUvPut
import Derived.Test.YtkndoalnlldolaaDoorCode
import Derived.Lib.SmallJoins
namespace Go.Proofs.YtkndoalnlldolaaDoor
open Go.RowKit

theorem wrap_u64x (x : Int) : IntKind.u64.wrap x = ((u64n x : Nat) : Int) := by
  rw [u64n_is]
  simp [IntKind.wrap, IntKind.bits, IntKind.signed]
theorem wrap_sub (x y : Int) : IntKind.u64.wrap (((u64n x : Nat) : Int) - ((u64n y : Nat) : Int)) = ((u64n (x - y) : Nat) : Int) := by
  rw [wrap_u64x]
  congr 1
  unfold u64n
  omega

/-- a box that is no row of bytes, behind what is kept -/
theorem KeepO.cells {w w' : World} {g : Nat} {cs : Array Value} {t : TypeId} (h : KeepO w w') (hw : w.heap[g]? = some (.cells cs t)) (ht : t ≠ 5) : w'.heap[g]? = some (.cells cs t) := by
  have hlt : g < w.heap.size := by
    rcases Nat.lt_or_ge g w.heap.size with h1 | h1
    · exact h1
    · rw [Array.getElem?_eq_none h1] at hw; cases hw
  rw [h.2 g hlt (fun cs' q e => by rw [hw] at e; injection e with e; injection e with e1 e2; exact ht e2), hw]

set_option maxRecDepth 20000 in
set_option maxHeartbeats 1000000 in
theorem putentry_any (w0 w : World) (A : Option Addr) (n c : Nat) (bs : List Nat) (e : Ent) (hown : Own w0 w (.slice A n c) bs) (hl : bs.length ≤ 900000000) :
    Calls Tryd.prog 25 #[.slice A n c, .agg #[.int .i64 e.mn, .int .i64 e.mx, .int .i64 e.ct, .int .i64 e.ln]] w (RetOB w0 w (bs ++ entB e)) := by
  obtain ⟨m, x, ct, l⟩ := e
  have hw1 := wrap_u64x m
  have hw2 := wrap_u64x x
  have hw3 := wrap_u64x ct
  have hw4 := wrap_u64x l
  have hws := wrap_sub x m
  have HE : Hid (entB ⟨m, x, ct, l⟩ = bigB 8 (u64n m) ++ (uvB (u64n (x - m)) ++ (uvB (u64n ct) ++ uvB (u64n l)))) := Lib.hid rfl
  have hm := u64n_le m
  have hd := u64n_le (x - m)
  have hc := u64n_le ct
  have hll := u64n_le l
  have q1 := uvB_ten _ hd
  have q2 := uvB_ten _ hc
  have q3 := uvB_ten _ hll
  generalize u64n m = M at *
  generalize u64n x = X at *
  generalize u64n (x - m) = D at *
  generalize u64n ct = C at *
  generalize u64n l = L at *
  generalize entB ⟨m, x, ct, l⟩ = EB at *
  obtain ⟨w1, hw⟩ : ∃ w1, w1 = w.alloc (.cells #[.int .i64 m, .int .i64 x, .int .i64 ct, .int .i64 l] 46) := ⟨_, rfl⟩
  have hown1 : Own w0 w1 (.slice A n c) bs := by rw [hw]; exact hown.alloc _
  have HG : Hid (w1.heap[w.heap.size]? = some (.cells #[.int .i64 m, .int .i64 x, .int .i64 ct, .int .i64 l] 46)) := Lib.hid (by rw [hw]; exact heap_alloc_new w _)
  have HK1 : Hid (KeepO w w1) := Lib.hid (KeepO.of_below (by rw [hw]; exact (Below.refl _ _).alloc (Nat.le_refl _) _))
  have HCELL : Hid (∀ w', KeepO w1 w' → w'.cell? ⟨w.heap.size, 0, none⟩ = some (.int .i64 m) ∧ w'.cell? ⟨w.heap.size, 1, none⟩ = some (.int .i64 x) ∧ w'.cell? ⟨w.heap.size, 2, none⟩ = some (.int .i64 ct) ∧ w'.cell? ⟨w.heap.size, 3, none⟩ = some (.int .i64 l)) := Lib.hid (fun w' hk => by
    have hg := hk.cells HG.out (by decide)
    refine ⟨?_, ?_, ?_, ?_⟩ <;> rw [cell_of_row w' w.heap.size _ _ _ _ hg] <;> rfl)
  clear hown
  go_enter Tryd.func25, Tryd.ntmps25
  go_wp2_with fail
  rw [← hw]
  clear hw
  refine (putnum_any w0 w1 A n c bs M 8 hown1 hm (by omega) (by omega)).mono ?_
  rintro e w2 ⟨v2, rfl, hown2, hk2⟩
  obtain ⟨p2, HP2⟩ : ∃ p2, Hid (p2 = bs ++ bigB 8 M) := ⟨_, Lib.hid rfl⟩
  rw [← HP2.out] at hown2
  have hl2 : p2.length = bs.length + 8 := by rw [HP2.out, List.length_append, bigB_length]
  obtain ⟨c0, c1, c2, c3⟩ := HCELL.out w2 hk2
  clear hown1
  have hb2 : p2.length + (uvB D).length ≤ 1073741824 := by omega
  have hb3 : p2.length + (uvB D).length + (uvB C).length ≤ 1073741824 := by omega
  have hb4 : p2.length + (uvB D).length + (uvB C).length + (uvB L).length ≤ 1073741824 := by omega
  replace hl2 := Lib.hid hl2
  replace hb2 := Lib.hid hb2
  replace hb3 := Lib.hid hb3
  replace hb4 := Lib.hid hb4
  clear q1 q2 q3 hl
  go_wp2_with fail
  refine (uput_any D w2 hd).mono ?_
  rintro e w3 ⟨A3, c3', rfl, ho3⟩
  go_upto_region 3 with (at_builtin; (refine wpList_appK rfl (.tmp 10) (.tmp 18) rfl rfl rfl (hown2.keep ho3.bel) ho3.rd hb2.out ?_; intro v4 w4 hown4 hk4))
  have hk5 := (hk2.trans (KeepO.of_below ho3.bel)).trans hk4
  clear c0 c1 c2 c3
  obtain ⟨c0, c1, c2, c3⟩ := HCELL.out w4 hk5
  clear hk4 hk2 hown2 ho3
  obtain ⟨p4, HP4⟩ : ∃ p4, Hid (p4 = p2 ++ uvB D) := ⟨_, Lib.hid rfl⟩
  rw [← HP4.out] at hown4
  replace hb3 : Hid (p4.length + (uvB C).length ≤ 1073741824) := Lib.hid (by rw [HP4.out, List.length_append]; exact hb3.out)
  go_wp2_with fail
  refine (uput_any C w4 hc).mono ?_
  rintro e w5 ⟨A5, c5', rfl, ho5⟩
  go_upto_region 4 with (at_builtin; (refine wpList_appK rfl (.tmp 20) (.tmp 24) rfl rfl rfl (hown4.keep ho5.bel) ho5.rd hb3.out ?_; intro v6 w6 hown6 hk6))
  have hk7 := (hk5.trans (KeepO.of_below ho5.bel)).trans hk6
  clear c0 c1 c2 c3
  obtain ⟨c0, c1, c2, c3⟩ := HCELL.out w6 hk7
  clear hk6 hk5 hown4 ho5
  obtain ⟨p6, HP6⟩ : ∃ p6, Hid (p6 = p4 ++ uvB C) := ⟨_, Lib.hid rfl⟩
  rw [← HP6.out] at hown6
  replace hb4 : Hid (p6.length + (uvB L).length ≤ 1073741824) := Lib.hid (by rw [HP6.out, HP4.out, List.length_append, List.length_append]; exact hb4.out)
  go_wp2_with fail
  refine (uput_any L w6 hll).mono ?_
  rintro e w7 ⟨A7, c7', rfl, ho7⟩
  go_wp2_with (at_builtin; (refine wpList_appK rfl (.tmp 26) (.tmp 30) rfl rfl rfl (hown6.keep ho7.bel) ho7.rd hb4.out ?_; intro v8 w8 hown8 hk8))
  go_ret
  refine ⟨v8, rfl, ?_, (HK1.out.trans ((hk7.trans (KeepO.of_below ho7.bel)).trans hk8))⟩
  rw [HP6.out, HP4.out, HP2.out] at hown8
  rw [HE.out]
  simpa only [List.append_assoc] using hown8

/-- what Put comes to -/
def RetPI (w : World) (k : Int) (es : List Ent) (e : Ending) (w' : World) : Prop :=
  (May k es → ∃ A c, e = .returned (.tuple #[.slice A (idxB k.toNat es).length c, .nilIface]) ∧ Own w w' (.slice A (idxB k.toNat es).length c) (idxB k.toNat es)) ∧
  (¬ May k es → e = .returned (.tuple #[.slice none 0 0, errV 1]) ∧ Below w.heap.size w w')

/-- a loop's relation: the first j entries are laid -/
def AtPutI (w1 : World) (k : Nat) (n : Nat) (es : List Ent) (b i : Value) (wr : World) : Prop :=
  ∃ j : Nat, j ≤ n ∧ i = .int .i64 (j : Int) ∧ Own w1 wr b ([71, 84, 83, 49, k] ++ uvB es.length ++ entsB (es.take j))

set_option maxRecDepth 20000 in
set_option maxHeartbeats 1000000 in
theorem iput_any (k : Int) (A : Option Addr) (n c B : Nat) (es : List Ent) (w : World) (h : RdE w B A n c es) (hB : B ≤ w.heap.size) (hn : n ≤ 9223372036854775807) :
    Calls Tryd.prog 14 #[.agg #[.int .i64 k, .slice A n c]] w (RetPI w k es) := by
  have HL := Lib.hid h.len
  have HB := Lib.hid hB
  obtain ⟨w1, hw1⟩ : ∃ w1, w1 = w.alloc (.cells #[.int .i64 k, .slice A n c] 40) := ⟨_, rfl⟩
  have HW1 := Lib.hid hw1
  have HBW : Hid (Below w.heap.size w w1) := Lib.hid (by rw [hw1]; exact (Below.refl _ _).alloc (Nat.le_refl _) _)
  have HS1 : Hid (w1.heap.size = w.heap.size + 1) := Lib.hid (by rw [hw1]; simp)
  have HH := Lib.hid (h.below (HBW.out.mono hB))
  have HHD : Hid (∀ wr, Below w1.heap.size w1 wr → wr.cell? ⟨w.heap.size, 0, none⟩ = some (.int .i64 k) ∧ wr.cell? ⟨w.heap.size, 1, none⟩ = some (.slice A n c)) := Lib.hid (fun wr hb => head_cells (t := 40) (by rw [← HW1.out]; exact hb))
  have hmb := maybe_any k A n c B es w1 HH.out (by have := HS1.out; omega) hn
  clear h hB hw1
  by_cases hm : May k es
  · have HM := Lib.hid hm
    obtain ⟨kn, rfl⟩ : ∃ kn : Nat, k = (kn : Int) := ⟨k.toNat, by have := hm.1; omega⟩
    have hk : kn = 1 ∨ kn = 2 := by have := hm.1; omega
    have hn6 : n ≤ 65535 := by have := hm.2.1; have := HL.out; omega
    have hwk : IntKind.u8.wrap (kn : Int) = (kn : Int) := by rcases hk with rfl | rfl <;> rfl
    clear hm
    have hmag := mag_conv
    unfold magV at hmag
    go_enter Tryd.func14, Tryd.ntmps14
    go_wp2_with fail
    rw [← HW1.out]
    refine hmb.mono ?_
    rintro e w2 ⟨b, hb, rfl, hb2⟩
    obtain rfl : b = true := hb.2 HM.out
    clear hb
    obtain ⟨hh0, hh1⟩ := HHD.out w2 hb2
    have hmr := mag_rd w2
    unfold magV at hmr
    have hmc := hmag w2
    have hbm := (hb2.alloc hb2.size (.cells #[.int .u8 71, .int .u8 84, .int .u8 83, .int .u8 49] 5 (4, 5)))
    have hh0' : (w2.alloc (.cells #[.int .u8 71, .int .u8 84, .int .u8 83, .int .u8 49] 5 (4, 5))).cell? ⟨w.heap.size, 0, none⟩ = some (.int .i64 (kn : Int)) := (HHD.out _ hbm).1
    have hmr2 := fun o => hmr.below ((Below.refl (w2.heap.size + 1) _).alloc (by simp) o)
    have hbm2 := fun o => hbm.alloc hbm.size o
    have hone := Rd.one (w2.alloc (.cells #[.int .u8 71, .int .u8 84, .int .u8 83, .int .u8 49] 5 (4, 5))) kn
    rw [show (w2.alloc (.cells #[.int .u8 71, .int .u8 84, .int .u8 83, .int .u8 49] 5 (4, 5))).heap.size = w2.heap.size + 1 by simp] at hone
    clear hmr
    go_upto_region 4 with (at_builtin; (refine wpList_magic rfl (.tmp 12) (.tmp 16) rfl rfl rfl (hbm2 _) (hmr2 _) hone ?_; intro v3 w3 hown3))
    clear hmc hmag hh0' hone hmr2 hbm2 hbm hh0 hh1 hmb hb2
    obtain ⟨hh0, hh1⟩ := HHD.out w3 hown3.bel
    have hun : IntKind.u64.wrap (n : Int) = (n : Int) := wrap_le n (by omega)
    go_wp2_with fail
    refine (uput_any n w3 (by omega)).mono ?_
    rintro e w4 ⟨A4, c4, rfl, ho4⟩
    have hl4 := uvB_ten n (by omega)
    have HLB : Hid ((magB ++ [kn]).length + (uvB n).length ≤ 1073741824) := Lib.hid (by simp [magB]; omega)
    go_upto_region 5 with (at_builtin; (refine wpList_app rfl (.tmp 18) (.tmp 23) rfl rfl rfl (hown3.keep ho4.bel) ho4.rd HLB.out ?_; intro v5 w5 hown5))
    clear hh0 hh1 hl4
    obtain ⟨hh0, hh1⟩ := HHD.out w5 hown5.bel
    clear hown3 ho4
    go_wp2_with fail
    clear hh0 hh1
    go_loopw [4, 28] (fun b i wr => AtPutI w1 kn n es b i wr) (fun _ i _ => n - (intOf i).toNat)
    case atStart => exact ⟨0, by omega, rfl, by rw [HL.out]; simpa [magB, entsB] using hown5⟩
    case round =>
      obtain ⟨j, hj, rfl, hown6⟩ := hrel
      obtain ⟨q, HQ⟩ : ∃ q, Hid (q = [71, 84, 83, 49, kn] ++ uvB es.length ++ entsB (es.take j)) := ⟨_, Lib.hid rfl⟩
      rw [← HQ.out] at hown6
      have HQL : Hid (q.length ≤ 5 + 10 + 38 * j) := Lib.hid (by
        rw [HQ.out]
        have h1 := uvB_ten es.length (by have := HL.out; omega)
        have h2 := (entsB_len (es.take j)).1
        rw [List.length_take] at h2
        simp only [List.length_append, List.length_cons, List.length_nil]
        omega)
      by_cases hlt : j < n
      · obtain ⟨ad, rfl, hbb, hc⟩ := (HH.out.below (hown6.bel.mono (by have := HB.out; have := HS1.out; omega))).at_ hlt
        obtain ⟨c0, c1, c2, c3⟩ := hc
        have HX := Lib.hid (entsB_take (es := es) (k := j) (by have := HL.out; omega))
        generalize es.getD j ent0 = x at *
        obtain ⟨A6, c6, rfl, hr6⟩ := hown6.form
        have hpe := putentry_any w1 _ A6 q.length c6 q x (hown6.alloc (.cells #[.int .i64 x.mn, .int .i64 x.mx, .int .i64 x.ct, .int .i64 x.ln] 46)) (by have := HQL.out; omega)
        clear hr6 hown6
        generalize hql : q.length = ql at *
        replace hql := Lib.hid hql
        go_wp2_with fail
        refine hpe.mono ?_
        rintro e w7 ⟨v7, rfl, hown7, _⟩
        go_wp2_with fail
        go_roundw
        case rel => exact ⟨j + 1, by omega, by go_num, by rw [HX.out, ← List.append_assoc, ← HQ.out]; exact hown7⟩
        case measure => simp [intOf]; omega
      · have HQ2 : Hid (q = headB kn es) := Lib.hid (by rw [HQ.out, List.take_of_length_le (by have := HL.out; omega)]; rfl)
        obtain ⟨A6, c6, rfl, hr6⟩ := hown6.form
        have hkn : kn < 256 := by omega
        have hlt32 : crcS q < 4294967296 := crcS_lt (by rw [HQ2.out]; exact headB_lt hkn es)
        have hcrc := sum_any A6 q.length c6 _ q wr hr6 (by rw [HQ2.out]; exact headB_lt hkn es) (by have := HQL.out; omega)
        have HI : Hid (idxB ((kn : Int)).toNat es = q ++ bigB 4 (crcS q)) := Lib.hid (by rw [HQ2.out]; rfl)
        have hpn := putnum_any w1 wr A6 q.length c6 q (crcS q) 4 hown6 (by omega) (by omega) (by have := HQL.out; omega)
        clear hr6 hown6
        generalize hql : q.length = ql at *
        replace hql := Lib.hid hql
        generalize crcS q = cs at *
        have hcw : IntKind.u64.wrap (cs : Int) = (cs : Int) := wrap_le cs (by omega)
        go_wp2_with fail
        refine hcrc.mono ?_
        rintro e w7 ⟨rfl, rfl⟩
        go_wp2_with fail
        refine hpn.mono ?_
        rintro e w8 ⟨v8, rfl, hown8, _⟩
        go_wp2_with fail
        go_ret2
        refine ⟨fun _ => ?_, fun h => absurd HM.out h⟩
        rw [HI.out]
        obtain ⟨A8, c8, rfl, _⟩ := hown8.form
        exact ⟨A8, c8, rfl, hown8.weak HBW.out⟩
  · have HM := Lib.hid hm
    clear hm
    go_enter Tryd.func14, Tryd.ntmps14
    go_wp2_with fail
    rw [← HW1.out]
    refine hmb.mono ?_
    rintro e w2 ⟨b, hb, rfl, hb2⟩
    have hbf : b = false := by
      cases b with
      | true => exact absurd (hb.1 rfl) HM.out
      | false => rfl
    subst hbf
    clear hb
    go_wp2
    go_ret2
    exact ⟨fun h => absurd h HM.out, fun _ => ⟨rfl, HBW.out.trans (hb2.mono (by have := HS1.out; omega))⟩⟩

end Go.Proofs.YtkndoalnlldolaaDoor
