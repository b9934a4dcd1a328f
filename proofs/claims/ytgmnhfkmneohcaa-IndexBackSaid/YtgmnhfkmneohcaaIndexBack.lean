/-
  The law IndexBack, walked: it returns true.
-/
import Derived.Test.YtgmnhfkmneohcaaIdxUp
import Derived.Test.YtgmnhfkmneohcaaIdxList
import Derived.Test.YtgmnhfkmneohcaaStr
import Derived.Test.YtgmnhfkmneohcaaZeros
import Derived.Test.YtgmnhfkmneohcaaLaw0
import Derived.Deep.DeepCutAuto
namespace Go.Proofs.Ytgmnhfkmneohcaa
open Go.RowKit

/-- the Lens together, each of them at most 10000 -/
def sumN (es : List Ent) : Nat := (es.map (fun e => (min (max e.ln 0) 10000).toNat)).sum
theorem sumN_app (p q : List Ent) : sumN (p ++ q) = sumN p + sumN q := by simp [sumN]
theorem sumN_take {es : List Ent} {k : Nat} (h : k < es.length) : sumN (es.take (k + 1)) = sumN (es.take k) + (min (max (es.getD k ent0).ln 0) 10000).toNat := by
  rw [take_getD h, sumN_app]
  simp [sumN]
theorem sumN_le (es : List Ent) : sumN es ≤ 10000 * es.length := by
  induction es with
  | nil => simp [sumN]
  | cons e r ih =>
    have : sumN (e :: r) = (min (max e.ln 0) 10000).toNat + sumN r := by simp [sumN]
    rw [this, List.length_cons]
    omega
theorem sumN_lens : ∀ (es : List Ent), (∀ e ∈ es, 0 ≤ e.ln) → sumN es < 10000 → sumN es = lensN es
  | [], _, _ => rfl
  | e :: r, h, hs => by
    have h1 : sumN (e :: r) = (min (max e.ln 0) 10000).toNat + sumN r := by simp [sumN]
    have h2 : lensN (e :: r) = e.ln.toNat + lensN r := by simp [lensN]
    have h3 := h e (by simp)
    have h4 := sumN_lens r (fun x hx => h x (by simp [hx])) (by omega)
    omega
theorem may_len {k : Int} {es : List Ent} (h : May k es) : ∀ e ∈ es, 0 ≤ e.ln := by
  intro e he
  obtain ⟨j, hj, rfl⟩ := List.getElem_of_mem he
  have := (h.2.2 j hj).1
  have e2 : es.getD j ent0 = es[j] := by simp [List.getD_eq_getElem?_getD, hj]
  rw [e2] at this
  unfold MayE at this
  omega
theorem back_yes {kn : Nat} {es : List Ent} (hk : kn = 1 ∨ kn = 2) (hm : May kn es) (hf : ∀ e ∈ es, FitE e) (z : Nat) (hz : lensN es = z) : getI (idxB kn es ++ List.replicate z 0) = .ok (kn, es, (idxB kn es).length) := by
  rw [getI_put hk hm hf, if_pos (by simpa using hz)]
theorem back_no {kn : Nat} {es : List Ent} (hk : kn = 1 ∨ kn = 2) (hm : May kn es) (hf : ∀ e ∈ es, FitE e) (z : Nat) (hz : lensN es ≠ z) : getI (idxB kn es ++ List.replicate z 0) = .error 8 := by
  rw [getI_put hk hm hf, if_neg (by simpa using hz)]
theorem back_lt {kn : Nat} (hk : kn = 1 ∨ kn = 2) (es : List Ent) (z : Nat) : ∀ x ∈ idxB kn es ++ List.replicate z 0, x < 256 := by
  intro x hx
  rcases List.mem_append.1 hx with h | h
  · exact idx_lt (by omega) es x h
  · have := List.eq_of_mem_replicate h
    omega
theorem idx_len {kn : Nat} {es : List Ent} (h : es.length ≤ 65535) : (idxB kn es).length ≤ 19 + 38 * es.length := by
  have := headB_len kn es (by omega)
  simp only [idxB, List.length_append, bigB_length]
  omega

theorem getI_err {bs : List Nat} {e : Nat} (h : getI bs = .error e) : e ≠ 0 ∧ e ≤ 9 := by
  unfold getI at h
  cases hk : getK bs with
  | error j => rw [hk] at h; injection h with h; rw [← h]; exact getK_err hk
  | ok p =>
    obtain ⟨k, a⟩ := p
    rw [hk] at h
    simp only at h
    cases hl : getL bs a with
    | error j => rw [hl] at h; injection h with h; rw [← h]; exact getL_err hl
    | ok q =>
      obtain ⟨rs, a1⟩ := q
      rw [hl] at h
      simp only at h
      cases hs : getS bs a1 with
      | error j => rw [hs] at h; injection h with h; rw [← h]; exact getS_err hs
      | ok a2 =>
        rw [hs] at h
        simp only at h
        split at h
        · cases h
        · injection h with h; omega

/-- what Put has come to, for what follows -/
def PutGot (w2 w3 : World) (k : Int) (es : List Ent) (x6 ev : Value) : Prop :=
  (May k es ∧ ev = .nilIface ∧ ∃ A c, x6 = .slice A (idxB k.toNat es).length c ∧ Own w2 w3 x6 (idxB k.toNat es)) ∨ ev = .iface 50 (.int .i64 1)
theorem put_got {w2 w3 : World} {k : Int} {es : List Ent} {e : Ending} (h : RetPI w2 k es e w3) : ∃ x6 ev, e = .returned (.tuple #[x6, ev]) ∧ Below w2.heap.size w2 w3 ∧ PutGot w2 w3 k es x6 ev := by
  by_cases hm : May k es
  · obtain ⟨A, c, rfl, ho⟩ := h.1 hm
    exact ⟨_, _, rfl, ho.bel, .inl ⟨hm, rfl, A, c, rfl, ho⟩⟩
  · obtain ⟨rfl, hb⟩ := h.2 hm
    exact ⟨_, _, rfl, hb, .inr rfl⟩

set_option maxRecDepth 40000 in
set_option maxHeartbeats 8000000 in
theorem iback_all (k : Int) (A : Option Addr) (n c : Nat) (es : List Ent) (A1 : Option Addr) (n1 c1 : Nat) (bs : List Nat) (W : World) (h : RdE W W.heap.size A n c es) (hn : n ≤ 9223372036854775807)
    (h1 : Rd W W.heap.size A1 n1 c1 bs) (hb1 : ∀ x ∈ bs, x < 256) (hn1 : n1 ≤ 9223372036854775807) :
    Calls Try.prog 5 #[.agg #[.int .i64 k, .slice A n c], .slice A1 n1 c1] W (RetTrue W) := by
  have HL := Lib.hid h.len
  have HL1 := Lib.hid h1.len
  have HBB := Lib.hid hb1
  have hcap1 := h1.cap
  have HFIT := Lib.hid h.fit
  obtain ⟨w1, hw1⟩ : ∃ w1, w1 = W.alloc (.cells #[.int .i64 k, .slice A n c] 24) := ⟨_, rfl⟩
  have HW1 := Lib.hid hw1
  have HBW : Hid (Below W.heap.size W w1) := Lib.hid (by rw [hw1]; exact (Below.refl _ _).alloc (Nat.le_refl _) _)
  have HS1 : Hid (w1.heap.size = W.heap.size + 1) := Lib.hid (by rw [hw1]; simp)
  have HH : Hid (∀ w', Below w1.heap.size w1 w' → RdE w' W.heap.size A n c es) := Lib.hid (fun w' hb => h.below (HBW.out.trans (hb.mono HBW.out.size)))
  have HR1 : Hid (∀ w', Below w1.heap.size w1 w' → Rd w' W.heap.size A1 n1 c1 bs) := Lib.hid (fun w' hb => h1.below (HBW.out.trans (hb.mono HBW.out.size)))
  have HT : Hid (∀ w', Below w1.heap.size w1 w' → Below W.heap.size W w') := Lib.hid (fun w' hb => HBW.out.trans (hb.mono HBW.out.size))
  have HHD : Hid (∀ wr, Below w1.heap.size w1 wr → wr.cell? ⟨W.heap.size, 0, none⟩ = some (.int .i64 k) ∧ wr.cell? ⟨W.heap.size, 1, none⟩ = some (.slice A n c)) := Lib.hid (fun wr hb => head_cells (t := 24) (by rw [← HW1.out]; exact hb))
  have HSZ : Hid (∀ w', Below w1.heap.size w1 w' → W.heap.size ≤ w'.heap.size) := Lib.hid (fun w' hb => Nat.le_trans HBW.out.size hb.size)
  clear h h1 hb1 hw1
  have hup := up14_any w1
  go_enter Try.func5, Try.ntmps5
  go_wp2_with fail
  rw [← HW1.out]
  refine hup.mono ?_
  rintro e w2 ⟨rfl, hb2⟩
  obtain ⟨c0, c1'⟩ := HHD.out w2 hb2
  clear hup
  by_cases h200 : n ≤ 200
  · by_cases h3000 : n1 ≤ 3000
    · have hput := iput_any k A n c _ es w2 (HH.out w2 hb2) (HSZ.out _ hb2) hn
      go_wp2_with fail
      refine hput.mono ?_
      rintro e w3 hret
      obtain ⟨x6, ev, rfl, hb23, hpg⟩ := put_got hret
      have HPG := Lib.hid hpg
      have hb3 := hb2.trans (hb23.mono hb2.size)
      clear hput hret hpg hb23 c0 c1'
      obtain ⟨c0, c1'⟩ := HHD.out w3 hb3
      go_upto_block 0 with fail
      go_cut [8] (fun x8 wx => wx = w3 ∧ ∃ s : Nat, x8 = .int .i64 (s : Int) ∧ s ≤ 2000000 ∧ (s < 10000 → s = sumN es))
      case first =>
        go_wp2_with fail
        go_loop [8, 9] (fun x i => ∃ j : Nat, j ≤ n ∧ i = .int .i64 (j : Int) ∧ x = .int .i64 ((sumN (es.take j) : Nat) : Int)) (fun _ i => n - (intOf i).toNat)
        case atStart => exact ⟨0, by omega, rfl, rfl⟩
        case round =>
          obtain ⟨j, hj, rfl, rfl⟩ := hrel
          have HSL := Lib.hid (sumN_le (es.take j))
          by_cases hlt : j < n
          · obtain ⟨ad, rfl, _, a0, a1, a2, a3⟩ := (HH.out w3 hb3).at_ hlt
            have HST := Lib.hid (sumN_take (es := es) (k := j) (by have := HL.out; omega))
            have hsl2 : sumN (es.take j) ≤ 2000000 := by have := HSL.out; rw [List.length_take] at this; omega
            generalize sumN (es.take j) = s at *
            generalize es.getD j ent0 = x at *
            obtain ⟨em, ex, ec, el⟩ := x
            simp only at a0 a1 a2 a3
            by_cases hs : s < 10000
            · have hin0 : (0 : Int) ≤ (j : Int) := by omega
              have hin1 : (j : Int) < (n : Int) := by omega
              have hs' : (s : Int) < 10000 := by omega
              replace hs := Lib.hid hs
              clear HSL
              rcases (by omega : el < 0 ∨ (0 ≤ el ∧ el ≤ 10000) ∨ 10000 < el) with he | he | he
              · replace HST : Hid (sumN (es.take (j + 1)) = s) := Lib.hid (by rw [HST.out]; simp only; omega)
                have hm0 : max el 0 = 0 := by omega
                go_wp2_with fail
                exact ⟨⟨j + 1, by omega, by simp, by rw [HST.out]⟩, by simp [intOf]; omega⟩
              · obtain ⟨t, rfl⟩ := Int.eq_ofNat_of_zero_le he.1
                replace HST : Hid (sumN (es.take (j + 1)) = s + t) := Lib.hid (by rw [HST.out]; simp only; omega)
                have hm0 : max (t : Int) 0 = (t : Int) := by omega
                have hm1 : min (t : Int) 10000 = (t : Int) := by omega
                go_wp2_with fail
                exact ⟨⟨j + 1, by omega, by simp, by rw [HST.out]; simp⟩, by simp [intOf]; omega⟩
              · replace HST : Hid (sumN (es.take (j + 1)) = s + 10000) := Lib.hid (by rw [HST.out]; simp only; omega)
                have hm0 : max el 0 = el := by omega
                have hm1 : min el 10000 = 10000 := by omega
                go_wp2_with fail
                exact ⟨⟨j + 1, by omega, by simp, by rw [HST.out]; simp⟩, by simp [intOf]; omega⟩
            · have hs' : ¬ ((s : Int) < 10000) := by omega
              replace hs := Lib.hid hs
              go_wp2_with fail
              go_meet
              exact ⟨rfl, s, rfl, hsl2, fun h => absurd h hs.out⟩
          · have hsl2 : sumN (es.take j) ≤ 2000000 := by have := HSL.out; rw [List.length_take] at this; omega
            have hse : sumN (es.take j) = sumN es := by rw [List.take_of_length_le (by have := HL.out; omega)]
            replace hse := Lib.hid hse
            generalize sumN (es.take j) = s at *
            go_wp2_with fail
            go_meet
            exact ⟨rfl, s, rfl, hsl2, fun _ => hse.out⟩
      case rest =>
        obtain ⟨hwx, s, rfl, hs2, hsn⟩ := hcut
        replace hwx := hwx.symm
        subst hwx
        have HSN := Lib.hid hsn
        clear hsn c0 c1'
        have tri : ev = .iface 50 (.int .i64 1) ∨ (¬ s < 10000 ∧ ev = .nilIface) ∨ (s < 10000 ∧ ev = .nilIface ∧ May k es ∧ ∃ A6 c6, x6 = .slice A6 (idxB k.toNat es).length c6 ∧ Own w2 w3 (.slice A6 (idxB k.toNat es).length c6) (idxB k.toNat es)) := by
          rcases HPG.out with ⟨hm, he, A6, c6, hx, ho⟩ | he
          · by_cases hs : s < 10000
            · exact .inr (.inr ⟨hs, he, hm, A6, c6, hx, by rw [← hx]; exact ho⟩)
            · exact .inr (.inl ⟨hs, he⟩)
          · exact .inl he
        clear HPG
        rcases tri with he | ⟨hs, he⟩ | ⟨hs, he, hm, A6, c6, hx, ho6⟩
        case' inl =>
          subst he
          go_upto_region 19 with fail
          have hbx := hb3
        case' inr.inl =>
          subst he
          have hs' : ¬ ((s : Int) < 10000) := by omega
          replace hs := Lib.hid hs
          go_upto_region 19 with fail
          have hbx := hb3
        case' inr.inr =>
          subst he hx
          obtain ⟨kn, rfl⟩ : ∃ kn : Nat, k = (kn : Int) := ⟨k.toNat, by have := hm.1; omega⟩
          have hk : kn = 1 ∨ kn = 2 := by have := hm.1; omega
          rw [show ((kn : Int)).toNat = kn by omega] at ho6 ⊢
          have hsl : lensN es = s := by
            have h1 := HSN.out hs
            rw [h1, sumN_lens es (may_len hm) (by omega)]
          have HY := Lib.hid (back_yes hk hm HFIT.out s hsl)
          have HN1 := Lib.hid (back_no hk hm HFIT.out (s + 1) (by omega))
          have HN2 := Lib.hid (fun h : 0 < s => back_no hk hm HFIT.out (s - 1) (by omega))
          have HBL := Lib.hid (back_lt hk es)
          have hil := idx_len (kn := kn) (es := es) (by have := HL.out; omega)
          have hil2 : (idxB kn es).length ≤ 8000 := by have := HL.out; omega
          have hr6 := ho6.rd
          have hcap6 := hr6.cap
          have HML : Hid (es.length = n) := HL
          obtain ⟨p, HP⟩ : ∃ p, Hid (idxB kn es = p) := ⟨_, Lib.hid rfl⟩
          rw [HP.out] at HY HN1 HN2 HBL hr6 hil2 hcap6 ⊢
          obtain ⟨L, HPL⟩ : ∃ L, Hid (p.length = L) := ⟨_, Lib.hid rfl⟩
          rw [HPL.out] at HY hr6 hil2 hcap6 ⊢
          replace hsl := Lib.hid hsl
          clear ho6 hil hm
          -- region 11
          have hw4 : Below w3.heap.size w3 (w3.alloc (.cells #[] 5)) := (Below.refl _ _).alloc (Nat.le_refl _) _
          have hl0 := Own.lit0 (w0 := w3) (w := w3) (Below.refl _ _)
          have hr6a := hr6.below hw4
          have hp0 : ([] : List Nat).length + L ≤ 1073741824 := by simp; omega
          have hget : ∀ (z : Nat) (r : Except Nat (Nat × List Ent × Nat)), z ≤ 10001 → getI (p ++ List.replicate z 0) = r → ∃ (q : List Nat) (M : Nat), Hid (p ++ List.replicate z 0 = q) ∧ Hid (q.length = M) ∧
              (∀ (w0 w' : World) (A' : Option Addr) (c' : Nat), Own w0 w' (.slice A' M c') q → Calls Try.prog 14 #[.slice A' M c'] w' (RetI w' r)) :=
            fun z r hz hr => ⟨_, _, Lib.hid rfl, Lib.hid rfl, fun w0 w' A' c' ho => by
              have := iget_any A' _ c' _ _ w' ho.rd (Nat.le_refl _) (HBL.out z) (by rw [List.length_append, HPL.out, List.length_replicate]; omega)
              rwa [hr] at this⟩
          obtain ⟨q0, M0, HQ0, HM0, hget0⟩ := hget s _ (by omega) HY.out
          obtain ⟨q1, M1, HQ1, HM1, hget1⟩ := hget (s + 1) _ (by omega) HN1.out
          have hget2 := Lib.hid (fun h : 0 < s => hget (s - 1) _ (by omega) (HN2.out h))
          have hp1s : p.length + s ≤ 1073741824 := by rw [HPL.out]; omega
          have hp1t : p.length + (s + 1) ≤ 1073741824 := by rw [HPL.out]; omega
          have hp1u : p.length + (s - 1) ≤ 1073741824 := by rw [HPL.out]; omega
          have hs' : (s : Int) < 10000 := by omega
          have hso : ((s : Int) + 1) = ((s + 1 : Nat) : Int) := by omega
          replace hs := Lib.hid hs
          replace hso := Lib.hid hso
          clear hget HY HN1 HN2 HBL
          go_wp2_with (at_builtin; first
            | (refine wpList_app rfl (.tmp 68) (.tmp 69) rfl rfl rfl hl0 hr6a hp0 ?_; intro v5 w5 ho5; rw [List.nil_append] at ho5)
            | (refine wpList_zeros rfl (.tmp 70) (.tmp 71) rfl s rfl rfl rfl ho5 hp1s ?_; intro v6 w6 ho6 hgg; clear hgg; rw [HQ0.out] at ho6; obtain ⟨A7, c7, rfl, hf7⟩ := ho6.form; clear hf7; rw [HM0.out] at ho6 ⊢))
          refine (hget0 _ _ _ _ ho6).mono ?_
          rintro e w7 ⟨A8, c8, rfl, ho8⟩
          rw [HL.out] at ho8 ⊢
          have hb7 : Below w3.heap.size w3 w7 := ho6.bel.trans (ho8.bel.mono ho6.bel.size)
          have hb8 : Below w7.heap.size w7 (w7.alloc (.cells #[.int .i64 (kn : Int), .slice A8 n c8] 24)) := (Below.refl _ _).alloc (Nat.le_refl _) _
          have hr8 := ho8.rd.below hb8
          have hbox := BoxL.new w7 [.int .i64 (kn : Int), .slice A8 n c8] 24
          clear ho5 ho6 ho8 hl0 hr6a hw4 hget0
          go_upto_region 12 with fail
          obtain ⟨w8, HW8⟩ : ∃ w8, Hid (w8 = w7.alloc (.cells #[.int .i64 (kn : Int), .slice A8 n c8] 24)) := ⟨_, Lib.hid rfl⟩
          rw [← HW8.out] at hb8 hr8 ⊢
          replace hbox : BoxL w8 w7.heap.size [.int .i64 (kn : Int), .slice A8 n c8] := by rw [HW8.out]; exact hbox
          have hb9 := hb7.trans (hb8.mono hb7.size)
          have hr6b := hr6.below hb9
          have hw4 : Below w8.heap.size w8 (w8.alloc (.cells #[] 5)) := (Below.refl _ _).alloc (Nat.le_refl _) _
          have hl0 := Own.lit0 (w0 := w8) (w := w8) (Below.refl _ _)
          have hr6a := hr6b.below (hw4.mono hb9.size)
          clear hb7 hb8
          go_wp2_with (at_builtin; first
            | (refine wpList_app rfl (.tmp 78) (.tmp 79) rfl rfl rfl hl0 hr6a hp0 ?_; intro v5 w5 ho5; rw [List.nil_append] at ho5)
            | (refine wpList_zeros rfl (.tmp 80) (.tmp 82) rfl (s + 1) rfl rfl hso.out ho5 hp1t ?_; intro v6 w6 ho6 hgg; clear hgg; rw [HQ1.out] at ho6; obtain ⟨A7, c7, rfl, hf7⟩ := ho6.form; clear hf7; rw [HM1.out] at ho6 ⊢))
          refine (hget1 _ _ _ _ ho6).mono ?_
          rintro e w10 ⟨rfl, hb10⟩
          rw [show errV 8 = .iface 50 (.int .i64 8) from rfl]
          have hb11 : Below w8.heap.size w8 w10 := ho6.bel.trans (hb10.mono ho6.bel.size)
          replace hb11 := hb11.alloc hb11.size (.cells #[.int .i64 0, .slice none 0 0] 24)
          clear ho5 ho6 hl0 hr6a hw4 hget1 hb10 hr6b
          go_upto_region 13 with fail
          obtain ⟨w11, HW11⟩ : ∃ w11, Hid (w11 = w10.alloc (.cells #[.int .i64 0, .slice none 0 0] 24)) := ⟨_, Lib.hid rfl⟩
          rw [← HW11.out] at hb11 ⊢
          have hb3d : Below w1.heap.size w1 w11.drew := (hb3.trans ((hb9.trans (hb11.mono hb9.size)).mono hb3.size)).drew
          have HKEEP : Hid (∀ w', Below w11.drew.heap.size w11.drew w' → (w'.cell? ⟨w7.heap.size, 0, none⟩ = some (.int .i64 (kn : Int)) ∧ w'.cell? ⟨w7.heap.size, 1, none⟩ = some (.slice A8 n c8)) ∧ (w'.cell? ⟨W.heap.size, 0, none⟩ = some (.int .i64 (kn : Int)) ∧ w'.cell? ⟨W.heap.size, 1, none⟩ = some (.slice A n c))) := Lib.hid (fun w' hb =>
            ⟨(((hbox.below hb11).drew).below hb).get2, HHD.out w' (hb3d.trans (hb.mono hb3d.size))⟩)
          have h711 : w7.heap.size ≤ w11.drew.heap.size := Nat.le_trans (show w7.heap.size ≤ w8.heap.size by rw [HW8.out]; simp) hb11.size
          have hr11 := (hr8.below (hb11.mono (show w7.heap.size ≤ w8.heap.size by rw [HW8.out]; simp))).drew
          have hk0 := HKEEP.out _ (Below.refl _ _)
          have hlx := fun w' (hb : Below w11.drew.heap.size w11.drew w') => list_any A8 n c8 _ es w' (hr11.below (hb.mono h711)) (Nat.le_trans h711 hb.size) (by omega)
          have hly := fun w' (hb : Below w11.drew.heap.size w11.drew w') => list_any A n c _ es w' (HH.out w' (hb3d.trans (hb.mono hb3d.size))) (HSZ.out _ (hb3d.trans (hb.mono hb3d.size))) (by omega)
          have hcd := fun w' => code_any 8 w' (by omega)
          rw [show errV 8 = .iface 50 (.int .i64 8) from rfl] at hcd
          have hel : Hid (es.length ≤ 100000) := Lib.hid (by rw [HL.out]; omega)
          have hbc := Below.refl w11.drew.heap.size w11.drew
          go_cut [117] (fun x wx => x = .bool false ∧ Below w11.drew.heap.size w11.drew wx)
          case first =>
            go_region_held3 (fun w' => (w'.cell? ⟨w7.heap.size, 0, none⟩ = some (.int .i64 (kn : Int)) ∧ w'.cell? ⟨w7.heap.size, 1, none⟩ = some (.slice A8 n c8)) ∧ (w'.cell? ⟨W.heap.size, 0, none⟩ = some (.int .i64 (kn : Int)) ∧ w'.cell? ⟨W.heap.size, 1, none⟩ = some (.slice A n c))) (first | exact hk0 | exact hkx | exact hky | exact hks) (first
              | (go_at_call_of 9 A8; refine (hlx _ hbc).mono ?_; rintro e w5 ⟨A9, c9, rfl, ho9⟩; have rx := ho9.rd; (try replace ry := (ry.below ho9.bel).more ho9.bel.size); replace hbc := hbc.trans (ho9.bel.mono hbc.size); have hkx := HKEEP.out _ hbc)
              | (go_at_call_of 9 A; refine (hly _ hbc).mono ?_; rintro e w5 ⟨A10, c10, rfl, ho10⟩; have ry := ho10.rd; (try replace rx := (rx.below ho10.bel).more ho10.bel.size); replace hbc := hbc.trans (ho10.bel.mono hbc.size); have hky := HKEEP.out _ hbc)
              | (go_at_call 16; refine (same_is _ _ _ _ _ es _ rx ry hel.out).mono ?_; rintro e w6 ⟨rfl, hb6⟩; replace hbc := hbc.trans (hb6.mono hbc.size); have hks := HKEEP.out _ hbc)
              | (go_at_call 10; refine (hcd _).mono ?_; rintro e w6 ⟨rfl, rfl⟩))
            all_goals
              go_wp2_with fail
              go_meet
              exact ⟨rfl, hbc⟩
          case' rest =>
            obtain ⟨rfl, hbd⟩ := hcut
            have hb12 := hb3d.trans (hbd.mono hb3d.size)
            have hb12c := hb9.trans ((hb11.drew.trans (hbd.mono hb11.size)).mono hb9.size)
            clear hlx hly hcd hk0 hr11 hbox hr8 hb11 hb3d hbd h711
            rcases Nat.eq_zero_or_pos s with hz | hz
            case' inl =>
              subst hz
              go_upto_region 19 with fail
              have hbx := hb12
            case' inr =>
              obtain ⟨q2, M2, HQ2, HM2, hget⟩ := hget2.out hz
              replace hget := Lib.hid hget
              replace hp1u := Lib.hid hp1u
              have hz' : (0 : Int) < (s : Int) := by omega
              go_upto_region 16 with fail
              clear hz'
              have hsm : ((s : Int) - 1) = ((s - 1 : Nat) : Int) := by omega
              replace hsm := Lib.hid hsm
              replace hz := Lib.hid hz
              have hr6b := hr6.below hb12c
              have hw4 : Below wc.heap.size wc (wc.alloc (.cells #[] 5)) := (Below.refl _ _).alloc (Nat.le_refl _) _
              have hl0 := Own.lit0 (w0 := wc) (w := wc) (Below.refl _ _)
              have hr6a := hr6b.below (hw4.mono hb12c.size)
              have hcd := fun w' => code_any 8 w' (by omega)
              rw [show errV 8 = .iface 50 (.int .i64 8) from rfl] at hcd
              replace hcd := Lib.hid hcd
              go_wp2_with (at_builtin; first
                | (refine wpList_app rfl (.tmp 121) (.tmp 122) rfl rfl rfl hl0 hr6a hp0 ?_; intro v5 w5 ho5; rw [List.nil_append] at ho5)
                | (refine wpList_zeros rfl (.tmp 123) (.tmp 125) rfl (s - 1) rfl rfl hsm.out ho5 hp1u.out ?_; intro v6 w6 ho6 hgg; clear hgg; rw [HQ2.out] at ho6; obtain ⟨A7, c7, rfl, hf7⟩ := ho6.form; clear hf7; rw [HM2.out] at ho6 ⊢))
              refine (hget.out _ _ _ _ ho6).mono ?_
              rintro e w13 ⟨rfl, hb13⟩
              rw [show errV 8 = .iface 50 (.int .i64 8) from rfl]
              have hb14 : Below wc.heap.size wc w13 := ho6.bel.trans (hb13.mono ho6.bel.size)
              replace hb14 := hb14.alloc hb14.size (.cells #[.int .i64 0, .slice none 0 0] 24)
              clear ho5 ho6 hl0 hr6a hw4 hget hb13 hr6b
              go_upto_region 19 with (go_at_call 10; refine (hcd.out _).mono ?_; rintro e w6 ⟨rfl, rfl⟩)
              have hbx := hb12.trans (hb14.mono hb12.size)
        all_goals
          have hgb := iget_any A1 n1 c1 _ bs _ (HR1.out _ hbx) (HSZ.out _ hbx) HBB.out (by omega)
          cases hgi : getI bs with
          | error j =>
            have HJ := Lib.hid (getI_err hgi).1
            rw [hgi] at hgb
            clear hgi
            go_wp2_with fail
            refine hgb.mono ?_
            rintro e wy ⟨rfl, hby⟩
            rw [errV_no HJ.out]
            have hbz := hbx.trans (hby.mono hbx.size)
            go_wp2_with fail
            go_ret
            exact ⟨rfl, HT.out _ (hbz.alloc hbz.size _)⟩
          | ok r =>
            obtain ⟨k2, es2, n2⟩ := r
            obtain ⟨hm2, _, hn2, hidx⟩ := getI_back HBB.out hgi
            rw [hgi] at hgb
            clear hgi
            have hn2' : n2 ≤ n1 := by rw [← HL1.out]; exact hn2
            have HTL : Hid ((bs.take n2).length = n2) := Lib.hid (by rw [List.length_take]; omega)
            have hel2 := hm2.2.1
            have HM2 := Lib.hid hm2
            have HIX := Lib.hid hidx
            obtain ⟨m2, HML2⟩ : ∃ m2, Hid (es2.length = m2) := ⟨_, Lib.hid rfl⟩
            clear hm2 hidx hn2
            go_wp2_with fail
            refine hgb.mono ?_
            rintro e wy ⟨A12, c12, rfl, ho12⟩
            rw [HML2.out] at ho12 hel2 ⊢
            have hbz := hbx.trans (ho12.bel.mono hbx.size)
            have hal : Below wy.heap.size wy (wy.alloc (.cells #[.int .i64 (k2 : Int), .slice A12 m2 c12] 24)) := (Below.refl _ _).alloc (Nat.le_refl _) _
            have hpt := iput_any (k2 : Int) A12 m2 c12 _ es2 _ (ho12.rd.below hal) hal.size (by omega)
            have hbz2 := hbz.trans (hal.mono hbz.size)
            clear ho12 hbz hal hgb hbx
            go_wp2_with fail
            refine hpt.mono ?_
            rintro e wp hret
            obtain ⟨A13, c13, rfl, ho13⟩ := hret.1 HM2.out
            rw [show ((k2 : Int)).toNat = k2 by omega, HIX.out] at ho13 ⊢
            rw [HTL.out] at ho13 ⊢
            have hbp := hbz2.trans (ho13.bel.mono hbz2.size)
            obtain ⟨S, HS⟩ : ∃ S, Hid (S = strB (bs.take n2)) := ⟨_, Lib.hid rfl⟩
            have hs1 := fun q => run_str (ho13.rd.drewN q)
            have hs2' := fun q => run_str (((HR1.out _ hbp).cutHead hn2').drewN q)
            rw [← HS.out] at hs1 hs2'
            have hSS : (S.toList == S.toList) = true := by simp
            have hmn : min (n2 : Int) (n1 : Int) = (n2 : Int) := by omega
            have hmx : max (n2 : Int) 0 = (n2 : Int) := by omega
            have hnn : (n2 : Int) ≤ (n1 : Int) := by omega
            clear hret ho13 hpt hbz2
            go_upto_region 23 with fail
            go_quiet (fail)
            go_wp2_with fail
            go_ret
            exact ⟨rfl, HT.out _ (below_drewN hbp _)⟩
    · have h3000' : (3000 : Int) < (n1 : Int) := by omega
      go_wp2_with fail
      go_ret
      exact ⟨rfl, HT.out _ hb2⟩
  · have h200' : (200 : Int) < (n : Int) := by omega
    go_wp2_with fail
    go_ret
    exact ⟨rfl, HT.out _ hb2⟩

end Go.Proofs.Ytgmnhfkmneohcaa
