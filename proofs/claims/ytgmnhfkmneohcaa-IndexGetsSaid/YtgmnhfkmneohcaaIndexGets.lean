/-
  The law IndexGets, walked: it returns true.
-/
import Derived.Test.YtgmnhfkmneohcaaIdxUp
import Derived.Test.YtgmnhfkmneohcaaIdxRGet
import Derived.Test.YtgmnhfkmneohcaaPick
import Derived.Test.YtgmnhfkmneohcaaLaw0
import Derived.Deep.DeepCutAuto
namespace Go.Proofs.Ytgmnhfkmneohcaa
open Go.RowKit

theorem getI_errs {bs : List Nat} {e : Nat} (h : getI bs = .error e) : e ≠ 0 ∧ e ≤ 9 := by
  unfold getI at h
  cases hk : getK bs with
  | error j => rw [hk] at h; injection h with h; rw [← h]; exact getK_err hk
  | ok p =>
    obtain ⟨k, a⟩ := p
    rw [hk] at h
    simp only at h
    cases hl : getL bs a with
    | error j => rw [hl] at h; injection h with h; rw [← h]; exact getL_err hl
    | ok q =>
      obtain ⟨rs, a1⟩ := q
      rw [hl] at h
      simp only at h
      cases hs : getS bs a1 with
      | error j => rw [hs] at h; injection h with h; rw [← h]; exact getS_err hs
      | ok a2 =>
        rw [hs] at h
        simp only at h
        split at h
        · cases h
        · injection h with h; omega
theorem getI_many {bs : List Nat} (hb : ∀ x ∈ bs, x < 256) {k : Nat} {es : List Ent} {n : Nat} (h : getI bs = .ok (k, es, n)) : es.length ≤ 65535 := (getI_back hb h).1.2.1

/-- bytes, some of them laid anew -/
theorem set_lt {bs : List Nat} (h : ∀ x ∈ bs, x < 256) {j v : Nat} (hv : v < 256) : ∀ x ∈ bs.set j v, x < 256 := by
  intro x hx
  rcases List.mem_or_eq_of_mem_set hx with h1 | rfl
  · exact h x h1
  · exact hv

set_option maxRecDepth 40000 in
set_option maxHeartbeats 4000000 in
theorem igets_all (A : Option Addr) (n c : Nat) (bs : List Nat) (fresh : Bool) (en : Int) (W : World) (h : Rd W W.heap.size A n c bs) (hb : ∀ x ∈ bs, x < 256) (hn : n ≤ 9223372036854775807)
    (_hen : -9223372036854775808 ≤ en ∧ en ≤ 9223372036854775807) :
    Calls Try.prog 4 #[.slice A n c, .bool fresh, .int .i64 en] W (RetTrue W) := by
  have HL := Lib.hid h.len
  have hup := up14_any W
  by_cases h3 : n ≤ 3000
  · have hcap := h.cap
    have HBB := Lib.hid hb
    have HR := Lib.hid h
    have hpk := fun w' => pick_any en ((n : Int) + 1) w' (by omega) (by omega)
    obtain ⟨r, HRR⟩ : ∃ r : Nat, Hid (en % ((n : Int) + 1) = (r : Int)) := ⟨(en % ((n : Int) + 1)).toNat, Lib.hid (by
      have := Int.emod_nonneg en (show (n : Int) + 1 ≠ 0 by omega)
      omega)⟩
    have hrn : r ≤ n := by
      have := Int.emod_lt_of_pos en (show (0 : Int) < (n : Int) + 1 by omega)
      have := HRR.out
      omega
    rw [HRR.out] at hpk
    clear h hb
    go_enter Try.func4, Try.ntmps4
    go_wp2_with fail
    refine hup.mono ?_
    rintro e w1 ⟨rfl, hb1⟩
    have hr1 := HR.out.below hb1
    have hw1 : Below w1.heap.size w1 (w1.alloc (.cells #[] 5)) := (Below.refl _ _).alloc (Nat.le_refl _) _
    have hl0 := Own.lit0 (w0 := w1) (w := w1) (Below.refl _ _)
    have hr1a := hr1.below (hw1.mono hb1.size)
    have hp0 : ([] : List Nat).length + n ≤ 1073741824 := by simp; omega
    clear hup
    go_upto_region 5 with (at_builtin; (refine wpList_app rfl (.tmp 23) (.tmp 24) rfl rfl rfl hl0 hr1a hp0 ?_; intro v2 w2 ho2; rw [List.nil_append] at ho2))
    clear hl0 hr1a hw1 hp0
    obtain ⟨A8, c8, rfl, hf8⟩ := ho2.form
    clear hf8
    rw [HL.out] at ho2 ⊢
    have hb2 := hb1.trans (ho2.bel.mono hb1.size)
    go_wp2_with fail
    refine (hpk _).mono ?_
    rintro e w3 ⟨rfl, hww⟩
    subst hww
    clear hpk
    go_upto_region 6 with fail
    have tri : fresh = false ∨ (fresh = true ∧ ¬ r + 4 ≤ n) ∨ (fresh = true ∧ r + 4 ≤ n) := by
      cases fresh
      · exact .inl rfl
      · by_cases hh : r + 4 ≤ n
        · exact .inr (.inr ⟨rfl, hh⟩)
        · exact .inr (.inl ⟨rfl, hh⟩)
    rcases tri with hf | ⟨hf, h4⟩ | ⟨hf, h4⟩
    case' inl =>
      subst hf
      go_upto_region 12 with fail
      obtain ⟨cs, HCS⟩ : ∃ cs, Hid (cs = bs) := ⟨_, Lib.hid rfl⟩
      rw [← HCS.out] at ho2
      have HCL : Hid (cs.length = n) := Lib.hid (by rw [HCS.out]; exact HL.out)
      have HCB : Hid (∀ x ∈ cs, x < 256) := Lib.hid (by rw [HCS.out]; exact HBB.out)
      have hox := ho2
    case' inr.inl =>
      subst hf
      have h4' : ¬ ((r : Int) + 4 ≤ (n : Int)) := by omega
      go_upto_region 12 with fail
      obtain ⟨cs, HCS⟩ : ∃ cs, Hid (cs = bs) := ⟨_, Lib.hid rfl⟩
      rw [← HCS.out] at ho2
      have HCL : Hid (cs.length = n) := Lib.hid (by rw [HCS.out]; exact HL.out)
      have HCB : Hid (∀ x ∈ cs, x < 256) := Lib.hid (by rw [HCS.out]; exact HBB.out)
      have hox := ho2
    case' inr.inr =>
      subst hf
      have h4' : (r : Int) + 4 ≤ (n : Int) := by omega
      obtain ⟨g, cap, hv, _, _⟩ := ho2.row.form (by rw [HL.out]; omega)
      injection hv with hv1 hv2 hv3
      subst hv1
      clear hv2 hv3
      have hrb := (HR.out.below hb2).cutHead hrn
      have hbh : ∀ x ∈ bs.take r, x < 256 := fun x hx => HBB.out x (List.mem_of_mem_take hx)
      have hsm := rsum_any A r c _ _ w2 hrb hbh (by omega)
      have hs32 := crcS_lt hbh
      generalize crcS (bs.take r) = s at *
      clear hrb hbh
      have i0 : (r : Int) < (n : Int) := by omega
      have i1 : (r : Int) + 1 < (n : Int) := by omega
      have i2 : (r : Int) + 2 < (n : Int) := by omega
      have i3 : (r : Int) + 3 < (n : Int) := by omega
      have j0 : (0 : Int) ≤ (r : Int) := by omega
      go_wp2_with fail
      refine hsm.mono ?_
      rintro e w4 ⟨rfl, hww⟩
      subst hww
      clear hsm
      have hc0 := ho2.cell r (by omega)
      have hf0 := ho2.free r
      go_upto_region 9 with fail
      have x0 : s / 16777216 < 256 := by omega
      have ho3 := ho2.set r (s / 16777216)
      rw [show (((s / 16777216 : Nat)) : Int) = (s : Int) / 16777216 by simp] at ho3
      obtain ⟨b3, HB3⟩ : ∃ b3, Hid (b3 = bs.set r (s / 16777216)) := ⟨_, Lib.hid rfl⟩
      rw [← HB3.out] at ho3
      clear hc0 hf0 ho2 hb2
      generalize w2.setCell ⟨g, r, none⟩ (.int .u8 ((s : Int) / 16777216)) = w5 at *
      have hc1 := ho3.cell (r + 1) (by omega)
      have hf1 := ho3.free (r + 1)
      go_upto_region 10 with fail
      have x1 : s / 65536 % 256 < 256 := by omega
      have ho4 := ho3.set (r + 1) (s / 65536 % 256)
      rw [show (((s / 65536 % 256 : Nat)) : Int) = (s : Int) / 65536 % 256 by simp] at ho4
      obtain ⟨b4, HB4⟩ : ∃ b4, Hid (b4 = b3.set (r + 1) (s / 65536 % 256)) := ⟨_, Lib.hid rfl⟩
      rw [← HB4.out] at ho4
      clear hc1 hf1 ho3
      generalize w5.setCell ⟨g, r + 1, none⟩ (.int .u8 ((s : Int) / 65536 % 256)) = w6 at *
      have hc2 := ho4.cell (r + 2) (by omega)
      have hf2 := ho4.free (r + 2)
      go_upto_region 11 with fail
      have x2 : s / 256 % 256 < 256 := by omega
      have ho5 := ho4.set (r + 2) (s / 256 % 256)
      rw [show (((s / 256 % 256 : Nat)) : Int) = (s : Int) / 256 % 256 by simp] at ho5
      obtain ⟨b5, HB5⟩ : ∃ b5, Hid (b5 = b4.set (r + 2) (s / 256 % 256)) := ⟨_, Lib.hid rfl⟩
      rw [← HB5.out] at ho5
      clear hc2 hf2 ho4
      generalize w6.setCell ⟨g, r + 2, none⟩ (.int .u8 ((s : Int) / 256 % 256)) = w7 at *
      have hc3 := ho5.cell (r + 3) (by omega)
      have hf3 := ho5.free (r + 3)
      go_upto_region 12 with fail
      have x3 : s % 256 < 256 := by omega
      have ho6 := ho5.set (r + 3) (s % 256)
      rw [show (((s % 256 : Nat)) : Int) = (s : Int) % 256 by simp] at ho6
      obtain ⟨cs, HCS⟩ : ∃ cs, Hid (cs = b5.set (r + 3) (s % 256)) := ⟨_, Lib.hid rfl⟩
      rw [← HCS.out] at ho6
      have HCL : Hid (cs.length = n) := Lib.hid (by rw [HCS.out, HB5.out, HB4.out, HB3.out]; simpa using HL.out)
      have HCB : Hid (∀ x ∈ cs, x < 256) := Lib.hid (by rw [HCS.out, HB5.out, HB4.out, HB3.out]; exact set_lt (set_lt (set_lt (set_lt HBB.out x0) x1) x2) x3)
      clear hc3 hf3 ho5 x0 x1 x2 x3 hs32 i0 i1 i2 i3 j0 h4'
      generalize w7.setCell ⟨g, r + 3, none⟩ (.int .u8 ((s : Int) % 256)) = w8 at *
      have hox := ho6
    all_goals
      have hbx := hb1.trans (hox.bel.mono hb1.size)
      have hget := iget_any _ n _ _ cs _ hox.rd (Nat.le_refl _) HCB.out (by omega)
      cases hgi : getI cs with
      | error j =>
        have HJ := Lib.hid (getI_errs hgi).1
        have hj9 := (getI_errs hgi).2
        rw [hgi] at hget
        go_wp2_with fail
        refine hget.mono ?_
        rintro e y6 ⟨rfl, hb6⟩
        rw [errV_no HJ.out]
        have hb6a := hb6.alloc hb6.size (.cells #[.int .i64 0, .slice none 0 0] 24)
        have hrx := hox.rd.below hb6a
        have hrg := rgeti_any _ n _ _ cs _ hrx hb6a.size HCB.out (by omega)
        rw [hgi] at hrg
        have hbz := hbx.trans (hb6a.mono hbx.size)
        clear hgi hget hox hrx hb6 hb6a
        go_wp2_with fail
        refine hrg.mono ?_
        rintro e y8 ⟨rfl, hb8⟩
        obtain ⟨c0, c1, _, _⟩ := two_new hb8
        have hby := hbz.trans (hb8.mono hbz.size)
        have hl := list_any none 0 0 0 [] y8 RdE.nil_ (Nat.zero_le _) (by omega)
        have hcd := fun w' => code_any j w' hj9
        rw [errV_no HJ.out] at hcd
        clear hrg hbz hb8
        go_wp2_with (first
          | (go_at_call 9; refine hl.mono ?_; rintro e y9 ⟨A9, c9, rfl, ho9⟩; have hsm := same_is A9 none 0 c9 0 [] y9 ho9.rd RdE.nil_ (by omega); simp only [List.length_nil])
          | (go_at_call 16; refine hsm.mono ?_; rintro e y10 ⟨rfl, hb10⟩)
          | (go_at_call 10; refine (hcd _).mono ?_; rintro e y11 ⟨rfl, rfl⟩))
        go_ret
        have hb9 := hby.trans (ho9.bel.mono hby.size)
        exact ⟨rfl, hb9.trans (hb10.mono hb9.size)⟩
      | ok q =>
        obtain ⟨k, es, n2⟩ := q
        have hem := getI_many HCB.out hgi
        rw [hgi] at hget
        obtain ⟨m, HM⟩ : ∃ m, Hid (es.length = m) := ⟨_, Lib.hid rfl⟩
        rw [HM.out] at hem
        go_wp2_with fail
        refine hget.mono ?_
        rintro e y6 ⟨A6, c6, rfl, ho6'⟩
        rw [HM.out] at ho6' ⊢
        have hb6 := ho6'.bel
        have hb6a := hb6.alloc hb6.size (.cells #[.int .i64 (k : Int), .slice A6 m c6] 24)
        have hrx := hox.rd.below hb6a
        have hrg := rgeti_any _ n _ _ cs _ hrx hb6a.size HCB.out (by omega)
        rw [hgi] at hrg
        have hbz := hbx.trans (hb6a.mono hbx.size)
        have hre := ho6'.rd.below ((Below.refl _ _).alloc (Nat.le_refl _) (.cells #[.int .i64 (k : Int), .slice A6 m c6] 24))
        clear hgi hget hox hrx hb6 hb6a
        go_wp2_with fail
        refine hrg.mono ?_
        rintro e y8 ⟨A7, c7, rfl, ho8⟩
        rw [HM.out] at ho8 ⊢
        obtain ⟨c0, c1, _, _⟩ := two_new ho8.bel
        have hby := hbz.trans (ho8.bel.mono hbz.size)
        have hre8 := hre.below (ho8.bel.mono (by simp))
        have hl := list_any A6 m c6 _ es y8 hre8 (Nat.le_trans (by simp) ho8.bel.size) (by omega)
        have hcd := fun w' => code_any 0 w' (by omega)
        rw [show errV 0 = .nilIface from rfl] at hcd
        have hr8 := ho8.rd
        clear hrg hbz hre hre8 ho6'
        go_wp2_with (first
          | (go_at_call 9; refine hl.mono ?_; rintro e y9 ⟨A9, c9, rfl, ho9⟩; rw [HM.out] at ho9 ⊢; have hsm := same_is A9 A7 m c9 c7 es y9 ho9.rd ((hr8.below ho9.bel).more ho9.bel.size) (by omega))
          | (go_at_call 16; refine hsm.mono ?_; rintro e y10 ⟨rfl, hb10⟩)
          | (go_at_call 10; refine (hcd _).mono ?_; rintro e y11 ⟨rfl, rfl⟩))
        go_ret
        have hb9 := hby.trans (ho9.bel.mono hby.size)
        exact ⟨rfl, hb9.trans (hb10.mono hb9.size)⟩
  · have h3' : (3000 : Int) < (n : Int) := by omega
    clear h hb
    go_enter Try.func4, Try.ntmps4
    go_wp2_with fail
    refine hup.mono ?_
    rintro e w1 ⟨rfl, hb1⟩
    go_wp2_with fail
    go_ret
    exact ⟨rfl, hb1⟩

end Go.Proofs.Ytgmnhfkmneohcaa
