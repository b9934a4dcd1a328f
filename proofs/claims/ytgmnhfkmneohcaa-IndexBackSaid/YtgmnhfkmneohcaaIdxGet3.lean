/-
  The contracts of the program's getList and skipSum: the entries from a place on, and the place behind the sum.
-/
import Derived.Test.YtgmnhfkmneohcaaIdxGet2
import Derived.Test.YtgmnhfkmneohcaaIdxMay
import Derived.Test.YtgmnhfkmneohcaaCrc
namespace Go.Proofs.Ytgmnhfkmneohcaa
open Go.RowKit

theorem errV_no {j : Nat} (h : j ≠ 0) : errV j = .iface 50 (.int .i64 (j : Int)) := if_neg h
theorem uvE_err {bs : List Nat} {a e : Nat} (h : uvE bs a = .error e) : e ≠ 0 := by
  unfold uvE at h
  split at h
  · cases h
  · rename_i hne
    injection h with h
    rw [← h]
    exact hne
theorem reps_err {α : Type} {f : Nat → Except Nat (α × Nat)} : ∀ (n a e : Nat), reps f n a = .error e → ∃ a', f a' = .error e := by
  intro n
  induction n with
  | zero => intro a e h; simp [reps] at h
  | succ n ih =>
    intro a e h
    simp only [reps] at h
    cases hf : f a with
    | error e' => rw [hf] at h; injection h with h; exact ⟨a, by rw [hf, h]⟩
    | ok p =>
      obtain ⟨x, a1⟩ := p
      rw [hf] at h
      simp only at h
      cases hr : reps f n a1 with
      | error e' => rw [hr] at h; injection h with h; subst h; exact ih a1 _ hr
      | ok q => rw [hr] at h; cases h
theorem rawE_err {bs : List Nat} {a e : Nat} (h : rawE bs a = .error e) : e ≠ 0 := by
  unfold rawE at h
  split at h
  · injection h with h; omega
  · cases hr : reps (uvE bs) 3 (a + 8) with
    | error e' =>
      rw [hr] at h
      injection h with h
      obtain ⟨a', ha⟩ := reps_err _ _ _ hr
      rw [← h]
      exact uvE_err ha
    | ok p => rw [hr] at h; cases h

/-- what getList comes to -/
def RetL (w : World) (r : Except Nat (List (Nat × List Nat) × Nat)) (e : Ending) (w' : World) : Prop :=
  match r with
  | .ok (rs, a) => ∃ A c, e = .returned (.tuple #[.slice A rs.length c, .int .i64 (a : Int), .nilIface]) ∧ OwnE 48 w w' (.slice A rs.length c) (rs.map progE)
  | .error j => e = .returned (.tuple #[.slice none 0 0, .int .i64 0, errV j]) ∧ Below w.heap.size w w'

/-- a loop's relation: some entries are read -/
def AtList (bs : List Nat) (w : World) (N a0 : Nat) (at_ l i : Value) (wr : World) : Prop :=
  ∃ (xs : List (Nat × List Nat)) (a : Nat), a ≤ bs.length ∧ (∀ x ∈ xs, FitR x) ∧ AtReps (rawE bs) N a0 xs a ∧ at_ = .int .i64 (a : Int) ∧ i = .int .u64 (xs.length : Int) ∧ OwnE 48 w wr l (xs.map progE)

set_option maxRecDepth 20000 in
set_option maxHeartbeats 1000000 in
theorem getlist_any (A : Option Addr) (n c B a : Nat) (bs : List Nat) (w : World) (h : Rd w B A n c bs) (hB : B ≤ w.heap.size) (hb : ∀ x ∈ bs, x < 256) (hn : n ≤ 100000000) (ha : a ≤ n) :
    Calls Try.prog 25 #[.slice A n c, .int .i64 (a : Int)] w (RetL w (getL bs a)) := by
  have HL := Lib.hid h.len
  have HH := Lib.hid h
  have HB := Lib.hid hB
  have HBB := Lib.hid hb
  have hug := uget_all A n c B bs (a : Int) w h hb hn (by omega)
  clear h hB hb
  go_enter Try.func25, Try.ntmps25
  go_wp2_with fail
  refine hug.mono ?_
  rintro e w2 ⟨N, m, k, hu, rfl, rfl⟩
  have hN := (uat_le hu).1
  have hm := (uat_le hu).2.1
  by_cases hk : k = 0
  · subst hk
    have hin := (uat_in HBB.out hu).2.1
    have HE := Lib.hid (uvE_ok hu)
    rw [show errV 0 = .nilIface from rfl]
    clear hu
    by_cases h6 : 65535 < N
    · have HG : Hid (getL bs a = .error 9) := Lib.hid (by unfold getL; rw [HE.out]; simp only; rw [if_pos h6])
      go_wp2_with fail
      go_ret3
      rw [HG.out]
      exact ⟨rfl, Below.refl _ _⟩
    · have HG : Hid (getL bs a = reps (rawE bs) N (a + m)) := Lib.hid (by unfold getL; rw [HE.out]; simp only; rw [if_neg h6])
      have h6' : N ≤ 65535 := by omega
      clear h6
      go_wp2_with fail
      go_loopw [1, 10, 29] (fun x l i wr => AtList bs w N (a + m) x l i wr) (fun _ _ i _ => N - (intOf i).toNat)
      case atStart => exact ⟨[], a + m, hin, by simp, AtReps.zero _ _, by go_num, rfl, OwnE.nil_ _ _ _ (Below.refl _ _)⟩
      case round =>
        obtain ⟨xs, a2, ha2, hxf, hat, rfl, rfl, hown⟩ := hrel
        have HAT := Lib.hid hat
        have HXF := Lib.hid hxf
        have hxl := hat.1
        clear hat hxf
        by_cases hlt : xs.length < N
        · have hz : Below wr.heap.size wr (wr.alloc (.cells #[.int .i64 0, .int .i64 0, .int .i64 0, .int .i64 0] 48)) := (Below.refl _ _).alloc (Nat.le_refl _) _
          have hbx := ent_box wr
          have hge := getentry_any A n c B a2 bs _ (HH.out.below ((hown.bel.mono HB.out).trans (hz.mono (Nat.le_trans HB.out hown.bel.size)))) (Nat.le_trans (Nat.le_trans HB.out hown.bel.size) hz.size) HBB.out hn (by rw [← HL.out]; exact ha2)
          obtain ⟨xl, HXL⟩ : ∃ xl, Hid (xs.length = xl) := ⟨_, Lib.hid rfl⟩
          rw [HXL.out] at hlt hxl ⊢
          obtain ⟨W, hW⟩ : ∃ W, W = wr.alloc (.cells #[.int .i64 0, .int .i64 0, .int .i64 0, .int .i64 0] 48) := ⟨_, rfl⟩
          rw [← hW] at hz hbx hge
          replace hW := Lib.hid hW
          cases hr : rawE bs a2 with
          | error j =>
            rw [hr] at hge
            have HJ := Lib.hid (rawE_err hr)
            have HR := Lib.hid (HAT.out.bad (by rw [HXL.out]; exact hlt) hr)
            clear hr
            go_wp2_with fail
            rw [← hW.out]
            refine hge.mono ?_
            rintro e w9 ⟨he, hb9⟩
            simp only at he
            subst he
            rw [errV_no HJ.out]
            obtain ⟨z0, z1, z2, z3⟩ := (hbx.below hb9).get4
            obtain ⟨zf0, zf1, zf2, zf3⟩ := (hbx.below hb9).free4
            have hbz := below_set4 (hz.trans (hb9.mono hz.size)) (Nat.le_refl _) (.int .i64 0) (.int .i64 0) (.int .i64 0) (.int .i64 0)
            go_wp2_with fail
            go_ret3
            rw [HG.out, HR.out]
            refine ⟨by rw [errV_no HJ.out]; rfl, hown.bel.trans (hbz.mono hown.bel.size)⟩
          | ok p =>
            obtain ⟨x, a3⟩ := p
            rw [hr] at hge
            obtain ⟨hfx, hax, hin3⟩ := rawE_fit HBB.out hr
            have ha3 := (hin3 ha2).1
            have HR := Lib.hid (HAT.out.succ (by rw [HXL.out]; exact hlt) hr)
            have hfe := progE_fit hfx
            clear hr hin3 hax
            obtain ⟨y, HY⟩ : ∃ y, Hid (y = progE x) := ⟨_, Lib.hid rfl⟩
            rw [← HY.out] at hfe
            unfold RetEn at hge
            simp only at hge
            rw [← HY.out] at hge
            obtain ⟨ym, yx, yc, yl⟩ := y
            simp only at hge
            go_wp2_with fail
            rw [← hW.out]
            refine hge.mono ?_
            rintro e w9 ⟨rfl, hb9⟩
            have b9 := hbx.below hb9
            have hbx0 := hbx
            have hb90 := hb9
            obtain ⟨z0, z1, z2, z3⟩ := b9.get4
            obtain ⟨zf0, zf1, zf2, zf3⟩ := b9.free4
            have hbz := below_set4 (hz.trans (hb9.mono hz.size)) (Nat.le_refl _) (.int .i64 ym) (.int .i64 yx) (.int .i64 yc) (.int .i64 yl)
            have hown9 := hown.keep hbz
            obtain ⟨d0, d1, d2, d3⟩ := (b9.all4 (.int .i64 ym) (.int .i64 yx) (.int .i64 yc) (.int .i64 yl)).get4
            have hml : (xs.map progE).length + 1 ≤ 1073741824 := by rw [List.length_map, HXL.out]; omega
            replace hml := Lib.hid hml
            clear hbx b9 hge hb9 hown hz
            clear d0 d1 d2 d3
            have b10 := (BoxL.below (hbx0) hb90).all4 (.int .i64 ym) (.int .i64 yx) (.int .i64 yc) (.int .i64 yl)
            clear hbx0 hb90
            go_upto_region 12 with fail
            clear z0 z1 z2 z3 zf0 zf1 zf2 zf3
            generalize ((((w9.setCell ⟨wr.heap.size, 0, none⟩ (.int .i64 ym)).setCell ⟨wr.heap.size, 1, none⟩ (.int .i64 yx)).setCell ⟨wr.heap.size, 2, none⟩ (.int .i64 yc)).setCell ⟨wr.heap.size, 3, none⟩ (.int .i64 yl)) = w10 at *
            obtain ⟨d0, d1, d2, d3⟩ := b10.get4
            go_wp2_with (at_builtin; (refine wpList_appE Try.underlying22 Try.infoE rfl (.tmp 41) (.tmp 43) rfl rfl rfl (hown9.alloc _) (RdE.one _ _ ⟨ym, yx, yc, yl⟩ hfe) hml.out ?_; intro v' w' hown2 _))
            go_roundw
            case rel =>
              refine ⟨xs ++ [x], a3, ha3, ?_, HR.out, by go_num, by rw [List.length_append, HXL.out]; go_num, ?_⟩
              · intro r hr
                rcases List.mem_append.1 hr with hr | hr
                · exact HXF.out r hr
                · rw [List.mem_singleton.1 hr]; exact hfx
              · rw [List.map_append]
                simp only [List.map_cons, List.map_nil]
                rw [← HY.out]
                exact hown2
            case measure => simp [intOf]; omega
        · have HR := Lib.hid (HAT.out.done hlt)
          have HM : Hid ((xs.map progE).length = xs.length) := Lib.hid (by simp)
          obtain ⟨A', c', rfl, _⟩ := hown.form
          obtain ⟨xl, HXL⟩ : ∃ xl, Hid (xs.length = xl) := ⟨_, Lib.hid rfl⟩
          rw [HM.out, HXL.out] at hown ⊢
          rw [HXL.out] at hlt hxl
          go_wp2_with fail
          go_ret3
          rw [HG.out, HR.out]
          refine ⟨A', c', by rw [HXL.out]; rfl, by rw [HXL.out]; exact hown⟩
  · have HG : Hid (getL bs a = .error k) := Lib.hid (by unfold getL; rw [uvE_bad hu hk])
    rw [errV_no hk]
    clear hu
    go_wp2_with fail
    go_ret3
    rw [HG.out]
    exact ⟨by rw [errV_no hk]; rfl, Below.refl _ _⟩


/-- what skipSum comes to -/
def RetSS (w : World) (r : Except Nat Nat) (e : Ending) (w' : World) : Prop :=
  (match r with
    | .ok a1 => e = .returned (.tuple #[.int .i64 (a1 : Int), .nilIface])
    | .error j => e = .returned (.tuple #[.int .i64 0, errV j])) ∧ Below w.heap.size w w'

set_option maxRecDepth 20000 in
set_option maxHeartbeats 1000000 in
theorem skipsum_any (A : Option Addr) (n c B a : Nat) (bs : List Nat) (w : World) (h : Rd w B A n c bs) (_hB : B ≤ w.heap.size) (hb : ∀ x ∈ bs, x < 256) (hn : n ≤ 100000000) (ha : a ≤ n) :
    Calls Try.prog 26 #[.slice A n c, .int .i64 (a : Int)] w (RetSS w (getS bs a)) := by
  have HL := Lib.hid h.len
  have hcap := h.cap
  by_cases h4 : n < a + 4
  · have HG : Hid (getS bs a = .error 2) := Lib.hid (by unfold getS; rw [if_pos (by rw [HL.out]; exact h4)])
    clear h hb
    go_enter Try.func26, Try.ntmps26
    go_wp2_with fail
    go_ret2
    rw [HG.out]
    exact ⟨rfl, Below.refl _ _⟩
  · have h4' : a + 4 ≤ n := by omega
    have hcut := h.cutTo (a := a) (n := 4) h4'
    have hhead := h.cutHead ha
    have hb4 : ∀ x ∈ (bs.drop a).take 4, x < 256 := fun x hx => hb x (List.mem_of_mem_drop (List.mem_of_mem_take hx))
    have hbh : ∀ x ∈ bs.take a, x < 256 := fun x hx => hb x (List.mem_of_mem_take hx)
    have hlt1 := numB_lt _ hb4
    rw [show ((bs.drop a).take 4).length = 4 by rw [List.length_take, List.length_drop, h.len]; omega] at hlt1
    have hlt2 := crcS_lt hbh
    have hnum := fun k => inumber_any _ _ _ B _ (w.drewN k) (hcut.drewN k) hb4 (by omega)
    have hsum := fun k => sum_any _ _ _ B _ (w.drewN k) (hhead.drewN k) hbh (by omega)
    have HG : Hid (getS bs a = if numB ((bs.drop a).take 4) = crcS (bs.take a) then .ok (a + 4) else .error 7) := Lib.hid (by
      unfold getS
      rw [if_neg (by rw [HL.out]; exact h4)])
    clear h hb hcut hhead hb4 hbh
    generalize numB ((bs.drop a).take 4) = x at *
    generalize crcS (bs.take a) = y at *
    have hyw : IntKind.u64.wrap (y : Int) = (y : Int) := wrap_le y (by omega)
    have hqn : ∀ k, Calls Try.prog 36 #[.slice (A.map (fun x => x.add a)) 4 (c - a)] (w.drewN k) fun e w' => e = .returned (.int .u64 (x : Int)) ∧ ∃ m, w' = w.drewN m := fun k => (hnum k).mono fun _ _ ⟨he, hw⟩ => ⟨he, k, hw.symm⟩
    have hqs : ∀ k, Calls Try.prog 21 #[.slice A a c] (w.drewN k) fun e w' => e = .returned (.int .u32 (y : Int)) ∧ ∃ m, w' = w.drewN m := fun k => (hsum k).mono fun _ _ ⟨he, hw⟩ => ⟨he, k, hw.symm⟩
    clear hnum hsum
    have hin0 : (0 : Int) ≤ (a : Int) := by omega
    have hin1 : (a : Int) ≤ (n : Int) := by omega
    by_cases hxy : x = y
    · subst hxy
      go_enter Try.func26, Try.ntmps26
      go_upto_region 4 with fail
      go_quiet (first
        | (go_at_call 36; exact hqn _)
        | (go_at_call 21; exact hqs _))
      all_goals
        go_wp2_with fail
        go_ret2
        rw [HG.out, if_pos trivial]
        exact ⟨rfl, below_drewN (Below.refl _ _) _⟩
    · have hne : ((x : Int) == (y : Int)) = false := by simp; omega
      rw [if_neg hxy] at HG
      go_enter Try.func26, Try.ntmps26
      go_upto_region 4 with fail
      go_quiet (first
        | (go_at_call 36; exact hqn _)
        | (go_at_call 21; exact hqs _))
      all_goals
        go_wp2_with fail
        go_ret2
        rw [HG.out]
        exact ⟨rfl, below_drewN (Below.refl _ _) _⟩

end Go.Proofs.Ytgmnhfkmneohcaa
