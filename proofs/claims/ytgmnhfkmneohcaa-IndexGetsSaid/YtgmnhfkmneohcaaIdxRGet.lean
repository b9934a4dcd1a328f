/-
  The contract of the reference's GetIndex: the index that bytes begin with, and how many bytes it has, or what is amiss first.
-/
import Derived.Test.YtgmnhfkmneohcaaIdxRG1
import Derived.Test.YtgmnhfkmneohcaaIdxGet
import Derived.Test.YtgmnhfkmneohcaaIdxList
import Derived.Test.YtgmnhfkmneohcaaIdxRMay
import Derived.Test.YtgmnhfkmneohcaaRefGet
import Derived.Deep.DeepCutAuto
namespace Go.Proofs.Ytgmnhfkmneohcaa
open Go.RowKit

/-- what GetIndex comes to -/
def RetRI (w : World) (r : Except Nat (Nat × List Ent × Nat)) (e : Ending) (w' : World) : Prop :=
  match r with
  | .ok (k, es, n) => ∃ A c, e = .returned (.tuple #[.int .i64 (k : Int), .slice A es.length c, .int .i64 (n : Int), .int .i64 0]) ∧ OwnE 55 w w' (.slice A es.length c) es
  | .error j => e = .returned (.tuple #[.int .i64 0, .slice none 0 0, .int .i64 0, .int .i64 (j : Int)]) ∧ Below w.heap.size w w'

/-- a loop's relation: some entries are read -/
def AtRG (bs : List Nat) (w : World) (N a0 : Nat) (at_ l fair sum i : Value) (wr : World) : Prop :=
  ∃ (xs : List (Nat × List Nat)) (a : Nat) (b : Bool) (es : List Ent) (sm : Nat), a ≤ bs.length ∧ (∀ x ∈ xs, FitR x) ∧ AtReps (rawE bs) N a0 xs a ∧ at_ = .int .i64 (a : Int) ∧ i = .int .i64 (xs.length : Int) ∧
    OwnE 55 w wr l es ∧ es.length = xs.length ∧ fair = .bool b ∧ sum = .int .u64 (sm : Int) ∧ sm ≤ 2147483647 * xs.length ∧
    (b = true → es = xs.map progE ∧ sm = lensN es) ∧ (b = false → ∃ x ∈ xs, ¬ FairR x)

/-- the inner loop's relation: some of three numbers are read -/
def AtT3 (bs : List Nat) (V : World) (a0 : Nat) (at_ t i : Value) (wx : World) : Prop :=
  ∃ (vs : List Nat) (a : Nat), vs.length ≤ 3 ∧ a ≤ bs.length ∧ (∀ x ∈ vs, x ≤ 18446744073709551615) ∧ AtReps (uvE bs) 3 a0 vs a ∧ at_ = .int .i64 (a : Int) ∧ OwnU V wx t vs ∧ i = .int .i64 (vs.length : Int)
theorem may_each {k : Int} {es : List Ent} (h : May k es) : ∀ e ∈ es, MayE e := by
  intro e he
  obtain ⟨j, hj, rfl⟩ := List.getElem_of_mem he
  have := (h.2.2 j hj).1
  have e2 : es.getD j ent0 = es[j] := by simp [List.getD_eq_getElem?_getD, hj]
  rwa [e2] at this
theorem results_tmp4 {fn : Func} {t u v x : Tmp} (h : fn.results = #[.tmp t, .tmp u, .tmp v, .tmp x]) (tmps : Array Value) (P : Program) (w : World) :
    (results fn tmps).run P w = .ok (.tuple #[tmps.getD t undef, tmps.getD u undef, tmps.getD v undef, tmps.getD x undef]) w := by
  simp [results, h, go_sem]

set_option maxRecDepth 40000 in
set_option maxHeartbeats 4000000 in
theorem rgeti_any (A : Option Addr) (n c B : Nat) (bs : List Nat) (w : World) (h : Rd w B A n c bs) (hB : B ≤ w.heap.size) (hb : ∀ x ∈ bs, x < 256) (hn : n ≤ 100000000) :
    Calls Try.prog 15 #[.slice A n c] w (RetRI w (getI bs)) := by
  have HL := Lib.hid h.len
  have HB := Lib.hid hB
  have HBB := Lib.hid hb
  have HH := Lib.hid h
  have hcap := h.cap
  by_cases h4 : 4 ≤ n
  · have hst := run_str (h.cutHead h4)
    by_cases hmg : bs.take 4 = magB
    · have HMG := Lib.hid hmg
      rw [hmg, show strB magB = ({ data := #[71, 84, 83, 49] } : ByteArray) from rfl] at hst
      clear hmg
      by_cases h5 : 5 ≤ n
      · obtain ⟨ad, rfl, _, hc4⟩ := h.at_ (k := 4) (by omega)
        have hxb := byte_at hb 4
        have HK : Hid (getK bs = if bs.getD 4 0 = 1 ∨ bs.getD 4 0 = 2 then .ok (bs.getD 4 0, 5) else .error 6) := Lib.hid (by
          unfold getK
          rw [if_neg (by simpa [magB] using HMG.out), if_neg (by rw [HL.out]; omega)])
        generalize bs.getD 4 0 = x at *
        rw [show ad.add 4 = ⟨ad.block, ad.off + 4, none⟩ by simp [Addr.add]] at hc4
        have h5' : ¬ (n : Int) ≤ 4 := by omega
        clear h hB hb
        by_cases hk : x = 1 ∨ x = 2
        · rw [if_pos hk] at HK
          have hug := rget_all (some ad) n c B bs (5 : Int) w HH.out HBB.out hn (by omega)
          have HX := Lib.hid hk
          clear hk
          go_enter Try.func15, Try.ntmps15
          go_upto_region 6 with fail
          go_cut [47] (fun x47 wx => x47 = .bool false ∧ wx = w)
          case first =>
            rcases HX.out with rfl | rfl
            all_goals
              go_wp2_with fail
              go_meet
              exact ⟨rfl, rfl⟩
          case rest =>
            obtain ⟨rfl, hwx⟩ := hcut
            replace hwx := hwx.symm
            subst hwx
            clear hc4 hst
            go_wp2_with fail
            refine hug.mono ?_
            rintro e w2 ⟨N, m, k, hu, rfl, hww⟩
            subst hww
            have hN := (uat_le hu).1
            have hm := (uat_le hu).2.1
            by_cases hk0 : k = 0
            · subst hk0
              have hin := (uat_in HBB.out hu).2.1
              have hu5 : UAt bs ((5 : Nat) : Int) N m 0 := hu
              have HE := Lib.hid (uvE_ok hu5)
              clear hu hu5
              by_cases h6 : 65535 < N
              · have HG : Hid (getI bs = .error 9) := Lib.hid (by
                  unfold getI; rw [HK.out]; simp only; unfold getL
                  rw [HE.out]; simp only; rw [if_pos h6])
                go_wp2_with fail
                refine bodyPost_ret (results_tmp4 rfl _ _ _) rfl ?_
                rw [HG.out]
                exact ⟨rfl, Below.refl _ _⟩
              · have HLR : Hid (getL bs 5 = reps (rawE bs) N (5 + m)) := Lib.hid (by unfold getL; rw [HE.out]; simp only; rw [if_neg h6])
                have HLE : Hid (∀ j, getL bs 5 = .error j → getI bs = .error j) := Lib.hid (fun j hj => by unfold getI; rw [HK.out]; simp only; rw [hj])
                have h6' : N ≤ 65535 := by omega
                have hNw : IntKind.i64.wrap (N : Int) = (N : Int) := by rw [IntKind.wrap_i64]; omega
                clear h6 hug
                go_wp2_with fail
                go_loopw [10, 11, 12, 13, 14] (fun a l f s i wr => AtRG bs w N (5 + m) a l f s i wr) (fun _ _ _ _ i _ => N - (intOf i).toNat)
                case atStart => exact ⟨[], 5 + m, true, [], 0, hin, by simp, AtReps.zero _ _, by go_num, rfl, OwnE.nil_ _ _ _ (Below.refl _ _), rfl, rfl, rfl, by simp, fun _ => ⟨rfl, rfl⟩, fun h => by cases h⟩
                case round =>
                  obtain ⟨xs, a2, b, es, sm, ha2, hxf, hat, rfl, rfl, hown, hel, rfl, rfl, hsm, hbt, hbf⟩ := hrel
                  obtain ⟨wo, hwo⟩ : ∃ wo, wo = wr := ⟨_, rfl⟩
                  subst hwo
                  have ha2n : a2 ≤ n := by rw [← HL.out]; exact ha2
                  have HAT := Lib.hid hat
                  have HXF := Lib.hid hxf
                  have HEL := Lib.hid hel
                  have HBT := Lib.hid hbt
                  have HBF := Lib.hid hbf
                  have HXN := Lib.hid hat.1
                  clear hat hxf hel hbt hbf ha2
                  obtain ⟨xl, HXL⟩ : ∃ xl, Hid (xs.length = xl) := ⟨_, Lib.hid rfl⟩
                  rw [HXL.out] at hsm ⊢
                  by_cases hlt : xl < N
                  · -- DONE
                    have HXT : Hid (xs.length < N) := Lib.hid (by rw [HXL.out]; exact hlt)
                    by_cases h8 : n < a2 + 8
                    · have HG : Hid (getI bs = .error 2) := Lib.hid (HLE.out _ (by
                        rw [HLR.out]
                        exact HAT.out.bad HXT.out (by unfold rawE; rw [if_pos (by rw [HL.out]; exact h8)])))
                      go_wp2_with fail
                      refine bodyPost_ret (results_tmp4 rfl _ _ _) rfl ?_
                      rw [HG.out]
                      exact ⟨rfl, hown.bel⟩
                    · have h8' : a2 + 8 ≤ n := by omega
                      have hcut := HH.out.cutTo (a := a2) (n := 8) h8'
                      have hlt8 : ∀ x ∈ (bs.drop a2).take 8, x < 256 := fun x hx => HBB.out x (List.mem_of_mem_drop (List.mem_of_mem_take hx))
                      have hb8 := numB_lt _ hlt8
                      rw [show ((bs.drop a2).take 8).length = 8 by rw [List.length_take, List.length_drop, HL.out]; omega] at hb8
                      have hnu := rnumber_any _ _ _ B _ wo (hcut.below (hown.bel.mono HB.out)) hlt8 (by omega)
                      have HG : Hid (rawE bs a2 = match reps (uvE bs) 3 (a2 + 8) with | .error e => .error e | .ok (vs, a1) => .ok ((numB ((bs.drop a2).take 8), vs), a1)) := Lib.hid (by
                        unfold rawE
                        rw [if_neg (by rw [HL.out]; exact h8)]
                        rfl)
                      clear hcut
                      generalize numB ((bs.drop a2).take 8) = f at *
                      have hf : f ≤ 18446744073709551615 := by omega
                      have hs1 : IntKind.i64.wrap (f : Int) = s64n f := wrap_s64 hf
                      have HSF := Lib.hid (u64n_s64 hf)
                      have HFM := Lib.hid (fun x hx => wrap_max (f := f) (x := x) hf hx)
                      have fm := s64n_fit hf
                      obtain ⟨mn, HMN⟩ : ∃ mn, Hid (mn = s64n f) := ⟨_, Lib.hid rfl⟩
                      rw [← HMN.out] at hs1 fm HSF HFM
                      clear hb8 hlt8 h8
                      go_wp2_with fail
                      refine hnu.mono ?_
                      rintro e w3 ⟨rfl, hww⟩
                      subst hww
                      obtain ⟨V, hV⟩ : ∃ V, V = wo.alloc (.cells #[.int .i64 mn, .int .i64 0, .int .i64 0, .int .i64 0] 55) := ⟨_, rfl⟩
                      have hVb : Below wo.heap.size wo V := by rw [hV]; exact (Below.refl _ _).alloc (Nat.le_refl _) _
                      have b4 : BoxL V wo.heap.size [.int .i64 mn, .int .i64 0, .int .i64 0, .int .i64 0] := by rw [hV]; exact BoxL.new wo [.int .i64 mn, .int .i64 0, .int .i64 0, .int .i64 0] _
                      go_upto_block 2 with fail
                      rw [← hV]
                      clear hV hnu hs1
                      have hbV := hown.bel.trans (hVb.mono hown.bel.size)
                      go_wp2_with fail
                      go_loopw [10, 16, 17] (fun a t i wx => AtT3 bs V (a2 + 8) a t i wx) (fun _ _ i _ => 3 - (intOf i).toNat)
                      case atStart => exact ⟨[], a2 + 8, by simp, by rw [HL.out]; exact h8', by simp, AtReps.zero _ _, by go_num, OwnU.nil_ _ _ (Below.refl _ _), rfl⟩
                      case round =>
                        obtain ⟨vs, a3, hv3, ha3, hvb, hat, rfl, hou, rfl⟩ := hrel
                        have ha3n : a3 ≤ n := by rw [← HL.out]; exact ha3
                        have HAT3 := Lib.hid hat
                        have HVB := Lib.hid hvb
                        clear hat hvb ha3
                        by_cases hl3 : vs.length < 3
                        · have HL3 := Lib.hid hl3
                          have hug := rget_all (some ad) n c B bs (a3 : Int) _ (HH.out.below ((hbV.trans (hou.bel.mono hbV.size)).mono HB.out)) HBB.out hn (by omega)
                          obtain ⟨vl, HVL⟩ : ∃ vl, Hid (vs.length = vl) := ⟨_, Lib.hid rfl⟩
                          have hvl1 : vs.length ≤ 1000 := by omega
                          replace hvl1 := Lib.hid hvl1
                          rw [HVL.out] at hl3 hv3 ⊢
                          go_wp2_with fail
                          refine hug.mono ?_
                          rintro e w4 ⟨v, m3, k3, hu, rfl, hww⟩
                          subst hww
                          have hvm := (uat_le hu).1
                          have hum := (uat_le hu).2.1
                          by_cases hk3 : k3 = 0
                          · subst hk3
                            have hin3 := (uat_in HBB.out hu).2.1
                            have HE3 := Lib.hid (uvE_ok hu)
                            clear hu hug
                            go_wp2_with (at_builtin; (refine wpList_appU rfl (.tmp 96) (.tmp 98) rfl rfl rfl hou hvl1.out ?_; intro v' w' hou2))
                            go_roundw
                            case rel =>
                              refine ⟨vs ++ [v], a3 + m3, by rw [List.length_append, HVL.out]; simp; omega, hin3, ?_, HAT3.out.succ HL3.out HE3.out, by go_num, hou2, by rw [List.length_append, HVL.out]; go_num⟩
                              intro r hr
                              rcases List.mem_append.1 hr with hr | hr
                              · exact HVB.out r hr
                              · rw [List.mem_singleton.1 hr]; exact hvm
                            case measure => simp [intOf]; omega
                          · have HG2 : Hid (getI bs = .error k3) := Lib.hid (HLE.out _ (by
                              rw [HLR.out]
                              exact HAT.out.bad HXT.out (by rw [HG.out, HAT3.out.bad HL3.out (uvE_bad hu hk3)])))
                            have hk3' : ((k3 : Int) != 0) = true := by simp; omega
                            clear hu hug
                            go_wp2_with fail
                            refine bodyPost_ret (results_tmp4 rfl _ _ _) rfl ?_
                            rw [HG2.out]
                            exact ⟨rfl, hbV.trans (hou.bel.mono hbV.size)⟩
                        · obtain ⟨p, q, r, rfl⟩ : ∃ p q r, vs = [p, q, r] := by
                            match vs, hv3, hl3 with
                            | [x, y, z], _, _ => exact ⟨x, y, z, rfl⟩
                            | [], _, h => exact absurd (show ([] : List Nat).length < 3 by simp) h
                            | [_], _, h => exact absurd (show 1 < 3 by omega) h
                            | [_, _], _, h => exact absurd (show 2 < 3 by omega) h
                            | _ :: _ :: _ :: _ :: _, h, _ => exact absurd h (by simp)
                          have HR : Hid (rawE bs a2 = .ok ((f, [p, q, r]), a3)) := Lib.hid (by rw [HG.out, HAT3.out.done hl3])
                          have hp := HVB.out p (by simp)
                          have hq := HVB.out q (by simp)
                          have hr := HVB.out r (by simp)
                          have HFR : Hid (FitR (f, [p, q, r])) := Lib.hid ⟨hf, rfl, HVB.out⟩
                          have HBE := Lib.hid (hVb.trans (hou.bel.mono hVb.size))
                          have HRE := Lib.hid (HAT.out.succ HXT.out HR.out)
                          clear hv3 hl3
                          obtain ⟨g3, c3, rfl, hg3, hc3, t0, t1, t2⟩ := hou.three
                          have hgne : wo.heap.size ≠ g3 := by have := b4.lt; omega
                          have b5 := b4.below hou.bel
                          obtain ⟨z0, z1, z2, z3⟩ := b5.get4
                          have hsf := HSF.out
                          have hrm := wrap_room hf
                          obtain ⟨R, HRR⟩ : ∃ R, Hid (R = roomR f) := ⟨_, Lib.hid rfl⟩
                          rw [← HRR.out] at hrm
                          simp only [List.length_cons, List.length_nil]
                          go_upto_region 34 with fail
                          clear hsf hrm z0 z1 z2 z3
                          go_cut [12] (fun y wx => wx = wr ∧ ∃ b' : Bool, y = .bool b' ∧ (b' = true ↔ b = true ∧ FairR (f, [p, q, r])))
                          case first =>
                            -- DONE
                            have hFR : FairR (f, [p, q, r]) ↔ (p ≤ R ∧ q ≤ 65535 ∧ r ≤ 2147483647) := by rw [HRR.out]; exact Iff.rfl
                            replace hFR := Lib.hid hFR
                            cases b with
                            | false =>
                              go_wp2_with fail
                              go_meet
                              exact ⟨rfl, false, rfl, by simp⟩
                            | true =>
                              by_cases f1 : p ≤ R
                              · by_cases f2 : q ≤ 65535
                                · by_cases f3 : r ≤ 2147483647
                                  · go_wp2_with fail
                                    go_meet
                                    exact ⟨rfl, true, by simp <;> omega, by simp; exact hFR.out.2 ⟨f1, f2, f3⟩⟩
                                  · go_wp2_with fail
                                    go_meet
                                    exact ⟨rfl, false, by simp <;> omega, by simp; intro h; have := hFR.out.1 h; omega⟩
                                · go_wp2_with fail
                                  go_meet
                                  exact ⟨rfl, false, rfl, by simp; intro h; have := hFR.out.1 h; omega⟩
                              · go_wp2_with fail
                                go_meet
                                exact ⟨rfl, false, rfl, by simp; intro h; have := hFR.out.1 h; omega⟩
                          case rest =>
                            obtain ⟨hwx, b', rfl, hb'⟩ := hcut
                            replace hwx := hwx.symm
                            subst hwx
                            have HB' := Lib.hid hb'
                            have hownW := hown.keep HBE.out
                            have hel1 : es.length + 1 ≤ 1073741824 := by rw [HEL.out, HXL.out]; omega
                            replace hel1 := Lib.hid hel1
                            clear hb'
                            cases b' with
                            | false =>
                              -- DONE
                              obtain ⟨z0, z1, z2, z3⟩ := b5.get4
                              have hfe : FitE ⟨mn, 0, 0, 0⟩ := ⟨fm, by simp, by simp, by simp⟩
                              go_wp2_with (at_builtin; (refine wpList_appE Try.underlying32 Try.infoF rfl (.tmp 151) (.tmp 153) rfl rfl rfl (hownW.alloc _) (RdE.one _ _ ⟨mn, 0, 0, 0⟩ hfe) hel1.out ?_; intro v' w' hown2 _))
                              go_roundw
                              case rel =>
                                refine ⟨xs ++ [(f, [p, q, r])], a3, false, es ++ [⟨mn, 0, 0, 0⟩], sm, by rw [HL.out]; exact ha3n, ?_, HRE.out, by go_num, by rw [List.length_append, HXL.out]; go_num, hown2, by rw [List.length_append, List.length_append, HEL.out]; rfl, rfl, by go_num, by rw [List.length_append, HXL.out]; simp; omega, (fun h => by cases h), fun _ => ?_⟩
                                · intro y hy
                                  rcases List.mem_append.1 hy with hy | hy
                                  · exact HXF.out y hy
                                  · rw [List.mem_singleton.1 hy]; exact HFR.out
                                · cases hbb : b with
                                  | false =>
                                    obtain ⟨y, hy, hny⟩ := HBF.out hbb
                                    exact ⟨y, List.mem_append_left _ hy, hny⟩
                                  | true => exact ⟨_, List.mem_append_right _ (List.mem_singleton.2 rfl), fun h => by have := HB'.out.2 ⟨hbb, h⟩; cases this⟩
                              case measure => simp [intOf]; omega
                            | true =>
                              have hfr : FairR (f, [p, q, r]) := (HB'.out.1 rfl).2
                              have HBB2 := Lib.hid (HB'.out.1 rfl).1
                              have HFP := Lib.hid (fair_prog hfr)
                              have hq6 : q ≤ 65535 := hfr.2.1
                              have hr6 : r ≤ 2147483647 := hfr.2.2
                              have HPF := Lib.hid (progE_fit HFR.out)
                              have hsp := wrap_s64 hp
                              have hmx := HFM.out p hp
                              have hspf := s64n_fit hp
                              have hmf := s64n_fit (n := (f + p) % 18446744073709551616) (by omega)
                              obtain ⟨sp, HSP⟩ : ∃ sp, Hid (sp = s64n p) := ⟨_, Lib.hid rfl⟩
                              obtain ⟨MX, HMX⟩ : ∃ MX, Hid (MX = s64n ((f + p) % 18446744073709551616)) := ⟨_, Lib.hid rfl⟩
                              rw [← HMN.out, ← HMX.out] at HFP
                              rw [← HSP.out] at hsp hmx hspf
                              rw [← HMX.out] at hmx hmf
                              rw [HFP.out] at HPF
                              have hqw : IntKind.i64.wrap (q : Int) = (q : Int) := by rw [IntKind.wrap_i64]; omega
                              have hrw : IntKind.i64.wrap (r : Int) = (r : Int) := by rw [IntKind.wrap_i64]; omega
                              clear hfr
                              go_upto_region 36 with fail
                              obtain ⟨z0, z1, z2, z3⟩ := b5.get4
                              obtain ⟨zf0, zf1, zf2, zf3⟩ := b5.free4
                              have d0 : wr.drew.cell? ⟨wo.heap.size, 0, none⟩ = some (.int .i64 mn) := z0
                              have td0 : wr.drew.cell? ⟨g3, 0, none⟩ = some (.int .u64 (p : Int)) := t0
                              have hne : ∀ i j, (⟨wo.heap.size, i, none⟩ : Addr) ≠ ⟨g3, j, none⟩ := fun i j e => hgne (by injection e)
                              obtain ⟨W6, hW6⟩ : ∃ W6, W6 = (wr.setCell ⟨wo.heap.size, 1, none⟩ (.int .i64 MX)).drew := ⟨_, rfl⟩
                              have b6 : BoxL W6 wo.heap.size [.int .i64 mn, .int .i64 MX, .int .i64 0, .int .i64 0] := by rw [hW6]; exact (b5.put 1 (.int .i64 MX)).drew
                              have T0 : (wr.setCell ⟨wo.heap.size, 1, none⟩ (.int .i64 MX)).drew.cell? ⟨g3, 0, none⟩ = some (.int .u64 (p : Int)) := (World.cell?_setCell_other wr ⟨wo.heap.size, 1, none⟩ ⟨g3, 0, none⟩ _ (hne _ _)).trans t0
                              have T1 : W6.cell? ⟨g3, 1, none⟩ = some (.int .u64 (q : Int)) := by rw [hW6]; exact (World.cell?_setCell_other wr ⟨wo.heap.size, 1, none⟩ ⟨g3, 1, none⟩ _ (hne _ _)).trans t1
                              have T2 : W6.cell? ⟨g3, 2, none⟩ = some (.int .u64 (r : Int)) := by rw [hW6]; exact (World.cell?_setCell_other wr ⟨wo.heap.size, 1, none⟩ ⟨g3, 2, none⟩ _ (hne _ _)).trans t2
                              have hb6 : Below wo.heap.size wo W6 := by rw [hW6]; exact (below_set HBE.out (Nat.le_refl _) 1 _).drew
                              have hS : (wr.setCell ⟨wo.heap.size, 1, none⟩ (.int .i64 MX)).drew.cell? ⟨wo.heap.size, 0, none⟩ = some (.int .i64 mn) := (b5.put 1 (.int .i64 MX)).drew.cell 0 _ rfl
                              replace hW6 := Lib.hid hW6
                              replace hne := Lib.hid hne
                              go_region_held3 (fun w' => w'.cell? ⟨wo.heap.size, 0, none⟩ = some (.int .i64 mn) ∧ w'.cell? ⟨g3, 0, none⟩ = some (.int .u64 (p : Int)))
                                (first | exact ⟨d0, td0⟩ | exact ⟨hS, T0⟩) (fail)
                              all_goals
                                rw [← hW6.out]
                                clear z0 z1 z2 z3 zf0 zf1 zf2 zf3 d0 td0 T0 hS t0 t1 t2 b5 b4 hownW
                                obtain ⟨y0, y1, y2, y3⟩ := b6.get4
                                obtain ⟨yf0, yf1, yf2, yf3⟩ := b6.free4
                                go_upto_region 38 with fail
                                have b7 : BoxL (W6.setCell ⟨wo.heap.size, 2, none⟩ (.int .i64 (q : Int))) wo.heap.size [.int .i64 mn, .int .i64 MX, .int .i64 (q : Int), .int .i64 0] := b6.put 2 (.int .i64 (q : Int))
                                have T3 : (W6.setCell ⟨wo.heap.size, 2, none⟩ (.int .i64 (q : Int))).cell? ⟨g3, 2, none⟩ = some (.int .u64 (r : Int)) := (World.cell?_setCell_other W6 ⟨wo.heap.size, 2, none⟩ ⟨g3, 2, none⟩ _ (hne.out _ _)).trans T2
                                have hb7 := below_set hb6 (Nat.le_refl _) 2 (.int .i64 (q : Int))
                                clear y0 y1 y2 y3 yf0 yf1 yf2 yf3 T1 T2 b6 hb6
                                generalize W6.setCell ⟨wo.heap.size, 2, none⟩ (.int .i64 (q : Int)) = W7 at *
                                obtain ⟨y0, y1, y2, y3⟩ := b7.get4
                                obtain ⟨yf0, yf1, yf2, yf3⟩ := b7.free4
                                go_upto_region 39 with fail
                                have b8 : BoxL (W7.setCell ⟨wo.heap.size, 3, none⟩ (.int .i64 (r : Int))) wo.heap.size [.int .i64 mn, .int .i64 MX, .int .i64 (q : Int), .int .i64 (r : Int)] := b7.put 3 (.int .i64 (r : Int))
                                have T4 : (W7.setCell ⟨wo.heap.size, 3, none⟩ (.int .i64 (r : Int))).cell? ⟨g3, 2, none⟩ = some (.int .u64 (r : Int)) := (World.cell?_setCell_other W7 ⟨wo.heap.size, 3, none⟩ ⟨g3, 2, none⟩ _ (hne.out _ _)).trans T3
                                have hb8 := below_set hb7 (Nat.le_refl _) 3 (.int .i64 (r : Int))
                                clear y0 y1 y2 y3 yf0 yf1 yf2 yf3 T3 b7 hb7
                                generalize W7.setCell ⟨wo.heap.size, 3, none⟩ (.int .i64 (r : Int)) = W8 at *
                                obtain ⟨y0, y1, y2, y3⟩ := b8.get4
                                have hown8 := hown.keep hb8
                                have hsw : IntKind.u64.wrap ((sm : Int) + (r : Int)) = (sm : Int) + (r : Int) := by
                                  rw [show (sm : Int) + (r : Int) = ((sm + r : Nat) : Int) by simp]
                                  exact wrap_le _ (by omega)
                                go_wp2_with (at_builtin; (refine wpList_appE Try.underlying32 Try.infoF rfl (.tmp 151) (.tmp 153) rfl rfl rfl (hown8.alloc _) (RdE.one _ _ ⟨mn, MX, q, r⟩ (by exact HPF.out)) hel1.out ?_; intro v' w' hown2 _))
                                go_roundw
                                case rel =>
                                  have hes := HBT.out HBB2.out
                                  refine ⟨xs ++ [(f, [p, q, r])], a3, true, es ++ [⟨mn, MX, q, r⟩], sm + r, by rw [HL.out]; exact ha3n, ?_, HRE.out, by go_num, by rw [List.length_append, HXL.out]; go_num, hown2, by rw [List.length_append, List.length_append, HEL.out]; rfl, rfl, by go_num, by rw [List.length_append, HXL.out]; simp; omega, fun _ => ⟨?_, ?_⟩, (fun h => by cases h)⟩
                                  · intro y hy
                                    rcases List.mem_append.1 hy with hy | hy
                                    · exact HXF.out y hy
                                    · rw [List.mem_singleton.1 hy]; exact HFR.out
                                  · rw [List.map_append, ← hes.1]
                                    simp only [List.map_cons, List.map_nil]
                                    rw [HFP.out]
                                  · rw [lensN_app, ← hes.2]
                                    simp [lensN]
                                case measure => simp [intOf]; omega
                  · have HLX : Hid (getL bs 5 = .ok (xs, a2)) := Lib.hid (by rw [HLR.out]; exact HAT.out.done (by rw [HXL.out]; exact hlt))
                    have hxN : xl = N := by have := HXN.out; rw [HXL.out] at this; omega
                    have hsm2 : sm ≤ 2147483647 * 65535 := by omega
                    have heln : Hid (es.length ≤ 9223372036854775807) := Lib.hid (by rw [HEL.out, HXL.out]; omega)
                    have HMAYb : Hid (b = false → ¬ May (x : Int) (xs.map progE)) := Lib.hid (fun hb hm => by
                      obtain ⟨y, hy, hny⟩ := HBF.out hb
                      exact not_fair (HXF.out y hy) hny (may_each hm _ (List.mem_map_of_mem hy)))
                    by_cases h4e : n < a2 + 4
                    · have HG : Hid (getI bs = .error 2) := Lib.hid (by
                        unfold getI; rw [HK.out]; simp only; rw [HLX.out]; simp only; unfold getS
                        rw [if_pos (by rw [HL.out]; exact h4e)])
                      go_wp2_with fail
                      refine bodyPost_ret (results_tmp4 rfl _ _ _) rfl ?_
                      rw [HG.out]
                      exact ⟨rfl, hown.bel⟩
                    · have h4e' : a2 + 4 ≤ n := by omega
                      have hrd := HH.out.below (hown.bel.mono HB.out)
                      have hcut := hrd.cutTo (a := a2) (n := 4) h4e'
                      have hhead := hrd.cutHead ha2n
                      have hb4 : ∀ x ∈ (bs.drop a2).take 4, x < 256 := fun x hx => HBB.out x (List.mem_of_mem_drop (List.mem_of_mem_take hx))
                      have hbh : ∀ x ∈ bs.take a2, x < 256 := fun x hx => HBB.out x (List.mem_of_mem_take hx)
                      have hlt1 := numB_lt _ hb4
                      rw [show ((bs.drop a2).take 4).length = 4 by rw [List.length_take, List.length_drop, HL.out]; omega] at hlt1
                      have hlt2 := crcS_lt hbh
                      have hnum := fun k => rnumber_any _ _ _ B _ (wo.drewN k) (hcut.drewN k) hb4 (by omega)
                      have hsum := fun k => rsum_any _ _ _ B _ (wo.drewN k) (hhead.drewN k) hbh (by omega)
                      have HS0 : Hid (getS bs a2 = if numB ((bs.drop a2).take 4) = crcS (bs.take a2) then .ok (a2 + 4) else .error 7) := Lib.hid (by
                        unfold getS
                        rw [if_neg (by rw [HL.out]; exact h4e)])
                      clear hcut hhead hb4 hbh hrd
                      generalize numB ((bs.drop a2).take 4) = nb at *
                      generalize crcS (bs.take a2) = sb at *
                      have hyw : IntKind.u64.wrap (sb : Int) = (sb : Int) := wrap_le sb (by omega)
                      have hqn : ∀ k, Calls Try.prog 29 #[.slice ((some ad).map (fun x => x.add a2)) 4 (c - a2)] (wo.drewN k) fun e w' => e = .returned (.int .u64 (nb : Int)) ∧ ∃ m, w' = wo.drewN m := fun k => (hnum k).mono fun _ _ ⟨he, hw⟩ => ⟨he, k, hw.symm⟩
                      have hqs : ∀ k, Calls Try.prog 13 #[.slice (some ad) a2 c] (wo.drewN k) fun e w' => e = .returned (.int .u32 (sb : Int)) ∧ ∃ m, w' = wo.drewN m := fun k => (hsum k).mono fun _ _ ⟨he, hw⟩ => ⟨he, k, hw.symm⟩
                      clear hnum hsum
                      have hin0 : (0 : Int) ≤ (a2 : Int) := by omega
                      have hin1 : (a2 : Int) ≤ (n : Int) := by omega
                      simp only [Option.map_some] at hqn
                      by_cases hxy : nb = sb
                      · subst hxy
                        rw [if_pos rfl] at HS0
                        go_upto_region 43 with fail
                        go_quiet (first
                          | (go_at_call 29; exact hqn _)
                          | (go_at_call 13; exact hqs _))
                        all_goals
                          have hownq := hown.keep (below_drewN (Below.refl wo.heap.size wo) nq)
                          generalize wo.drewN nq = wq at *
                          obtain ⟨A9, c9, rfl, hr9⟩ := hownq.form
                          have hrm := rmay_any (x : Int) A9 es.length c9 _ es wq hr9 (Nat.le_refl _) heln.out
                          obtain ⟨el, HELN⟩ : ∃ el, Hid (es.length = el) := ⟨_, Lib.hid rfl⟩
                          rw [HELN.out] at hrm hownq ⊢
                          clear hqn hqs hr9 hown hlt1 hlt2 hyw
                          go_wp2_with fail
                          refine hrm.mono ?_
                          rintro e w9 ⟨bm, hbm, rfl, hb9⟩
                          have HBM := Lib.hid hbm
                          have hown9 := hownq.keep hb9
                          clear hbm hrm hownq hb9
                          obtain ⟨D, HD⟩ : ∃ D, Hid (D = n - (a2 + 4)) := ⟨_, Lib.hid rfl⟩
                          have hdw : IntKind.u64.wrap ((n : Int) - (a2 : Int) - 4) = (D : Int) := by
                            rw [show (n : Int) - (a2 : Int) - 4 = (D : Int) by have := HD.out; omega]
                            exact wrap_le _ (by have := HD.out; omega)
                          have HGI : ∀ r, (May (x : Int) (xs.map progE) ∧ lensN (xs.map progE) = bs.length - (a2 + 4) → r = .ok (x, xs.map progE, a2 + 4)) → (¬ (May (x : Int) (xs.map progE) ∧ lensN (xs.map progE) = bs.length - (a2 + 4)) → r = .error 8) → getI bs = r := by
                            intro r h1 h2
                            unfold getI; rw [HK.out]; simp only; rw [HLX.out]; simp only; rw [HS0.out]
                            simp only
                            split
                            · rename_i h; exact (h1 h).symm
                            · rename_i h; exact (h2 h).symm
                          cases hbb : b with
                          | false =>
                            have HG : Hid (getI bs = .error 8) := Lib.hid (HGI _ (fun h => absurd h.1 (HMAYb.out hbb)) (fun _ => rfl))
                            clear HGI
                            go_wp2_with fail
                            refine bodyPost_ret (results_tmp4 rfl _ _ _) rfl ?_
                            rw [HG.out]
                            exact ⟨rfl, hown9.bel⟩
                          | true =>
                            obtain ⟨hes, hsmE⟩ := HBT.out hbb
                            cases hmm : bm with
                            | false =>
                              have HG : Hid (getI bs = .error 8) := Lib.hid (HGI _ (fun h => by
                                rw [← hes] at h
                                have := HBM.out.2 h.1
                                rw [hmm] at this
                                cases this) (fun _ => rfl))
                              clear HGI hes hsmE
                              go_wp2_with fail
                              refine bodyPost_ret (results_tmp4 rfl _ _ _) rfl ?_
                              rw [HG.out]
                              exact ⟨rfl, hown9.bel⟩
                            | true =>
                              have hmay := HBM.out.1 hmm
                              by_cases hsd : sm = D
                              · have HG : Hid (getI bs = .ok (x, es, a2 + 4)) := Lib.hid (HGI _ (fun _ => by rw [hes]) (fun h => absurd ⟨by rw [← hes]; exact hmay, by rw [← hes, ← hsmE, hsd, HD.out, HL.out]⟩ h))
                                have hne : ((sm : Int) == (D : Int)) = true := by simp; omega
                                clear HGI hes hsmE hmay
                                replace hsd := Lib.hid hsd
                                go_wp2_with fail
                                refine bodyPost_ret (results_tmp4 rfl _ _ _) rfl ?_
                                rw [HG.out]
                                refine ⟨A9, c9, by rw [HELN.out]; rfl, by rw [HELN.out]; exact hown9⟩
                              · have HG : Hid (getI bs = .error 8) := Lib.hid (HGI _ (fun h => absurd (by rw [hsmE, hes, h.2, HD.out, HL.out]) hsd) (fun _ => rfl))
                                have hne : ((sm : Int) == (D : Int)) = false := by simp; omega
                                clear HGI hes hsmE hmay
                                replace hsd := Lib.hid hsd
                                go_wp2_with fail
                                refine bodyPost_ret (results_tmp4 rfl _ _ _) rfl ?_
                                rw [HG.out]
                                exact ⟨rfl, hown9.bel⟩
                      · have hne : ((nb : Int) == (sb : Int)) = false := by simp; omega
                        rw [if_neg hxy] at HS0
                        have HG : Hid (getI bs = .error 7) := Lib.hid (by unfold getI; rw [HK.out]; simp only; rw [HLX.out]; simp only; rw [HS0.out])
                        go_upto_region 43 with fail
                        go_quiet (first
                          | (go_at_call 29; exact hqn _)
                          | (go_at_call 13; exact hqs _))
                        all_goals
                          go_wp2_with fail
                          refine bodyPost_ret (results_tmp4 rfl _ _ _) rfl ?_
                          rw [HG.out]
                          exact ⟨rfl, below_drewN hown.bel _⟩
            · have HG : Hid (getI bs = .error k) := Lib.hid (by
                unfold getI; rw [HK.out]; simp only; unfold getL
                rw [uvE_bad hu hk0])
              have hk0' : ¬ (k : Int) = 0 := by omega
              clear hu
              go_wp2_with fail
              refine bodyPost_ret (results_tmp4 rfl _ _ _) rfl ?_
              rw [HG.out]
              exact ⟨rfl, Below.refl _ _⟩
        · rw [if_neg hk] at HK
          -- DONE
          have HG : Hid (getI bs = .error 6) := Lib.hid (by unfold getI; rw [HK.out])
          have hx1 : ((x : Int) != 1) = true := by simp; omega
          have hx2 : ((x : Int) != 2) = true := by simp; omega
          clear hk
          go_enter Try.func15, Try.ntmps15
          go_wp2_with fail
          refine bodyPost_ret (results_tmp4 rfl _ _ _) rfl ?_
          rw [HG.out]
          exact ⟨rfl, Below.refl _ _⟩
      · have HG : Hid (getI bs = .error 2) := Lib.hid (by
          unfold getI getK
          rw [if_neg (by simpa [magB] using HMG.out), if_pos (by rw [HL.out]; omega)])
        -- DONE
        have hn4 : n = 4 := by omega
        subst hn4
        clear h hB hb h4 h5
        go_enter Try.func15, Try.ntmps15
        go_wp2_with fail
        refine bodyPost_ret (results_tmp4 rfl _ _ _) rfl ?_
        rw [HG.out]
        exact ⟨rfl, Below.refl _ _⟩
    · have HG : Hid (getI bs = .error 5) := Lib.hid (by
        unfold getI getK
        rw [if_pos (by simpa [magB] using hmg)])
      have hso := strB_other (fun x hx => hb x (List.mem_of_mem_take hx)) (by decide : ∀ x ∈ magB, x < 256) hmg
      rw [show (strB magB).toList = [71, 84, 83, 49] by rw [show strB magB = ({ data := #[71, 84, 83, 49] } : ByteArray) from rfl]; simp] at hso
      generalize strB (bs.take 4) = S at *
      -- DONE
      clear h hB hb hmg
      rcases (by omega : n = 4 ∨ 5 ≤ n) with h5 | h5
      · subst h5
        go_enter Try.func15, Try.ntmps15
        go_wp2_with fail
        refine bodyPost_ret (results_tmp4 rfl _ _ _) rfl ?_
        rw [HG.out]
        exact ⟨rfl, Below.refl _ _⟩
      · have h5' : ¬ (n : Int) ≤ 4 := by omega
        go_enter Try.func15, Try.ntmps15
        go_wp2_with fail
        refine bodyPost_ret (results_tmp4 rfl _ _ _) rfl ?_
        rw [HG.out]
        exact ⟨rfl, Below.refl _ _⟩
  · have HG : Hid (getI bs = .error 5) := Lib.hid (by
      unfold getI getK
      rw [if_pos (by
        intro e
        have := congrArg List.length e
        rw [List.length_take, HL.out] at this
        simp at this
        omega)])
    -- DONE
    clear h hB hb
    go_enter Try.func15, Try.ntmps15
    go_wp2_with fail
    refine bodyPost_ret (results_tmp4 rfl _ _ _) rfl ?_
    rw [HG.out]
    exact ⟨rfl, Below.refl _ _⟩

end Go.Proofs.Ytgmnhfkmneohcaa
