/-
  The contract of the reference's MayIndex: whether an index may be.
-/
import Derived.Test.YtgmnhfkmneohcaaIdxMay
import Derived.Deep.QuietTactic
import Derived.BigQuiet
namespace Go.Proofs.Ytgmnhfkmneohcaa
open Go.RowKit

set_option maxRecDepth 20000 in
set_option maxHeartbeats 1000000 in
theorem rmay_any (k : Int) (A : Option Addr) (n c B : Nat) (es : List Ent) (w : World) (h : RdE w B A n c es) (hB : B ≤ w.heap.size) (hn : n ≤ 9223372036854775807) :
    Calls Try.prog 8 #[.int .i64 k, .slice A n c] w (RetDP w (May k es)) := by
  have HL := Lib.hid h.len
  have HB := Lib.hid hB
  have HH := Lib.hid h
  have HT : May k es → ∀ w', Below w.heap.size w w' → RetDP w (May k es) (.returned (.bool true)) w' := fun h w' hb => ⟨true, ⟨fun _ => h, fun _ => rfl⟩, rfl, hb⟩
  have HF : ¬ May k es → ∀ w', Below w.heap.size w w' → RetDP w (May k es) (.returned (.bool false)) w' := fun h w' hb => ⟨false, ⟨fun h2 => (by cases h2), fun h2 => absurd h2 h⟩, rfl, hb⟩
  replace HT := Lib.hid HT
  replace HF := Lib.hid HF
  clear h hB
  by_cases hk : k = 1 ∨ k = 2
  · have HK := Lib.hid hk
    by_cases h6 : n ≤ 65535
    · have h6' : ¬ (65535 < (n : Int)) := by omega
      go_enter Try.func8, Try.ntmps8
      rcases hk with rfl | rfl
      all_goals
        clear h6'
        go_wp2
        go_loopw [5] (fun i wr => ∃ j : Nat, j ≤ n ∧ i = .int .i64 (j : Int) ∧ MayTo es j ∧ Below w.heap.size w wr) (fun i _ => n - (intOf i).toNat)
        case atStart => exact ⟨0, by omega, rfl, MayTo.zero _, Below.refl _ _⟩
        case round =>
          obtain ⟨j, hj, rfl, hto, hbel⟩ := hrel
          have HTO := Lib.hid hto
          clear hto
          by_cases hlt : j < n
          · have hadA := (HH.out.below (hbel.mono HB.out)).at_ hlt
            have hadP := fun h : j - 1 < n => (HH.out.below (hbel.mono HB.out)).at_ h
            obtain ⟨ad, rfl, hbb, hc⟩ := hadA
            have hsz := hbel.size
            have hbw := HB.out
            obtain ⟨x, HX⟩ : ∃ x, Hid (x = es.getD j ent0) := ⟨_, Lib.hid rfl⟩
            rw [← HX.out] at hc
            obtain ⟨c0, c1, c2, c3⟩ := hc
            obtain ⟨m, x1, ct, l⟩ := x
            simp only at c0 c1 c2 c3
            have hbV : Below w.heap.size w (wr.alloc (.cells #[.int .i64 m, .int .i64 x1, .int .i64 ct, .int .i64 l] 55)) := hbel.alloc hbel.size _
            have HNO : Hid (¬ MayE ⟨m, x1, ct, l⟩ → ∀ w', Below w.heap.size w w' → RetDP w (May _ es) (.returned (.bool false)) w') := Lib.hid (fun hm => HF.out (fun h => hm (by
              have h2 := (h.2.2 j (by have := HL.out; omega)).1
              rw [← HX.out] at h2
              exact h2)))
            by_cases h1 : 1 ≤ ct
            · by_cases h2 : ct ≤ 65535
              · by_cases h3 : 4 ≤ l
                · by_cases h4 : l ≤ 2147483647
                  · by_cases h5 : m ≤ x1
                    · have hm : MayE ⟨m, x1, ct, l⟩ := ⟨⟨h1, h2⟩, ⟨h3, h4⟩, h5⟩
                      have HM := Lib.hid hm
                      clear hm HNO
                      obtain ⟨V, hV⟩ : ∃ V, V = wr.alloc (.cells #[.int .i64 m, .int .i64 x1, .int .i64 ct, .int .i64 l] 55) := ⟨_, rfl⟩
                      have e0 : V.drew.cell? ⟨wr.heap.size, 0, none⟩ = some (.int .i64 m) := by rw [hV]; simp
                      have hVw : Below wr.heap.size wr V.drew := by rw [hV]; exact ((Below.refl _ _).alloc (Nat.le_refl _) _).drew
                      have e0' : V.cell? ⟨wr.heap.size, 0, none⟩ = some (.int .i64 m) := e0
                      rcases Nat.eq_zero_or_pos j with hj0 | hjp
                      · subst hj0
                        clear hadP
                        rw [show ad.add (0 * 4) = ad by simp [Addr.add]] at c0 c1 c2 c3
                        go_wp2_with fail
                        rw [← hV] at hbV ⊢
                        clear hV c0 c1 c2 c3
                        go_quiet (fail)
                        go_wp2_with fail
                        go_roundw
                        case rel => exact ⟨0 + 1, by omega, by go_num, HTO.out.succ (by rw [← HX.out]; exact HM.out) (by omega), below_drewN hbV _⟩
                        case measure => simp [intOf]; omega
                      · obtain ⟨i, rfl⟩ : ∃ i, j = i + 1 := ⟨j - 1, by omega⟩
                        have hin : i < n := by omega
                        have hin0 : (0 : Int) ≤ (i : Int) := by omega
                        have hin1 : (i : Int) < (n : Int) := by omega
                        have hwr : IntKind.i64.wrap (i : Int) = (i : Int) := by rw [IntKind.wrap_i64]; omega
                        obtain ⟨adP, hadE, hbP, hcP⟩ := hadP (by omega)
                        injection hadE with hadE
                        subst hadE
                        rw [show i + 1 - 1 = i by omega] at hcP
                        have cP := hcP.c1
                        clear hcP hadP
                        obtain ⟨y, HY⟩ : ∃ y, Hid (y = (es.getD i ent0).mx) := ⟨_, Lib.hid rfl⟩
                        rw [← HY.out] at cP
                        have cP' : V.cell? ⟨(ad.add (i * 4)).block, (ad.add (i * 4)).off + 1, none⟩ = some (.int .i64 y) := (hVw.cell (p := ⟨(ad.add (i * 4)).block, (ad.add (i * 4)).off + 1, none⟩) (by simp only [add_block] at hbP ⊢; omega)).trans cP
                        by_cases hlt2 : y < m
                        · go_wp2_with fail
                          rw [← hV] at hbV ⊢
                          clear hV c0 c1 c2 c3
                          go_quiet (fail)
                          go_wp2_with fail
                          go_roundw
                          case rel =>
                            refine ⟨i + 1 + 1, by omega, by go_num, HTO.out.succ (by rw [← HX.out]; exact HM.out) (fun _ => ?_), below_drewN hbV _⟩
                            rw [show i + 1 - 1 = i by omega, ← HX.out, ← HY.out]
                            exact hlt2
                          case measure => simp [intOf]; omega
                        · go_wp2_with fail
                          rw [← hV] at hbV ⊢
                          clear hV c0 c1 c2 c3
                          go_quiet (fail)
                          go_wp2_with fail
                          go_ret
                          refine HF.out (fun h => ?_) _ (below_drewN hbV _)
                          have h2 := (h.2.2 (i + 1) (by have := HL.out; omega)).2 (by omega)
                          rw [show i + 1 - 1 = i by omega, ← HX.out, ← HY.out] at h2
                          simp only at h2
                          omega
                    · clear hadP
                      go_wp2
                      go_ret
                      exact HNO.out (fun h => by unfold MayE at h; simp only at h; omega) _ hbV
                  · clear hadP
                    go_wp2
                    go_ret
                    exact HNO.out (fun h => by unfold MayE at h; simp only at h; omega) _ hbV
                · clear hadP
                  go_wp2
                  go_ret
                  exact HNO.out (fun h => by unfold MayE at h; simp only at h; omega) _ hbV
              · clear hadP
                go_wp2
                go_ret
                exact HNO.out (fun h => by unfold MayE at h; simp only at h; omega) _ hbV
            · clear hadP
              go_wp2
              go_ret
              exact HNO.out (fun h => by unfold MayE at h; simp only at h; omega) _ hbV
          · go_wp2
            go_ret
            have e : j = es.length := by have := HL.out; omega
            subst e
            exact HT.out ⟨by omega, by have := HL.out; omega, HTO.out⟩ _ hbel
    · go_enter Try.func8, Try.ntmps8
      rcases hk with rfl | rfl
      all_goals
        go_wp2
        go_ret
        exact HF.out (fun h => by have := h.2.1; have := HL.out; omega) _ (Below.refl _ _)
  · have HK := Lib.hid hk
    have e1 : ¬ k = 1 := fun h => hk (.inl h)
    have e2 : ¬ k = 2 := fun h => hk (.inr h)
    clear hk
    go_enter Try.func8, Try.ntmps8
    go_wp2
    go_ret
    exact HF.out (fun h => HK.out h.1) _ (Below.refl _ _)

end Go.Proofs.Ytgmnhfkmneohcaa
