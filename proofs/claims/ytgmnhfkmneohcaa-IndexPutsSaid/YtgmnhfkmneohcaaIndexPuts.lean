/-
  The law IndexPuts, walked: it returns true.
-/
import Derived.Test.YtgmnhfkmneohcaaIdxUp
import Derived.Test.YtgmnhfkmneohcaaIdxList
import Derived.Test.YtgmnhfkmneohcaaIdxRef
import Derived.Test.YtgmnhfkmneohcaaIdxRMay
import Derived.Test.YtgmnhfkmneohcaaStr
import Derived.Test.YtgmnhfkmneohcaaLaw0
import Derived.Deep.DeepCutAuto
import Derived.Deep.RegionHeld3
namespace Go.Proofs.Ytgmnhfkmneohcaa
open Go.RowKit

theorem rmay_yes {k : Int} {es : List Ent} (hm : May k es) (A : Option Addr) (n c B : Nat) (w : World) (h : RdE w B A n c es) (hB : B ≤ w.heap.size) (hn : n ≤ 9223372036854775807) :
    Calls Try.prog 8 #[.int .i64 k, .slice A n c] w fun r w' => r = .returned (.bool true) ∧ Below w.heap.size w w' :=
  (rmay_any k A n c B es w h hB hn).mono fun r w' ⟨b, hb, hr, hw⟩ => ⟨by rw [hr, hb.2 hm], hw⟩
theorem rmay_no {k : Int} {es : List Ent} (hm : ¬ May k es) (A : Option Addr) (n c B : Nat) (w : World) (h : RdE w B A n c es) (hB : B ≤ w.heap.size) (hn : n ≤ 9223372036854775807) :
    Calls Try.prog 8 #[.int .i64 k, .slice A n c] w fun r w' => r = .returned (.bool false) ∧ Below w.heap.size w w' :=
  (rmay_any k A n c B es w h hB hn).mono fun r w' ⟨b, hb, hr, hw⟩ => ⟨by rw [hr]; congr 2; cases b with | true => exact absurd (hb.1 rfl) hm | false => rfl, hw⟩

set_option maxRecDepth 20000 in
set_option maxHeartbeats 2000000 in
theorem iputs_all (k : Int) (A : Option Addr) (n c : Nat) (es : List Ent) (W : World) (h : RdE W W.heap.size A n c es) (hn : n ≤ 9223372036854775807) :
    Calls Try.prog 3 #[.agg #[.int .i64 k, .slice A n c]] W (RetTrue W) := by
  have HL := Lib.hid h.len
  obtain ⟨w1, hw1⟩ : ∃ w1, w1 = W.alloc (.cells #[.int .i64 k, .slice A n c] 24) := ⟨_, rfl⟩
  have HW1 := Lib.hid hw1
  have HBW : Hid (Below W.heap.size W w1) := Lib.hid (by rw [hw1]; exact (Below.refl _ _).alloc (Nat.le_refl _) _)
  have HS1 : Hid (w1.heap.size = W.heap.size + 1) := Lib.hid (by rw [hw1]; simp)
  have HH : Hid (∀ w', Below w1.heap.size w1 w' → RdE w' W.heap.size A n c es) := Lib.hid (fun w' hb => h.below (HBW.out.trans (hb.mono HBW.out.size)))
  have HT : Hid (∀ w', Below w1.heap.size w1 w' → Below W.heap.size W w') := Lib.hid (fun w' hb => HBW.out.trans (hb.mono HBW.out.size))
  have HHD : Hid (∀ wr, Below w1.heap.size w1 wr → wr.cell? ⟨W.heap.size, 0, none⟩ = some (.int .i64 k) ∧ wr.cell? ⟨W.heap.size, 1, none⟩ = some (.slice A n c)) := Lib.hid (fun wr hb => head_cells (t := 24) (by rw [← HW1.out]; exact hb))
  clear h hw1
  have hup := up14_any w1
  go_enter Try.func3, Try.ntmps3
  go_wp2_with fail
  rw [← HW1.out]
  refine hup.mono ?_
  rintro e w2 ⟨rfl, hb2⟩
  obtain ⟨c0, c1⟩ := HHD.out w2 hb2
  clear hup
  by_cases h200 : n ≤ 200
  · have hput := iput_any k A n c _ es w2 (HH.out w2 hb2) (by have := hb2.size; have := HS1.out; omega) hn
    go_wp2_with fail
    refine hput.mono ?_
    rintro e w3 ⟨hy, hno⟩
    by_cases hm : May k es
    · have HM := Lib.hid hm
      obtain ⟨kn, rfl⟩ : ∃ kn : Nat, k = (kn : Int) := ⟨k.toNat, by have := hm.1; omega⟩
      have hk : kn = 1 ∨ kn = 2 := by have := hm.1; omega
      obtain ⟨A3, c3, rfl, ho3⟩ := hy hm
      rw [show ((kn : Int)).toNat = kn by omega] at ho3 ⊢
      have hb3 := hb2.trans (ho3.bel.mono hb2.size)
      clear hy hno hm c0 c1 hput
      have HSTR : Hid (∀ w', Below w3.heap.size w3 w' → (convert 26 9 (.slice A3 (idxB kn es).length c3)).run Try.prog w' = .ok (.string (strB (idxB kn es))) w') := Lib.hid (fun w' hb => run_str (ho3.rd.below hb))
      clear ho3
      obtain ⟨S, HS⟩ : ∃ S, Hid (S = strB (idxB kn es)) := ⟨_, Lib.hid rfl⟩
      rw [← HS.out] at HSTR
      generalize hml : (idxB kn es).length = ml at *
      replace hml := Lib.hid hml
      go_upto_region 5 with fail
      have hb3d := hb3.drew
      obtain ⟨c0, c1⟩ := HHD.out _ hb3d
      have hn' : es.length ≤ 9223372036854775807 := by rw [HL.out]; exact hn
      replace hn' := Lib.hid hn'
      have hl := fun w' (hb : Below w1.heap.size w1 w') => list_any A n c _ es w' (HH.out w' hb) (by have := hb.size; have := HS1.out; omega) (by omega)
      go_region_held3 (fun w' => w'.cell? ⟨W.heap.size, 0, none⟩ = some (.int .i64 (kn : Int)) ∧ w'.cell? ⟨W.heap.size, 1, none⟩ = some (.slice A n c))
        (first | exact ⟨c0, c1⟩ | exact HHD.out _ hb5 | exact HHD.out _ hb6) (first
        | (go_at_call 9; refine (hl _ hb3d).mono ?_; rintro e w5 ⟨A5, c5, rfl, ho5⟩; have hb5 := hb3d.trans (ho5.bel.mono hb3d.size))
        | (go_at_call 8; refine (rmay_yes HM.out _ _ _ _ _ ho5.rd (Nat.le_refl _) hn'.out).mono ?_; rintro e w6 ⟨rfl, hbw6⟩; have hb6 := hb5.trans (hbw6.mono hb5.size)))
      all_goals
        have hb7 : Below w3.heap.size w3 w6 := (((Below.refl w3.heap.size w3).drew).trans (ho5.bel.mono (Nat.le_refl _))).trans (hbw6.mono (by have := ho5.bel.size; exact this))
        clear ho5 hbw6 hb5 c0 c1 hl
        go_upto_region 8 with fail
        have hb6d := hb6.drew
        have hb7d := hb7.drew
        obtain ⟨c0, c1⟩ := HHD.out _ hb6d
        have hs0 := HSTR.out _ hb7d
        have hl := fun w' (hb : Below w1.heap.size w1 w') => list_any A n c _ es w' (HH.out w' hb) (by have := hb.size; have := HS1.out; omega) (by omega)
        have hn2 : Hid (es.length ≤ 65535) := Lib.hid (by rw [HL.out]; omega)
        have hSS : (S.toList == S.toList) = true := by simp
        have HSS : Hid (∀ w', Below w1.heap.size w1 w' → Below w3.heap.size w3 w' → (w'.cell? ⟨W.heap.size, 0, none⟩ = some (.int .i64 (kn : Int)) ∧ w'.cell? ⟨W.heap.size, 1, none⟩ = some (.slice A n c)) ∧ (convert 26 9 (.slice A3 ml c3)).run Try.prog w' = .ok (.string S) w') := Lib.hid (fun w' h1 h2 => ⟨HHD.out w' h1, HSTR.out w' h2⟩)
        refine wp_region_held_drew (S := fun w' => (w'.cell? ⟨W.heap.size, 0, none⟩ = some (.int .i64 (kn : Int)) ∧ w'.cell? ⟨W.heap.size, 1, none⟩ = some (.slice A n c)) ∧ (convert 26 9 (.slice A3 ml c3)).run Try.prog w' = .ok (.string S) w') (by kernel_rfl) (HSS.out _ hb6d hb7d) (fun hSn => ?_)
        refine wpAnyH_take (i := 0) (v := .bool true) rfl (by kernel_rfl) (by kernel_rfl) (by kernel_rfl) (fun _ _ _ h => h) (Or.inl ⟨by rfl, fun w hSw => by obtain ⟨⟨q0, q1⟩, q2⟩ := hSw; go_simp⟩) (by assumption) ?_
        simp only [Act.put, List.setIfInBounds_toArray, List.set_cons_zero, List.set_cons_succ, List.getElem_toArray, List.getElem_cons_zero]
        refine wpAnyH_take (i := 1) (v := .bool true) rfl (by kernel_rfl) (by kernel_rfl) (by kernel_rfl) (fun _ _ _ h => h) (Or.inl ⟨by rfl, fun w hSw => by obtain ⟨⟨q0, q1⟩, q2⟩ := hSw; go_simp⟩) (by assumption) ?_
        simp only [Act.put, List.setIfInBounds_toArray, List.set_cons_zero, List.set_cons_succ, List.getElem_toArray, List.getElem_cons_succ, List.getElem_cons_zero]
        refine wpAnyH_take (i := 2) (v := .nilIface) rfl (by kernel_rfl) (by kernel_rfl) (by kernel_rfl) (fun _ _ _ h => h) (Or.inl ⟨by rfl, fun w hSw => by obtain ⟨⟨q0, q1⟩, q2⟩ := hSw; go_simp⟩) (by assumption) ?_
        simp only [Act.put, List.setIfInBounds_toArray, List.set_cons_zero, List.set_cons_succ, List.getElem_toArray, List.getElem_cons_succ, List.getElem_cons_zero]
        refine wpAnyH_take (i := 3) (v := .bool true) rfl (by kernel_rfl) (by kernel_rfl) (by kernel_rfl) (fun _ _ _ h => h) (Or.inl ⟨by rfl, fun w hSw => by obtain ⟨⟨q0, q1⟩, q2⟩ := hSw; go_simp⟩) (by assumption) ?_
        simp only [Act.put, List.setIfInBounds_toArray, List.set_cons_zero, List.set_cons_succ, List.getElem_toArray, List.getElem_cons_succ, List.getElem_cons_zero]
        refine wpAnyH_take (i := 4) (v := .bool true) rfl (by kernel_rfl) (by kernel_rfl) (by kernel_rfl) (fun _ _ _ h => h) (Or.inl ⟨by rfl, fun w hSw => by obtain ⟨⟨q0, q1⟩, q2⟩ := hSw; go_simp⟩) (by assumption) ?_
        simp only [Act.put, List.setIfInBounds_toArray, List.set_cons_zero, List.set_cons_succ, List.getElem_toArray, List.getElem_cons_succ, List.getElem_cons_zero]
        refine wpAnyH_take (i := 5) (v := .bool true) rfl (by kernel_rfl) (by kernel_rfl) (by kernel_rfl) (fun _ _ _ h => h) (Or.inl ⟨by rfl, fun w hSw => by obtain ⟨⟨q0, q1⟩, q2⟩ := hSw; go_simp⟩) (by assumption) ?_
        simp only [Act.put, List.setIfInBounds_toArray, List.set_cons_zero, List.set_cons_succ, List.getElem_toArray, List.getElem_cons_succ, List.getElem_cons_zero]
        refine wpAnyH_take (i := 6) (v := .slice A3 ml c3) rfl (by kernel_rfl) (by kernel_rfl) (by kernel_rfl) (fun _ _ _ h => h) (Or.inl ⟨by rfl, fun w hSw => by obtain ⟨⟨q0, q1⟩, q2⟩ := hSw; go_simp⟩) (by assumption) ?_
        simp only [Act.put, List.setIfInBounds_toArray, List.set_cons_zero, List.set_cons_succ, List.getElem_toArray, List.getElem_cons_succ, List.getElem_cons_zero]
        refine wpAnyH_take (i := 7) (v := .string S) rfl (by kernel_rfl) (by kernel_rfl) (by kernel_rfl) (fun _ _ _ h => h) (Or.inl ⟨by rfl, fun w hSw => by obtain ⟨⟨q0, q1⟩, q2⟩ := hSw; go_simp⟩) (by assumption) ?_
        simp only [Act.put, List.setIfInBounds_toArray, List.set_cons_zero, List.set_cons_succ, List.getElem_toArray, List.getElem_cons_succ, List.getElem_cons_zero]
        refine wpAnyH_take (i := 8) (v := .pointer (some ⟨W.heap.size, 0, none⟩)) rfl (by kernel_rfl) (by kernel_rfl) (by kernel_rfl) (fun _ _ _ h => h) (Or.inl ⟨by rfl, fun w hSw => by obtain ⟨⟨q0, q1⟩, q2⟩ := hSw; go_simp⟩) (by assumption) ?_
        simp only [Act.put, List.setIfInBounds_toArray, List.set_cons_zero, List.set_cons_succ, List.getElem_toArray, List.getElem_cons_succ, List.getElem_cons_zero]
        refine wpAnyH_take (i := 9) (v := .int .i64 (kn : Int)) rfl (by kernel_rfl) (by kernel_rfl) (by kernel_rfl) (fun _ _ _ h => h) (Or.inl ⟨by rfl, fun w hSw => by obtain ⟨⟨q0, q1⟩, q2⟩ := hSw; go_simp⟩) (by assumption) ?_
        simp only [Act.put, List.setIfInBounds_toArray, List.set_cons_zero, List.set_cons_succ, List.getElem_toArray, List.getElem_cons_succ, List.getElem_cons_zero]
        refine wpAnyH_take (i := 10) (v := .pointer (some ⟨W.heap.size, 1, none⟩)) rfl (by kernel_rfl) (by kernel_rfl) (by kernel_rfl) (fun _ _ _ h => h) (Or.inl ⟨by rfl, fun w hSw => by obtain ⟨⟨q0, q1⟩, q2⟩ := hSw; go_simp⟩) (by assumption) ?_
        simp only [Act.put, List.setIfInBounds_toArray, List.set_cons_zero, List.set_cons_succ, List.getElem_toArray, List.getElem_cons_succ, List.getElem_cons_zero]
        refine wpAnyH_take (i := 11) (v := .slice A n c) rfl (by kernel_rfl) (by kernel_rfl) (by kernel_rfl) (fun _ _ _ h => h) (Or.inl ⟨by rfl, fun w hSw => by obtain ⟨⟨q0, q1⟩, q2⟩ := hSw; go_simp⟩) (by assumption) ?_
        simp only [Act.put, List.setIfInBounds_toArray, List.set_cons_zero, List.set_cons_succ, List.getElem_toArray, List.getElem_cons_succ, List.getElem_cons_zero]
        refine wpAnyH_ready (rs := [12]) (by kernel_rfl) (by simp) ?_
        refine AllReadyH.cons rfl (fun K hK => ?_) AllReadyH.nil
        go_simp
        refine (hl _ hb6d).mono ?_
        rintro e w8 ⟨A8, c8, rfl, ho8⟩
        have hb8 := hb6d.trans (ho8.bel.mono hb6d.size)
        have hb8' := hb7d.trans (ho8.bel.mono hb7d.size)
        refine hK.out _ _ (HSS.out _ hb8 hb8') (fun hS8 => ?_)
        clear hK K
        try simp only [Act.put, List.setIfInBounds_toArray, List.set_cons_zero, List.set_cons_succ, List.getElem_toArray, List.getElem_cons_succ, List.getElem_cons_zero]
        refine wpAnyH_ready (rs := [13]) (by kernel_rfl) (by simp) ?_
        refine AllReadyH.cons rfl (fun K hK => ?_) AllReadyH.nil
        go_simp
        refine (rindex_any kn _ _ _ _ _ _ ho8.rd (Nat.le_refl _) hn2.out hk).mono ?_
        rintro e w9 ⟨A9, c9, rfl, ho9⟩
        have hb9 := hb8.trans (ho9.bel.mono hb8.size)
        have hb9' := hb8'.trans (ho9.bel.mono hb8'.size)
        have hs3 := run_str ho9.rd
        rw [← HS.out] at hs3
        refine hK.out _ _ (HSS.out _ hb9 hb9') (fun hS9 => ?_)
        clear hK K
        try simp only [Act.put, List.setIfInBounds_toArray, List.set_cons_zero, List.set_cons_succ, List.getElem_toArray, List.getElem_cons_succ, List.getElem_cons_zero]
        refine wpAnyH_ready (rs := [14]) (by kernel_rfl) (by simp) ?_
        refine AllReadyH.cons rfl (fun K hK => ?_) AllReadyH.nil
        go_simp
        refine hK.out _ _ (HSS.out _ hb9 hb9') (fun hS9 => ?_)
        clear hK K
        try simp only [Act.put, List.setIfInBounds_toArray, List.set_cons_zero, List.set_cons_succ, List.getElem_toArray, List.getElem_cons_succ, List.getElem_cons_zero]
        refine wpAnyH_take (i := 15) (v := .bool true) rfl (by kernel_rfl) (by kernel_rfl) (by kernel_rfl) (fun _ _ _ h => h) (Or.inl ⟨by rfl, fun w hSw => by obtain ⟨⟨q0, q1⟩, q2⟩ := hSw; go_simp⟩) (by assumption) ?_
        simp only [Act.put, List.setIfInBounds_toArray, List.set_cons_zero, List.set_cons_succ, List.getElem_toArray, List.getElem_cons_succ, List.getElem_cons_zero]
        refine wpAnyH_take (i := 16) (v := .bool true) rfl (by kernel_rfl) (by kernel_rfl) (by kernel_rfl) (fun _ _ _ h => h) (Or.inl ⟨by rfl, fun w hSw => by obtain ⟨⟨q0, q1⟩, q2⟩ := hSw; go_simp⟩) (by assumption) ?_
        simp only [Act.put, List.setIfInBounds_toArray, List.set_cons_zero, List.set_cons_succ, List.getElem_toArray, List.getElem_cons_succ, List.getElem_cons_zero]
        refine wpAnyH_take (i := 17) (v := .bool true) rfl (by kernel_rfl) (by kernel_rfl) (by kernel_rfl) (fun _ _ _ h => h) (Or.inl ⟨by rfl, fun w hSw => by obtain ⟨⟨q0, q1⟩, q2⟩ := hSw; go_simp⟩) (by assumption) ?_
        simp only [Act.put, List.setIfInBounds_toArray, List.set_cons_zero, List.set_cons_succ, List.getElem_toArray, List.getElem_cons_succ, List.getElem_cons_zero]
        refine wpAnyH_done (by kernel_rfl) ?_ _
        all_goals
          go_wp2_with fail
          go_ret
          exact ⟨rfl, HT.out _ hb9⟩
    · have HM := Lib.hid hm
      obtain ⟨rfl, hb23⟩ := hno hm
      have hb3 := hb2.trans (hb23.mono hb2.size)
      rw [show errV 1 = .iface 50 (.int .i64 1) from rfl]
      clear hy hno hm c0 c1 hput hb23
      go_upto_region 5 with fail
      have hb3d := hb3.drew
      obtain ⟨c0, c1⟩ := HHD.out _ hb3d
      have hn' : es.length ≤ 9223372036854775807 := by rw [HL.out]; exact hn
      replace hn' := Lib.hid hn'
      have hl := fun w' (hb : Below w1.heap.size w1 w') => list_any A n c _ es w' (HH.out w' hb) (by have := hb.size; have := HS1.out; omega) (by omega)
      go_region_held3 (fun w' => w'.cell? ⟨W.heap.size, 0, none⟩ = some (.int .i64 k) ∧ w'.cell? ⟨W.heap.size, 1, none⟩ = some (.slice A n c))
        (first | exact ⟨c0, c1⟩ | exact HHD.out _ hb5 | exact HHD.out _ hb6) (first
        | (go_at_call 9; refine (hl _ hb3d).mono ?_; rintro e w5 ⟨A5, c5, rfl, ho5⟩; have hb5 := hb3d.trans (ho5.bel.mono hb3d.size))
        | (go_at_call 8; refine (rmay_no HM.out _ _ _ _ _ ho5.rd (Nat.le_refl _) hn'.out).mono ?_; rintro e w6 ⟨rfl, hbw6⟩; have hb6 := hb5.trans (hbw6.mono hb5.size)))
      all_goals
        clear ho5 hbw6 hb5 c0 c1 hl
        have hcd := fun w' => code_any 1 w' (by omega)
        rw [show errV 1 = .iface 50 (.int .i64 1) from rfl] at hcd
        go_wp2_with (go_at_call 10; refine (hcd _).mono ?_; rintro e w7 ⟨rfl, rfl⟩)
        go_ret
        exact ⟨rfl, HT.out _ hb6⟩
  · have h200' : (200 : Int) < (n : Int) := by omega
    go_wp2_with fail
    go_ret
    exact ⟨rfl, HT.out _ hb2⟩

end Go.Proofs.Ytgmnhfkmneohcaa
