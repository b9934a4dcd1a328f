/-
  The contract of layer 20's Collect.
-/
import Derived.Test.YtbocpgffddkfdaaGreatDoorSeqCol
namespace Go.Proofs.YtbocpgffddkfdaaGreatDoor
open Go.RowKit

attribute [local go_sem] Oper.semAt_some

section
variable {T : TypeId} {fN fS fA B g : Nat} {xs : List (Int × Nat)} {In : (Nat → Prop) → World → Int → Bool → Prop}

/-- what is collected, and where the iterator stands then -/
def RetCol (In : (Nat → Prop) → World → Int → Bool → Prop) (P0 : Nat → Prop) (w : World) (g : Nat) (l : List (Int × Nat)) (a : Int) (d : Bool) (e : Ending) (w' : World) : Prop :=
  ∃ A c, e = .returned (.slice A l.length c) ∧ RdQ w' w'.heap.size A l.length c l ∧ In P0 w' a d ∧ w.grownBy w' (some g) ∧ ∀ ad, A = some ad → w.heap.size ≤ ad.block

set_option maxRecDepth 20000 in
set_option maxHeartbeats 4000000 in
theorem collect_any (X : ItOk T fN fS fA B g xs In) (P0 : Nat → Prop) (a0 most : Int) (d0 : Bool) (w : World) (hi : In P0 w a0 d0) (hP : ∀ j, P0 j → j < w.heap.size) (hm : -9223372036854775808 ≤ most ∧ most ≤ 9223372036854775807) :
    Calls Tryz.prog 19 #[.iface T (.pointer (some ⟨g, 0, none⟩)), .int .i64 most] w (RetCol In P0 w g ((restQ xs a0 d0).take most.toNat) (colA xs a0 d0 most.toNat) (colD xs a0 d0 most.toNat)) := by
  refine (callsIn_wide (n := 9)).1 (callsIn_of_wp_marks Tryz.func19 rfl trivial ?_)
  simp only [Tryz.ntmps19, List.size_toArray, List.length_cons, List.length_nil, Nat.reduceAdd, Nat.reduceSub, Array.replicate_succ, Array.replicate_zero, List.push_toArray, List.append_toArray, List.nil_append, List.cons_append]
  by_cases hm1 : most < 1
  · have hz : most.toNat = 0 := by omega
    gi_wp2
    rw [hz]
    refine ⟨_, results_tmp rfl _ _ _, none, 0, rfl, rd_no0 _ _, ?_, World.grownBy_alloc _ _ _, fun ad e => by cases e⟩
    have e1 : colA xs a0 d0 0 = a0 := by simp [colA]
    have e2 : colD xs a0 d0 0 = d0 := by simp [colD]
    rw [e1, e2]
    exact X.below hi ((Below.refl _ _).alloc (Nat.le_refl _) _)
  · have hm1' : ¬ most < 1 := hm1
    have hg0 := X.lt hi
    have hst := X.stands hi
    have hgP := X.at_ hi
    have hge := X.ge hi
    have hbase := X.base
    have hb3 : Below w.heap.size w (((w.alloc (.cells #[.int .i64 most] 3)).alloc (.cells #[.slice none 0 0] 27)).alloc (.cells #[.iface T (.pointer (some ⟨g, 0, none⟩))] 80)) := (((Below.refl _ w).alloc (Nat.le_refl _) _).alloc (by simp) _).alloc (by simp; omega) _
    have bm : Boxed (((w.alloc (.cells #[.int .i64 most] 3)).alloc (.cells #[.slice none 0 0] 27)).alloc (.cells #[.iface T (.pointer (some ⟨g, 0, none⟩))] 80)) w.heap.size 3 (.int .i64 most) := ((Boxed.new w _ _).alloc _).alloc _
    have bl : Boxed (((w.alloc (.cells #[.int .i64 most] 3)).alloc (.cells #[.slice none 0 0] 27)).alloc (.cells #[.iface T (.pointer (some ⟨g, 0, none⟩))] 80)) (w.heap.size + 1) 27 (.slice none 0 0) := by
      have := (Boxed.new (w.alloc (.cells #[.int .i64 most] 3)) 27 (.slice none 0 0)).alloc (.cells #[.iface T (.pointer (some ⟨g, 0, none⟩))] 80)
      rwa [World.size_alloc] at this
    have bx : Boxed (((w.alloc (.cells #[.int .i64 most] 3)).alloc (.cells #[.slice none 0 0] 27)).alloc (.cells #[.iface T (.pointer (some ⟨g, 0, none⟩))] 80)) (w.heap.size + 2) 80 (.iface T (.pointer (some ⟨g, 0, none⟩))) := by
      have := Boxed.new ((w.alloc (.cells #[.int .i64 most] 3)).alloc (.cells #[.slice none 0 0] 27)) 80 (.iface T (.pointer (some ⟨g, 0, none⟩)))
      rwa [World.size_alloc, World.size_alloc] at this
    have hfix : ColFix w g (w.heap.size + 1) w.heap.size (w.heap.size + 2) := ⟨hg0, by omega, by omega, by omega, by omega, by omega⟩
    have hsz : (((w.alloc (.cells #[.int .i64 most] 3)).alloc (.cells #[.slice none 0 0] 27)).alloc (.cells #[.iface T (.pointer (some ⟨g, 0, none⟩))] 80)).heap.size = w.heap.size + 3 := by simp
    gi_wp2_with fail
    refine ⟨trivial, (callsIn_wide.2 (all_any T g _)).mono ?_⟩
    rintro e w1 ⟨rfl, rfl⟩
    obtain ⟨V, hV⟩ : ∃ V, V = ((w.alloc (.cells #[.int .i64 most] 3)).alloc (.cells #[.slice none 0 0] 27)).alloc (.cells #[.iface T (.pointer (some ⟨g, 0, none⟩))] 80) := ⟨_, rfl⟩
    rw [← hV] at hb3 bm bl bx hsz ⊢
    have hAt : AtCol w P0 g (w.heap.size + 1) w.heap.size (w.heap.size + 2) 3 (.int .i64 most) (.iface T (.pointer (some ⟨g, 0, none⟩))) (restQ xs a0 d0) (fun j => P0 j ∨ j = w.heap.size + 1) 0 V :=
      ⟨⟨_, bl, RowQ.nil_ _ _, fun j e => by cases e⟩, bm, bx, fun j hj => by
        rcases hj with hj | rfl
        · have := hP j hj
          omega
        · omega, .inr rfl, grown_below hb3 _, fun j hj => .inl hj⟩
    have hIn : In (fun j => P0 j ∨ j = w.heap.size + 1) V a0 d0 := X.below (X.also hi (fun j hj hl => by
      rcases hj with hj | rfl
      · exact hj
      · omega) (.inl hgP) (fun j hj => by
      rcases hj with hj | rfl
      · exact hge j hj
      · omega)) hb3
    clear hV hb3 bm bl bx
    obtain ⟨ys, hys⟩ : ∃ ys, ys = restQ xs a0 d0 := ⟨_, rfl⟩
    rw [← hys] at hAt
    have HYS := Lib.hid hys
    obtain ⟨C, hC⟩ : ∃ C : (Nat → Prop) → Nat → World → Prop, C = fun (P : Nat → Prop) (k : Nat) (W : World) => AtCol w P0 g (w.heap.size + 1) w.heap.size (w.heap.size + 2) 3 (.int .i64 most) (.iface T (.pointer (some ⟨g, 0, none⟩))) ys P k W ∧ (k : Int) < most := ⟨_, rfl⟩
    obtain ⟨Ix, hIx⟩ : ∃ Ix : Code → Nat → Int → World → Prop, Ix = fun (c : Code) (k : Nat) (a : Int) (W : World) => c = Code.exit 0 ∧ (k : Int) + 1 = most ∧ ∃ P, AtCol w P0 g (w.heap.size + 1) w.heap.size (w.heap.size + 2) 3 (.int .i64 most) (.iface T (.pointer (some ⟨g, 0, none⟩))) ys P (k + 1) W ∧ In P W a false := ⟨_, rfl⟩
    have hC0 : ∀ P k W, C P k W → (∀ j, P j → j < W.heap.size) ∧ W.cell? ⟨w.heap.size + 2, 0, none⟩ = some (.iface T (.pointer (some ⟨g, 0, none⟩))) := fun P k W h => by
      rw [hC] at h
      exact ⟨h.1.inP, h.1.bx.cell⟩
    have hC1 : ∀ P k W W', C P k W → W.grownBy W' (some g) → C P k W' := fun P k W W' h hg => by
      rw [hC] at h ⊢
      exact ⟨h.1.step hfix hg, h.2⟩
    have hC2 : ∀ k a d, NoCells V.heap.size (fun W => ∃ P, C P k W ∧ In P W a d) := fun k a d W W' row h hg hr => by
      obtain ⟨P, hc, hi⟩ := h
      rw [hC] at hc
      refine ⟨P, ?_, X.own hi hg (fun r e => ⟨by have := (hr r e).1; omega, (hr r e).2⟩)⟩
      rw [hC]
      exact ⟨hc.1.noCells hg (fun r e => ⟨by have := (hr r e).1; omega, (hr r e).2⟩), hc.2⟩
    have hIx2 : ∀ c k a, NoCells V.heap.size (Ix c k a) := fun c k a W W' row h hg hr => by
      rw [hIx] at h ⊢
      obtain ⟨e1, e2, P, hc, hi⟩ := h
      exact ⟨e1, e2, P, hc.noCells hg (fun r e => ⟨by have := (hr r e).1; omega, (hr r e).2⟩), X.own hi hg (fun r e => ⟨by have := (hr r e).1; omega, (hr r e).2⟩)⟩
    gi_wp2_with fail
    refine wpIn_turns (m := 9) (gf := 56) (lb := #[.pointer (some ⟨w.heap.size + 2, 0, none⟩)]) (arg := argQ xs) (fun k a d W => ∃ P, C P k W ∧ In P W a d) Ix
      (fun x => { tmps := #[.iface T (.pointer (some ⟨g, 0, none⟩)), .int .i64 most, undef, .pointer (some ⟨w.heap.size, 0, none⟩), .slice none 0 0, .pointer (some ⟨w.heap.size + 1, 0, none⟩), .int .i64 (lookQ xs x false).1, .int .u64 ((lookQ xs x false).2 : Int), .int .i64 most, .bool false, .iface T (.pointer (some ⟨g, 0, none⟩)), .func (.func 56) #[] #[.pointer (some ⟨w.heap.size + 2, 0, none⟩)], .int .i64 (lookQ xs x false).1, .int .u64 ((lookQ xs x false).2 : Int), undef, undef, undef, undef, undef, undef, undef, undef, undef, undef, undef], defers := [] })
      (by omega) rfl (enters_of Tryz.func56 (by kernel_rfl) rfl) (all_turns X 8 C (w.heap.size + 2) hC0 hC1 a0 d0) (fun _ => rfl) hC2 hIx2 ⟨_, by rw [hC]; exact ⟨hAt, by omega⟩, hIn⟩ ?assign ?body ?done ?stop
    case assign =>
      intro l x W K hK
      unfold argQ
      gi_wp2
      exact hK
    case body =>
      rintro l k x W ⟨hd0, hx, hxl⟩ ⟨P, hc, hi⟩
      rw [hC] at hc
      obtain ⟨hA, hkm⟩ := hc
      obtain ⟨v, hv, hrow, hvP⟩ := hA.lst
      have hbm := hA.bm
      unfold StandsAt at hst
      have hg1 := restQ_get (xs := xs) (a := a0) hst.1 k (by omega)
      have e0 : restQ xs a0 false = ys := by rw [hys, hd0]
      rw [e0, ← hx] at hg1
      have hkl : (ys.take k).length = k ∧ (ys.take (k + 1)).length = k + 1 := by
        have h1 := restQ_len (xs := xs) hst
        rw [e0] at h1
        rw [List.length_take, List.length_take]
        omega
      have hfq : FitQ (lookQ xs x false) := by
        have : lookQ xs x false = xs.getD x.toNat (0, 0) := by
          unfold lookQ
          rw [if_neg]
          intro h
          rcases h with h | h
          · cases h
          · omega
        rw [this, List.getD_eq_getElem?_getD, List.getElem?_eq_getElem (by omega)]
        exact X.fit _ (List.getElem_mem _)
      have hfew := X.few
      have hk1 : k ≤ 100000 := by omega
      have HP := Lib.hid hC
      have HQ := Lib.hid hIx
      clear e0 hC hIx hC0 hC1 hC2 hIx2 hAt hIn hys HYS hx hxl
      generalize lookQ xs x false = lk at *
      have h1q := RdQ.one W lk hfq
      have hWs := hA.gr.size
      obtain ⟨q1, q2⟩ := lk
      dsimp only at h1q ⊢
      have hcv := hv.cell
      have hcm := hbm.cell
      gi_wp2_with (gi_at_builtin; refine wpListIn_rowQ rfl (.tmp 14) (.tmp 18) rfl rfl rfl (hrow.alloc _) (by rw [World.size_alloc]; omega) h1q (by rw [hkl.1]; omega) ?_; intro v' w1 hrow' hg2 hat; rw [← hg1] at hrow'; obtain ⟨hv1, hko, hput⟩ := AtCol.put X hfix hA hi (by decide) hv hrow hvP hrow' hg2 hat; have hcv1 := hv1.cell; have hfv1 := hv1.frozen; obtain ⟨P', hA', hi'⟩ := hput; have hcm' := hA'.bm.cell; obtain ⟨A', c', rfl⟩ := hrow'.form; rw [hkl.2] at *)
      · refine ⟨hko, ?_⟩
        rw [HQ.out]
        have heq : ((k : Int) + 1 == most) = true := by assumption
        exact ⟨rfl, by simpa using heq, P', hA', hi'⟩
      · refine ⟨hko, P', ?_, hi'⟩
        rw [HP.out]
        have hne : ((k : Int) + 1 == most) = false := by assumption
        have hne2 : ¬ ((k : Int) + 1 = most) := by simpa using hne
        exact ⟨hA', by omega⟩
    case done =>
      rintro D k x d W hD ⟨rfl, hx, hend⟩ ⟨P, hc, hi⟩ hK
      rw [hC] at hc
      obtain ⟨hA, hkm⟩ := hc
      obtain ⟨A, c, hv, hq, hi0, hgr, hnew⟩ := hA.ret X hfix hi hgP hge (by omega) (.deferred none) hK rfl
      have hlen : ys.length = k := by
        rcases hend with ⟨e1, e2⟩ | ⟨e1, e2⟩
        · rw [hys, e1, restQ_done, e2]
          rfl
        · have h1 := restQ_len (xs := xs) hst
          rw [← e1, ← hys] at h1
          unfold StandsAt at hst
          omega
      have HF : Hid (RetCol In P0 w g ((restQ xs a0 d0).take most.toNat) (colA xs a0 d0 most.toNat) (colD xs a0 d0 most.toNat) (.returned (.slice A (ys.take k).length c)) (W.putObj D (.deferred none))) := Lib.hid (by
        have e1 : colA xs a0 d0 most.toNat = x := by
          unfold colA
          rw [← hys, hlen, hx]
          omega
        have e2 : colD xs a0 d0 most.toNat = true := by
          unfold colD
          rw [← hys, hlen, if_pos (by omega)]
        rw [e1, e2, ← hys]
        have e3 : ys.take most.toNat = ys.take k := by
          rw [List.take_of_length_le (by omega), List.take_of_length_le (by omega)]
        rw [e3]
        exact ⟨A, c, rfl, hq, hi0, hgr, hnew⟩)
      have hcv := hv.cell
      obtain ⟨L, hL⟩ : ∃ L, (ys.take k).length = L := ⟨_, rfl⟩
      rw [hL] at HF hcv
      clear hC hIx hC0 hC1 hC2 hIx2 hAt hIn hys HYS hx hend hq hA hi hi0 hgr hlen hv hL
      gi_wp2
      refine ⟨by simp, .inl ⟨_, _, rfl, run_takeDeferred hK, ?_⟩⟩
      refine ⟨_, results_tmp rfl _ _ _, ?_⟩
      exact HF.out
    case stop =>
      rintro D c k x W hD ⟨hd0, hx, hxl⟩ hix hK
      rw [hIx] at hix
      obtain ⟨rfl, hkm, P, hA, hi⟩ := hix
      obtain ⟨A, c, hv, hq, hi0, hgr, hnew⟩ := hA.ret X hfix hi hgP hge (by omega) (.deferred none) hK rfl
      have hlen : k + 1 ≤ ys.length := by
        have h1 := restQ_len (xs := xs) hst
        rw [← hd0, ← hys] at h1
        omega
      have HF : Hid (RetCol In P0 w g ((restQ xs a0 d0).take most.toNat) (colA xs a0 d0 most.toNat) (colD xs a0 d0 most.toNat) (.returned (.slice A (ys.take (k + 1)).length c)) (W.putObj D (.deferred none))) := Lib.hid (by
        have e3 : most.toNat = k + 1 := by omega
        rw [e3]
        have e1 : colA xs a0 d0 (k + 1) = x := by
          unfold colA
          rw [← hys, hx]
          omega
        have e2 : colD xs a0 d0 (k + 1) = false := by
          unfold colD
          rw [← hys, if_neg (by omega), hd0]
        rw [e1, e2, ← hys]
        exact ⟨A, c, rfl, hq, hi0, hgr, hnew⟩)
      have hcv := hv.cell
      obtain ⟨L, hL⟩ : ∃ L, (ys.take (k + 1)).length = L := ⟨_, rfl⟩
      rw [hL] at HF hcv
      clear hC hIx hC0 hC1 hC2 hIx2 hAt hIn hys HYS hx hq hA hi hi0 hgr hlen hv hL
      gi_wp2
      refine ⟨by simp, .inl ⟨_, _, rfl, run_takeDeferred hK, ?_⟩⟩
      refine ⟨_, results_tmp rfl _ _ _, ?_⟩
      exact HF.out
/-- all of them, from the beginning -/
theorem col_all (xs : List (Int × Nat)) : (restQ xs (-1) false).take ((xs.length : Int) + 1).toNat = xs ∧ colA xs (-1) false ((xs.length : Int) + 1).toNat = (xs.length : Int) - 1 ∧ colD xs (-1) false ((xs.length : Int) + 1).toNat = true := by
  have h0 : restQ xs (-1) false = xs := by rw [restQ_live]; rfl
  have h1 : ((xs.length : Int) + 1).toNat = xs.length + 1 := by omega
  refine ⟨by rw [h0, h1, List.take_of_length_le (by omega)], ?_, ?_⟩
  · unfold colA
    rw [h0, h1]
    omega
  · unfold colD
    rw [h0, h1, if_pos (by omega)]
end

end Go.Proofs.YtbocpgffddkfdaaGreatDoor
