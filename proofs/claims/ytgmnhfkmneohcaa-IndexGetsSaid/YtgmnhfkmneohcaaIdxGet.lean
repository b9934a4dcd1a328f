/-
  The contract of the program's Get: the index that bytes begin with, and how many bytes it has, or what is amiss first.
-/
import Derived.Test.YtgmnhfkmneohcaaIdxGet1
import Derived.Test.YtgmnhfkmneohcaaIdxGet3
import Derived.Test.YtgmnhfkmneohcaaIdxMayBe
namespace Go.Proofs.Ytgmnhfkmneohcaa
open Go.RowKit

theorem getK_err {bs : List Nat} {e : Nat} (h : getK bs = .error e) : e ≠ 0 ∧ e ≤ 9 := by
  unfold getK at h
  split at h
  · injection h with h; omega
  · split at h
    · injection h with h; omega
    · split at h
      · cases h
      · injection h with h; omega
theorem uvE_err9 {bs : List Nat} {a e : Nat} (h : uvE bs a = .error e) : e ≤ 9 := by
  have key : (ug bs a).2.2 ≤ 9 := by
    unfold ug
    split
    · rename_i hx
      have := (uat_le (Classical.choose_spec hx)).2.2
      omega
    · decide
  unfold uvE at h
  split at h
  · cases h
  · injection h with h
    omega
theorem rawE_err9 {bs : List Nat} {a e : Nat} (h : rawE bs a = .error e) : e ≤ 9 := by
  unfold rawE at h
  split at h
  · injection h with h; omega
  · cases hr : reps (uvE bs) 3 (a + 8) with
    | error e' =>
      rw [hr] at h
      injection h with h
      obtain ⟨a', ha⟩ := reps_err _ _ _ hr
      rw [← h]
      exact uvE_err9 ha
    | ok p => rw [hr] at h; cases h
theorem getL_err {bs : List Nat} {a e : Nat} (h : getL bs a = .error e) : e ≠ 0 ∧ e ≤ 9 := by
  unfold getL at h
  cases hu : uvE bs a with
  | error e' =>
    rw [hu] at h
    injection h with h
    subst h
    exact ⟨uvE_err hu, uvE_err9 hu⟩
  | ok p =>
    obtain ⟨N, v⟩ := p
    rw [hu] at h
    simp only at h
    split at h
    · injection h with h; omega
    · obtain ⟨a', ha⟩ := reps_err _ _ _ h
      exact ⟨rawE_err ha, rawE_err9 ha⟩
theorem getS_err {bs : List Nat} {a e : Nat} (h : getS bs a = .error e) : e ≠ 0 ∧ e ≤ 9 := by
  unfold getS at h
  split at h
  · injection h with h; omega
  · split at h
    · cases h
    · injection h with h; omega
theorem getS_ok {bs : List Nat} {a b : Nat} (h : getS bs a = .ok b) : b = a + 4 ∧ a + 4 ≤ bs.length := by
  unfold getS at h
  split at h
  · cases h
  · rename_i h4
    split at h
    · injection h with h; exact ⟨h.symm, by omega⟩
    · cases h

theorem getL_small {bs : List Nat} (hb : ∀ x ∈ bs, x < 256) {a : Nat} {rs : List (Nat × List Nat)} {a1 : Nat} (h : getL bs a = .ok (rs, a1)) : rs.length ≤ 65535 ∧ a1 ≤ bs.length := by
  obtain ⟨_, _, hr6, _, _, ha1, _⟩ := getL_fit hb h
  exact ⟨hr6, ha1⟩
theorem getK_small {bs : List Nat} {k a : Nat} (h : getK bs = .ok (k, a)) : (k = 1 ∨ k = 2) ∧ a = 5 ∧ 5 ≤ bs.length := by
  obtain ⟨h1, h2, _, h3⟩ := getK_ok h
  exact ⟨h1, h2, h3⟩
/-- what Get comes to -/
def RetI (w : World) (r : Except Nat (Nat × List Ent × Nat)) (e : Ending) (w' : World) : Prop :=
  match r with
  | .ok (k, es, n) => ∃ A c, e = .returned (.tuple #[.agg #[.int .i64 (k : Int), .slice A es.length c], .int .i64 (n : Int), .nilIface]) ∧ OwnE 48 w w' (.slice A es.length c) es
  | .error j => e = .returned (.tuple #[.agg #[.int .i64 0, .slice none 0 0], .int .i64 0, errV j]) ∧ Below w.heap.size w w'

theorem OwnE.past2 {t : TypeId} {w0 w1 w : World} {v : Value} {xs : List Ent} (h : OwnE t w1 w v xs) {p q : Addr} (h1 : p.block < w1.heap.size) (k1 : q.block < w1.heap.size) (hle : w0.heap.size ≤ w1.heap.size) (u u' : Value)
    (hb : Below w0.heap.size w0 ((w.setCell p u).setCell q u')) : OwnE t w0 ((w.setCell p u).setCell q u') v xs := by
  have := ownsRow_setCell_below (ownsRow_setCell_below h.row h1 u) k1 u'
  refine ⟨⟨this.1, ?_⟩, hb, h.fit⟩
  rcases this.2 with h2 | ⟨g, cap, cur, hv, hg, r⟩
  · exact .inl h2
  · exact .inr ⟨g, cap, cur, hv, Nat.le_trans hle hg, r⟩
theorem head_box (w : World) : BoxL (w.alloc (.cells #[.int .i64 0, .slice none 0 0] 24)) w.heap.size [.int .i64 0, .slice none 0 0] := BoxL.new w [.int .i64 0, .slice none 0 0] _

set_option maxRecDepth 20000 in
set_option maxHeartbeats 2000000 in
theorem iget_any (A : Option Addr) (n c B : Nat) (bs : List Nat) (w : World) (h : Rd w B A n c bs) (hB : B ≤ w.heap.size) (hb : ∀ x ∈ bs, x < 256) (hn : n ≤ 100000000) :
    Calls Try.prog 14 #[.slice A n c] w (RetI w (getI bs)) := by
  have HL := Lib.hid h.len
  have HB := Lib.hid hB
  have HBB := Lib.hid hb
  obtain ⟨W, hW⟩ : ∃ W, W = w.alloc (.cells #[.int .i64 0, .slice none 0 0] 24) := ⟨_, rfl⟩
  have hbW : Below w.heap.size w W := by rw [hW]; exact (Below.refl _ _).alloc (Nat.le_refl _) _
  have hbx : BoxL W w.heap.size [.int .i64 0, .slice none 0 0] := by rw [hW]; exact head_box w
  have HH : Hid (∀ w', Below w.heap.size w w' → Rd w' B A n c bs) := Lib.hid (fun w' hb => h.below (hb.mono hB))
  have hgk := getkind_any A n c B bs W (HH.out W hbW) (Nat.le_trans hB hbW.size) hb hn
  replace hW := Lib.hid hW
  clear h hB hb
  go_enter Try.func14, Try.ntmps14
  go_wp2_with fail
  rw [← hW.out]
  cases hk : getK bs with
  | error j =>
    have HJ := Lib.hid (getK_err hk).1
    have HG : Hid (getI bs = .error j) := Lib.hid (by unfold getI; rw [hk])
    rw [hk] at hgk
    clear hk
    refine hgk.mono ?_
    rintro e w1 ⟨he, hb1⟩
    simp only at he
    subst he
    rw [errV_no HJ.out]
    have b1 := hbx.below hb1
    obtain ⟨z0, z1⟩ := b1.get2
    obtain ⟨zf0, zf1⟩ := b1.free2
    have hv := (b1.all2 (.int .i64 0) (.slice none 0 0)).get2
    have hbz := below_set2 (hbW.trans (hb1.mono hbW.size)) (Nat.le_refl _) (.int .i64 0) (.slice none 0 0)
    go_wp2_with fail
    obtain ⟨u0, u1⟩ := hv
    refine bodyPost_ret (by simp [results, Try.results14, go_sem, u0, u1]; try rfl) rfl ?_
    rw [HG.out]
    exact ⟨by rw [errV_no HJ.out], hbz⟩
  | ok p =>
    obtain ⟨k, a⟩ := p
    obtain ⟨hk12, rfl, hl5⟩ := getK_small hk
    have HK := Lib.hid hk
    have HK12 := Lib.hid hk12
    rw [hk] at hgk
    clear hk hk12
    refine hgk.mono ?_
    rintro e w1 ⟨he, hb1⟩
    simp only at he
    subst he
    have hbw1 := hbW.trans (hb1.mono hbW.size)
    have b1 := hbx.below hb1
    have HLT1 := Lib.hid b1.lt
    have hgl := getlist_any A n c B 5 bs w1 (HH.out w1 hbw1) (Nat.le_trans HB.out hbw1.size) HBB.out hn (by rw [← HL.out]; exact hl5)
    clear hb1 hbx hbW hl5
    cases hl : getL bs 5 with
    | error j =>
      have HJ := Lib.hid (getL_err hl).1
      have HG : Hid (getI bs = .error j) := Lib.hid (by unfold getI; rw [HK.out]; simp only; rw [hl])
      rw [hl] at hgl
      clear hl
      go_wp2_with fail
      refine hgl.mono ?_
      rintro e w2 ⟨rfl, hb2⟩
      rw [errV_no HJ.out]
      have b2 := b1.below hb2
      obtain ⟨z0, z1⟩ := b2.get2
      obtain ⟨zf0, zf1⟩ := b2.free2
      have hv := (b2.all2 (.int .i64 0) (.slice none 0 0)).get2
      have hbz := below_set2 (hbw1.trans (hb2.mono hbw1.size)) (Nat.le_refl _) (.int .i64 0) (.slice none 0 0)
      go_wp2_with fail
      obtain ⟨u0, u1⟩ := hv
      refine bodyPost_ret (by simp [results, Try.results14, go_sem, u0, u1]; try rfl) rfl ?_
      rw [HG.out]
      exact ⟨by rw [errV_no HJ.out], hbz⟩
    | ok q =>
      obtain ⟨rs, a1⟩ := q
      obtain ⟨hr6, ha1⟩ := getL_small HBB.out hl
      have HLL := Lib.hid hl
      rw [hl] at hgl
      clear hl
      go_wp2_with fail
      refine hgl.mono ?_
      rintro e w2 ⟨A2, c2, rfl, hown⟩
      obtain ⟨es, HES⟩ : ∃ es, Hid (es = rs.map progE) := ⟨_, Lib.hid rfl⟩
      have HEL : Hid (rs.length = es.length) := Lib.hid (by rw [HES.out, List.length_map])
      have HLN : Hid (∀ e ∈ es, 0 ≤ e.ln ∧ e.ln ≤ 2147483647) := Lib.hid (by
        rw [HES.out]
        intro e he
        obtain ⟨r, _, rfl⟩ := List.mem_map.1 he
        exact progE_len r)
      rw [← HES.out, HEL.out] at hown
      rw [HEL.out] at hr6 ⊢
      obtain ⟨m, HM⟩ : ∃ m, Hid (m = es.length) := ⟨_, Lib.hid rfl⟩
      rw [← HM.out] at hown hr6 ⊢
      have b2 := b1.below hown.bel
      have hbw2 := hbw1.trans (hown.bel.mono hbw1.size)
      have hss := skipsum_any A n c B a1 bs w2 (HH.out w2 hbw2) (Nat.le_trans HB.out hbw2.size) HBB.out hn (by rw [← HL.out]; exact ha1)
      clear hgk hgl b1
      cases hs : getS bs a1 with
      | error j =>
        have HJ := Lib.hid (getS_err hs).1
        have HG : Hid (getI bs = .error j) := Lib.hid (by unfold getI; rw [HK.out]; simp only; rw [HLL.out]; simp only; rw [hs])
        rw [hs] at hss
        clear hs
        go_wp2_with fail
        refine hss.mono ?_
        rintro e w3 ⟨he, hb3⟩
        simp only at he
        subst he
        rw [errV_no HJ.out]
        have b3 := b2.below hb3
        obtain ⟨z0, z1⟩ := b3.get2
        obtain ⟨zf0, zf1⟩ := b3.free2
        have hv := (b3.all2 (.int .i64 0) (.slice none 0 0)).get2
        have hbz := below_set2 (hbw2.trans (hb3.mono hbw2.size)) (Nat.le_refl _) (.int .i64 0) (.slice none 0 0)
        go_wp2_with fail
        obtain ⟨u0, u1⟩ := hv
        refine bodyPost_ret (by simp [results, Try.results14, go_sem, u0, u1]; try rfl) rfl ?_
        rw [HG.out]
        exact ⟨by rw [errV_no HJ.out], hbz⟩
      | ok a2 =>
        obtain ⟨hae, ha4⟩ := getS_ok hs
        have ha2 : a2 ≤ n := by rw [← HL.out, hae]; exact ha4
        have HGy : Hid (May k es → lensN es = bs.length - a2 → getI bs = .ok (k, es, a2)) := Lib.hid (by
          unfold getI; rw [HK.out]; simp only; rw [HLL.out]; simp only; rw [hs, HES.out]
          exact fun h1 h2 => if_pos ⟨h1, h2⟩)
        have HGn : Hid (¬ (May k es ∧ lensN es = bs.length - a2) → getI bs = .error 8) := Lib.hid (by
          unfold getI; rw [HK.out]; simp only; rw [HLL.out]; simp only; rw [hs, HES.out]
          exact fun h => if_neg h)
        rw [hs] at hss
        clear hs hae ha4
        go_wp2_with fail
        refine hss.mono ?_
        rintro e w3 ⟨he, hb3⟩
        simp only at he
        subst he
        have b3 := b2.below hb3
        have hown3 := hown.keep hb3
        have hbw3 := hbw2.trans (hb3.mono hbw2.size)
        clear hss b2 hown hbw2 hb3
        have hrd := hown3.rd
        have hle : IntKind.u64.wrap ((n : Int) - (a2 : Int)) = ((n - a2 : Nat) : Int) := by
          rw [show (n : Int) - (a2 : Int) = ((n - a2 : Nat) : Int) by omega]
          exact wrap_le _ (by omega)
        obtain ⟨V, hV⟩ : ∃ V, V = w3.alloc (.cells #[.int .i64 (k : Int), .slice A2 m c2] 24) := ⟨_, rfl⟩
        have hbV : Below w3.heap.size w3 V := by rw [hV]; exact (Below.refl _ _).alloc (Nat.le_refl _) _
        have bV := BoxL.new w3 [.int .i64 (k : Int), .slice A2 m c2] 24
        rw [show w3.alloc (.cells ([.int .i64 (k : Int), .slice A2 m c2] : List Value).toArray 24) = V by rw [hV]] at bV
        have b4 := b3.below hbV
        have hownV := hown3.keep hbV
        have hmb := maybe_any (k : Int) A2 m c2 _ es V (hrd.below hbV) hbV.size (by omega)
        have hbwV := hbw3.trans (hbV.mono hbw3.size)
        replace hV := Lib.hid hV
        clear b3 hown3 hrd hbV hbw3
        go_wp2_with fail
        rw [← hV.out]
        refine hmb.mono ?_
        rintro e w5 ⟨b, hbm, rfl, hb5⟩
        replace hbm := Lib.hid hbm
        have b5 := b4.below hb5
        have c5 := bV.below hb5
        have hown5 := hownV.keep hb5
        have hbw5 := hbwV.trans (hb5.mono hbwV.size)
        clear b4 bV hownV hbwV hb5 hmb
        cases b with
        | false =>
          have HNM : Hid (¬ May k es) := Lib.hid (fun h => by have := hbm.out.2 h; cases this)
          obtain ⟨z0, z1⟩ := b5.get2
          obtain ⟨zf0, zf1⟩ := b5.free2
          have hv := (b5.all2 (.int .i64 0) (.slice none 0 0)).get2
          have hbz := below_set2 hbw5 (Nat.le_refl _) (.int .i64 0) (.slice none 0 0)
          go_wp2_with fail
          obtain ⟨u0, u1⟩ := hv
          refine bodyPost_ret (by simp [results, Try.results14, go_sem, u0, u1]; try rfl) rfl ?_
          rw [HGn.out (fun h => HNM.out h.1)]
          exact ⟨rfl, hbz⟩
        | true =>
          have HYM : Hid (May k es) := Lib.hid (hbm.out.1 rfl)
          have hrd5 := hown5.rd
          have hls := lens_any A2 m c2 _ es w5 hrd5 (Nat.le_refl _) hr6 HLN.out
          clear hrd5
          obtain ⟨L, HLE⟩ : ∃ L, Hid (L = lensN es) := ⟨_, Lib.hid rfl⟩
          rw [← HLE.out] at hls
          obtain ⟨D, HD⟩ : ∃ D, Hid (D = n - a2) := ⟨_, Lib.hid rfl⟩
          rw [← HD.out] at hle
          go_wp2_with fail
          refine hls.mono ?_
          rintro e w6 ⟨rfl, hb6⟩
          have b6 := b5.below hb6
          have c6 := c5.below hb6
          have hown6 := hown5.keep hb6
          have hbw6 := hbw5.trans (hb6.mono hbw5.size)
          clear b5 c5 hown5 hbw5 hb6 hls
          obtain ⟨z0, z1⟩ := b6.get2
          obtain ⟨zf0, zf1⟩ := b6.free2
          obtain ⟨y0, y1⟩ := c6.get2
          by_cases hLD : L = D
          · have hne : ((L : Int) == (D : Int)) = true := by simp; omega
            have hv := (b6.all2 (.int .i64 (k : Int)) (.slice A2 m c2)).get2
            have hbz := below_set2 hbw6 (Nat.le_refl _) (.int .i64 (k : Int)) (.slice A2 m c2)
            replace hLD := Lib.hid hLD
            go_wp2_with fail
            obtain ⟨u0, u1⟩ := hv
            refine bodyPost_ret (by simp [results, Try.results14, go_sem, u0, u1]; try rfl) rfl ?_
            rw [HGy.out HYM.out (by rw [← HLE.out, hLD.out, HD.out, HL.out])]
            refine ⟨A2, c2, by rw [HM.out], ?_⟩
            rw [← HM.out]
            exact hown6.past2 (p := ⟨w.heap.size, 0, none⟩) (q := ⟨w.heap.size, 1, none⟩) HLT1.out HLT1.out hbw1.size _ _ hbz
          · have hne : ((L : Int) == (D : Int)) = false := by simp; omega
            have hv := (b6.all2 (.int .i64 0) (.slice none 0 0)).get2
            have hbz := below_set2 hbw6 (Nat.le_refl _) (.int .i64 0) (.slice none 0 0)
            replace hLD := Lib.hid hLD
            go_wp2_with fail
            obtain ⟨u0, u1⟩ := hv
            refine bodyPost_ret (by simp [results, Try.results14, go_sem, u0, u1]; try rfl) rfl ?_
            rw [HGn.out (fun h => hLD.out (by rw [HLE.out, h.2, HD.out, HL.out]))]
            exact ⟨rfl, hbz⟩

end Go.Proofs.Ytgmnhfkmneohcaa
