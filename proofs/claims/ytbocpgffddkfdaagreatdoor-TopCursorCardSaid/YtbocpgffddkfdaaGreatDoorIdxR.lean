/-
  Texts of this proof, one behind the other: IdxRG1, IdxRMay, RefGet, IdxRGet.
-/
import Derived.Test.YtbocpgffddkfdaaGreatDoorWords
import Derived.Test.YtbocpgffddkfdaaGreatDoorUvI
import Derived.Test.YtbocpgffddkfdaaGreatDoorIdxB
import Derived.Test.YtbocpgffddkfdaaGreatDoorIdxC
import Derived.Test.YtbocpgffddkfdaaGreatDoorEntsA
import Derived.Deep.QuietTactic
import Derived.BigQuiet
import Derived.Deep.DeepCutAuto

namespace Go.Proofs.YtbocpgffddkfdaaGreatDoor
open Go.RowKit

def uval6 (n : Nat) : Value := .int .u64 (n : Int)
theorem Tryz.infoU6 : (Tryz.prog.info? 38).map (fun i => (i.zero, i.size, i.bytes)) = some (some (.int .u64 0), 1, 8) := by kernel_rfl
structure OwnU (w0 w : World) (v : Value) (xs : List Nat) : Prop where
  row : w.ownsRow w0.heap.size 38 1 v xs.length (xs.map uval6)
  bel : Below w0.heap.size w0 w
theorem OwnU.nil_ (w0 w : World) (h : Below w0.heap.size w0 w) : OwnU w0 w (.slice none 0 0) [] := ⟨World.ownsRow_nil _ _ _ _, h⟩
theorem OwnU.three {w0 w : World} {v : Value} {x y z : Nat} (h : OwnU w0 w v [x, y, z]) : ∃ g c, v = .slice (some ⟨g, 0, none⟩) 3 c ∧ w0.heap.size ≤ g ∧ 3 ≤ c ∧
    w.cell? ⟨g, 0, none⟩ = some (.int .u64 (x : Int)) ∧ w.cell? ⟨g, 1, none⟩ = some (.int .u64 (y : Int)) ∧ w.cell? ⟨g, 2, none⟩ = some (.int .u64 (z : Int)) := by
  obtain ⟨g, cap, hv, hb, _⟩ := h.row.form (by simp)
  have hc : 3 ≤ cap := by
    rcases h.row.2 with ⟨e, h0⟩ | ⟨g', cap', cur, e, _, _, hnc, _⟩
    · simp at h0
    · rw [hv] at e
      injection e with e1 e2 e3
      subst e3
      simpa using hnc
  refine ⟨g, cap, hv, hb, hc, ?_⟩
  have hr := h.row
  rw [hv] at hr
  have q0 := hr.cells (g := g) rfl 0 (uval6 x) rfl
  have q1 := hr.cells (g := g) rfl 1 (uval6 y) rfl
  have q2 := hr.cells (g := g) rfl 2 (uval6 z) rfl
  exact ⟨q0, q1, q2⟩
set_option maxRecDepth 20000 in
theorem wpList_appU {ops : Array Oper} {rest : List Oper} {o : Oper} {a : Act} {Q : Exit → Act → World → Prop} (hgd : o.guard = none) (s x : Operand)
    (ho : o.op = .call { callee := .builtin .append, args := #[s, x], argTypes := #[104, 104] })
    {w0 w : World} {v : Value} {xs : List Nat} {y : Nat} (hs : a.eval s = v) (hx : a.eval x = .slice (some ⟨w.heap.size, 0, none⟩) 1 1) (hown : OwnU w0 w v xs) (hl : xs.length ≤ 1000)
    (h : ∀ v' w', OwnU w0 w' v' (xs ++ [y]) → wpList Tryz.prog ops Q rest (a.put o.dst v') w') : wpList Tryz.prog ops Q (o :: rest) a (w.alloc (.cells #[.int .u64 (y : Int)] 38)) := by
  refine wpList_plain hgd fun K hK => ?_
  obtain ⟨i0, hi, hz0, hz1, hz2⟩ := info_parts Tryz.infoU6
  have hg : ∀ k, v.ownBlock = some k → w0.heap.size ≤ k := fun k hk => (hown.row.lt k hk).1
  obtain ⟨v', w', hrun, hown', hgrow, _⟩ := run_append_own (P := Tryz.prog) (w.alloc (.cells #[.int .u64 (y : Int)] 38)) w0.heap.size 104 o.type 38 i0 (.int .u64 0) 1 8 Tryz.underlying104 hi hz0 hz1 hz2 rfl (by decide) v xs.length (xs.map uval6) (hown.row.alloc _) ⟨w.heap.size, 0, none⟩ 1 1 [uval6 y]
    rfl (by
      intro j u hu
      have hj : j = 0 := by
        have := (List.getElem?_eq_some_iff.1 hu).1
        simp at this
        exact this
      subst hj
      simp at hu
      rw [← hu]
      exact cell_one_new w (.int .u64 (y : Int)) _ 0 _ rfl) (by intro u hu; simp at hu; subst hu; rfl) (by unfold maxLen; omega) (by omega) (by have := hown.bel.size; simp; omega)
  have hba : Below w0.heap.size w0 (w.alloc (.cells #[.int .u64 (y : Int)] 38)) := hown.bel.alloc hown.bel.size _
  have hfin : OwnU w0 w' v' (xs ++ [y]) := by
    refine ⟨?_, hba.grown hgrow hba.size hg⟩
    rw [List.map_append, List.length_append]
    exact hown'
  unfold Oper.wp execOp
  simp only [ho, resolve, invoke, builtin, Sem.run_bind, Sem.run_pure, Result.andThen_ok, List.map_toArray, List.map_cons, List.map_nil, hs, hx, hrun]
  exact hK _ _ (h v' w' hfin)
def roomR (f : Nat) : Nat := if f ≤ 9223372036854775807 then 9223372036854775807 - f else 27670116110564327423 - f
def FairR (r : Nat × List Nat) : Prop := r.2.getD 0 0 ≤ roomR r.1 ∧ r.2.getD 1 0 ≤ 65535 ∧ r.2.getD 2 0 ≤ 2147483647
theorem wrap_room {f : Nat} (h : f ≤ 18446744073709551615) : IntKind.u64.wrap (9223372036854775807 - (f : Int)) = ((roomR f : Nat) : Int) := by
  have e : ∀ x : Int, IntKind.u64.wrap x = x % 18446744073709551616 := by intro x; simp [IntKind.wrap, IntKind.bits, IntKind.signed]
  rw [e]
  unfold roomR
  split <;> omega
theorem not_fair {r : Nat × List Nat} (hf : FitR r) (h : ¬ FairR r) : ¬ MayE (progE r) := by
  obtain ⟨f, x, y, z, rfl, h1, h2, h3, h4⟩ := hf.at_
  unfold FairR at h
  simp only [List.getD_cons_zero, List.getD_cons_succ] at h
  unfold MayE progE
  simp only [List.getD_cons_zero, List.getD_cons_succ]
  rintro ⟨⟨c1, c2⟩, ⟨l1, l2⟩, hm⟩
  unfold smallN at c1 c2 l1 l2
  refine h ⟨?_, ?_, ?_⟩
  · unfold s64n at hm
    unfold roomR
    split at hm <;> split at hm <;> split <;> omega
  · split at c1 <;> omega
  · split at l1 <;> omega
theorem fair_prog {f x y z : Nat} (h : FairR (f, [x, y, z])) : progE (f, [x, y, z]) = ⟨s64n f, s64n ((f + x) % 18446744073709551616), (y : Int), (z : Int)⟩ := by
  unfold FairR at h
  simp only [List.getD_cons_zero, List.getD_cons_succ] at h
  unfold progE smallN
  simp only [List.getD_cons_zero, List.getD_cons_succ]
  rw [if_neg (by omega), if_neg (by omega)]
theorem wrap_max {f x : Nat} (_hf : f ≤ 18446744073709551615) (_hx : x ≤ 18446744073709551615) : IntKind.i64.wrap (s64n f + s64n x) = s64n ((f + x) % 18446744073709551616) := by
  rw [IntKind.wrap_i64]
  unfold s64n
  split <;> split <;> split <;> omega
theorem u64n_s64 {f : Nat} (hf : f ≤ 18446744073709551615) : IntKind.u64.wrap (s64n f) = (f : Int) := by
  have e : ∀ x : Int, IntKind.u64.wrap x = x % 18446744073709551616 := by intro x; simp [IntKind.wrap, IntKind.bits, IntKind.signed]
  rw [e]
  unfold s64n
  split <;> omega
end Go.Proofs.YtbocpgffddkfdaaGreatDoor

namespace Go.Proofs.YtbocpgffddkfdaaGreatDoor
open Go.RowKit

set_option maxRecDepth 20000 in
set_option maxHeartbeats 1000000 in
theorem rmay_any (k : Int) (A : Option Addr) (n c B : Nat) (es : List Ent) (w : World) (h : RdE w B A n c es) (hB : B ≤ w.heap.size) (hn : n ≤ 9223372036854775807) :
    Calls Tryz.prog 54 #[.int .i64 k, .slice A n c] w (RetDP w (May k es)) := by
  have HL := Lib.hid h.len
  have HB := Lib.hid hB
  have HH := Lib.hid h
  have HT : May k es → ∀ w', Below w.heap.size w w' → RetDP w (May k es) (.returned (.bool true)) w' := fun h w' hb => ⟨true, ⟨fun _ => h, fun _ => rfl⟩, rfl, hb⟩
  have HF : ¬ May k es → ∀ w', Below w.heap.size w w' → RetDP w (May k es) (.returned (.bool false)) w' := fun h w' hb => ⟨false, ⟨fun h2 => (by cases h2), fun h2 => absurd h2 h⟩, rfl, hb⟩
  replace HT := Lib.hid HT
  replace HF := Lib.hid HF
  clear h hB
  by_cases hk : k = 1 ∨ k = 2
  · have HK := Lib.hid hk
    by_cases h6 : n ≤ 65535
    · have h6' : ¬ (65535 < (n : Int)) := by omega
      go_enter Tryz.func54, Tryz.ntmps54
      rcases hk with rfl | rfl
      all_goals
        clear h6'
        go_wp2
        go_loopw [5] (fun i wr => ∃ j : Nat, j ≤ n ∧ i = .int .i64 (j : Int) ∧ MayTo es j ∧ Below w.heap.size w wr) (fun i _ => n - (intOf i).toNat)
        case atStart => exact ⟨0, by omega, rfl, MayTo.zero _, Below.refl _ _⟩
        case round =>
          obtain ⟨j, hj, rfl, hto, hbel⟩ := hrel
          have HTO := Lib.hid hto
          clear hto
          by_cases hlt : j < n
          · have hadA := (HH.out.below (hbel.mono HB.out)).at_ hlt
            have hadP := fun h : j - 1 < n => (HH.out.below (hbel.mono HB.out)).at_ h
            obtain ⟨ad, rfl, hbb, hc⟩ := hadA
            have hsz := hbel.size
            have hbw := HB.out
            obtain ⟨x, HX⟩ : ∃ x, Hid (x = es.getD j ent0) := ⟨_, Lib.hid rfl⟩
            rw [← HX.out] at hc
            obtain ⟨c0, c1, c2, c3⟩ := hc
            obtain ⟨m, x1, ct, l⟩ := x
            simp only at c0 c1 c2 c3
            have hbV : Below w.heap.size w (wr.alloc (.cells #[.int .i64 m, .int .i64 x1, .int .i64 ct, .int .i64 l] 75)) := hbel.alloc hbel.size _
            have HNO : Hid (¬ MayE ⟨m, x1, ct, l⟩ → ∀ w', Below w.heap.size w w' → RetDP w (May _ es) (.returned (.bool false)) w') := Lib.hid (fun hm => HF.out (fun h => hm (by
              have h2 := (h.2.2 j (by have := HL.out; omega)).1
              rw [← HX.out] at h2
              exact h2)))
            by_cases h1 : 1 ≤ ct
            · by_cases h2 : ct ≤ 65535
              · by_cases h3 : 4 ≤ l
                · by_cases h4 : l ≤ 2147483647
                  · by_cases h5 : m ≤ x1
                    · have hm : MayE ⟨m, x1, ct, l⟩ := ⟨⟨h1, h2⟩, ⟨h3, h4⟩, h5⟩
                      have HM := Lib.hid hm
                      clear hm HNO
                      obtain ⟨V, hV⟩ : ∃ V, V = wr.alloc (.cells #[.int .i64 m, .int .i64 x1, .int .i64 ct, .int .i64 l] 75) := ⟨_, rfl⟩
                      have e0 : V.drew.cell? ⟨wr.heap.size, 0, none⟩ = some (.int .i64 m) := by rw [hV]; simp
                      have hVw : Below wr.heap.size wr V.drew := by rw [hV]; exact ((Below.refl _ _).alloc (Nat.le_refl _) _).drew
                      have e0' : V.cell? ⟨wr.heap.size, 0, none⟩ = some (.int .i64 m) := e0
                      rcases Nat.eq_zero_or_pos j with hj0 | hjp
                      · subst hj0
                        clear hadP
                        rw [show ad.add (0 * 4) = ad by simp [Addr.add]] at c0 c1 c2 c3
                        go_wp2_with fail
                        rw [← hV] at hbV ⊢
                        clear hV c0 c1 c2 c3
                        go_quiet (fail)
                        go_wp2_with fail
                        go_roundw
                        case rel => exact ⟨0 + 1, by omega, by go_num, HTO.out.succ (by rw [← HX.out]; exact HM.out) (by omega), below_drewN hbV _⟩
                        case measure => simp [intOf]; omega
                      · obtain ⟨i, rfl⟩ : ∃ i, j = i + 1 := ⟨j - 1, by omega⟩
                        have hin : i < n := by omega
                        have hin0 : (0 : Int) ≤ (i : Int) := by omega
                        have hin1 : (i : Int) < (n : Int) := by omega
                        have hwr : IntKind.i64.wrap (i : Int) = (i : Int) := by rw [IntKind.wrap_i64]; omega
                        obtain ⟨adP, hadE, hbP, hcP⟩ := hadP (by omega)
                        injection hadE with hadE
                        subst hadE
                        rw [show i + 1 - 1 = i by omega] at hcP
                        have cP := hcP.c1
                        clear hcP hadP
                        obtain ⟨y, HY⟩ : ∃ y, Hid (y = (es.getD i ent0).mx) := ⟨_, Lib.hid rfl⟩
                        rw [← HY.out] at cP
                        have cP' : V.cell? ⟨(ad.add (i * 4)).block, (ad.add (i * 4)).off + 1, none⟩ = some (.int .i64 y) := (hVw.cell (p := ⟨(ad.add (i * 4)).block, (ad.add (i * 4)).off + 1, none⟩) (by simp only [add_block] at hbP ⊢; omega)).trans cP
                        by_cases hlt2 : y < m
                        · go_wp2_with fail
                          rw [← hV] at hbV ⊢
                          clear hV c0 c1 c2 c3
                          go_quiet (fail)
                          go_wp2_with fail
                          go_roundw
                          case rel =>
                            refine ⟨i + 1 + 1, by omega, by go_num, HTO.out.succ (by rw [← HX.out]; exact HM.out) (fun _ => ?_), below_drewN hbV _⟩
                            rw [show i + 1 - 1 = i by omega, ← HX.out, ← HY.out]
                            exact hlt2
                          case measure => simp [intOf]; omega
                        · go_wp2_with fail
                          rw [← hV] at hbV ⊢
                          clear hV c0 c1 c2 c3
                          go_quiet (fail)
                          go_wp2_with fail
                          go_ret
                          refine HF.out (fun h => ?_) _ (below_drewN hbV _)
                          have h2 := (h.2.2 (i + 1) (by have := HL.out; omega)).2 (by omega)
                          rw [show i + 1 - 1 = i by omega, ← HX.out, ← HY.out] at h2
                          simp only at h2
                          omega
                    · clear hadP
                      go_wp2
                      go_ret
                      exact HNO.out (fun h => by unfold MayE at h; simp only at h; omega) _ hbV
                  · clear hadP
                    go_wp2
                    go_ret
                    exact HNO.out (fun h => by unfold MayE at h; simp only at h; omega) _ hbV
                · clear hadP
                  go_wp2
                  go_ret
                  exact HNO.out (fun h => by unfold MayE at h; simp only at h; omega) _ hbV
              · clear hadP
                go_wp2
                go_ret
                exact HNO.out (fun h => by unfold MayE at h; simp only at h; omega) _ hbV
            · clear hadP
              go_wp2
              go_ret
              exact HNO.out (fun h => by unfold MayE at h; simp only at h; omega) _ hbV
          · go_wp2
            go_ret
            have e : j = es.length := by have := HL.out; omega
            subst e
            exact HT.out ⟨by omega, by have := HL.out; omega, HTO.out⟩ _ hbel
    · go_enter Tryz.func54, Tryz.ntmps54
      rcases hk with rfl | rfl
      all_goals
        go_wp2
        go_ret
        exact HF.out (fun h => by have := h.2.1; have := HL.out; omega) _ (Below.refl _ _)
  · have HK := Lib.hid hk
    have e1 : ¬ k = 1 := fun h => hk (.inl h)
    have e2 : ¬ k = 2 := fun h => hk (.inr h)
    clear hk
    go_enter Tryz.func54, Tryz.ntmps54
    go_wp2
    go_ret
    exact HF.out (fun h => HK.out h.1) _ (Below.refl _ _)
end Go.Proofs.YtbocpgffddkfdaaGreatDoor

namespace Go.Proofs.YtbocpgffddkfdaaGreatDoor
open Go.RowKit

def RetR (w : World) (bs : List Nat) (a : Int) (e : Ending) (w' : World) : Prop :=
  ∃ v n k : Nat, UAt bs a v n k ∧ e = .returned (.tuple #[.int .u64 (v : Int), .int .i64 (n : Int), .int .i64 (k : Int)]) ∧ w = w'
set_option maxRecDepth 20000 in
set_option maxHeartbeats 400000 in
theorem rget_no (A : Option Addr) (m c : Nat) (bs : List Nat) (a : Int) (w : World) (hl : bs.length = m) (_hm : m ≤ 100000000) (ha : -9223372036854775808 ≤ a ∧ a ≤ 9223372036854775807)
    (hno : a < 0 ∨ (0 ≤ a ∧ (m : Int) < a)) :
    Calls Tryz.prog 51 #[.slice A m c, .int .i64 a] w (RetR w bs a) := by
  have HT : Hid (UAt bs a 0 0 2) := Lib.hid (.inl ⟨by omega, rfl, rfl, rfl⟩)
  clear hl
  rcases hno with h1 | h1
  all_goals
    go_enter Tryz.func51, Tryz.ntmps51
    go_wp2
    go_ret3
    exact ⟨0, 0, 2, HT.out, rfl, rfl⟩
set_option maxRecDepth 20000 in
set_option maxHeartbeats 400000 in
theorem rget_end (A : Option Addr) (m c : Nat) (bs : List Nat) (w : World) (hl : bs.length = m) (_hcap : m ≤ c) (_hm : m ≤ 100000000) :
    Calls Tryz.prog 51 #[.slice A m c, .int .i64 (m : Int)] w (RetR w bs m) := by
  have HT : Hid (UAt bs m 0 0 2) := Lib.hid (.inr ⟨m, rfl, by omega, .short 0 (by omega) (by simp; omega) (Lead.zero _)⟩)
  clear hl
  have hd0 : decide ((m : Int) < 0) = false := by simp
  go_enter Tryz.func51, Tryz.ntmps51
  go_wp2
  all_goals
    clear _hcap hd0
    go_loop [8] (fun i => i = .int .i64 0) (fun _ => 0)
    case atStart => rfl
    case round =>
      subst hrel
      go_wp2
      go_ret3
      exact ⟨0, 0, 2, HT.out, rfl, rfl⟩
theorem uval_drop (l : List Nat) (j : Nat) (h : j < l.length) : uval (l.drop j) = l.getD j 0 % 128 + 128 * uval (l.drop (j + 1)) := by
  rw [List.drop_eq_getElem_cons h, uval]
  simp [List.getD_eq_getElem?_getD, h]
theorem uval_drop_le (l : List Nat) : ∀ j, uval (l.drop j) ≤ uval l := by
  induction l with
  | nil => intro j; simp
  | cons x r ih =>
    intro j
    cases j with
    | zero => simp
    | succ j =>
      have := ih j
      simp only [List.drop_succ_cons, uval]
      omega
set_option maxRecDepth 100000 in
set_option maxHeartbeats 1000000 in
theorem rget_yes (A : Option Addr) (m c B : Nat) (bs : List Nat) (a : Nat) (w : World) (h : Rd w B A m c bs) (hb : ∀ x ∈ bs, x < 256) (hm : m ≤ 100000000) (ha : a < m) :
    Calls Tryz.prog 51 #[.slice A m c, .int .i64 (a : Int)] w (RetR w bs a) := by
  have hcap := h.cap
  have HT : Hid (∀ v n e, UGets (bs.drop a) v n e → UAt bs a v n e) := Lib.hid fun v n e hu => .inr ⟨a, rfl, by have := h.len; omega, hu⟩
  have HB : Hid (∀ x ∈ bs.drop a, x < 256) := Lib.hid fun x hx => hb x (List.mem_of_mem_drop hx)
  clear hb
  have hr := h.cutFrom (Nat.le_of_lt ha)
  obtain ⟨ad, hA, _⟩ := h.at_ ha
  subst hA
  clear h
  have hd0 : decide ((a : Int) < 0) = false := by simp
  have hd1 : decide (m < a) = false := by simp; omega
  go_enter Tryz.func51, Tryz.ntmps51
  go_wp2
  clear hcap hd0 hd1
  generalize bs.drop a = l at *
  have hn : m - a ≤ 100000000 := by omega
  have HL := Lib.hid hr.len
  generalize m - a = n at *
  clear ha
  simp only [Option.map_some] at hr
  generalize ad.add a = ad2 at *
  go_loop [8] (fun i => ∃ k : Nat, k ≤ n ∧ k ≤ 10 ∧ Lead l k ∧ i = .int .i64 (k : Int)) (fun i => n - (intOf i).toNat)
  case atStart => exact ⟨0, by omega, by omega, Lead.zero l, rfl⟩
  case round =>
    obtain ⟨k, hk, hk10, hlead, rfl⟩ := hrel
    have HLe := Lib.hid hlead
    clear hlead
    by_cases hlt : k < n
    · obtain ⟨ad, hA, hbl, hc⟩ := hr.at_ hlt
      injection hA with hA
      subst hA
      have hx := getD_lt HB.out k
      obtain ⟨x, ex⟩ : ∃ x, l.getD k 0 = x := ⟨_, rfl⟩
      rw [ex] at hc hx
      have HN : Hid (l.getD k 0 = x) := Lib.hid ex
      clear ex
      by_cases hk9 : k < 10
      · by_cases htop : 128 ≤ x
        · go_wp2
          go_round
          case rel => exact ⟨k + 1, by omega, by omega, HLe.out.succ (by rw [HN.out]; exact htop), by go_num⟩
          case measure => simp [intOf]; omega
        · have hne : ((k : Int) == (n : Int)) = false := by simp; omega
          have hdt : decide (128 ≤ (x : Int)) = false := by simp; omega
          have hc9 : 8 < k → w.cell? ⟨ad2.block, ad2.off + 9, none⟩ = some (.int .u8 (x : Int)) := by
            intro h
            obtain rfl : k = 9 := by omega
            simpa [Addr.add] using hc
          by_cases hbad : 0 < k ∧ x = 0
          · obtain ⟨hk0, hx1⟩ := hbad
            have hx2 : ((x : Int) == 0) = true := by simp; omega
            have hx3 : x < 2 := by omega
            have HX := Lib.hid hx1
            clear hx1
            by_cases h9 : 8 < k
            · have hc9' := hc9 h9
              clear hc9
              go_wp2
              go_ret3
              exact ⟨0, 0, 3, HT.out _ _ _ (.zero k (by omega) (by omega) (by rw [HL.out]; exact hlt) HLe.out (HN.out.trans HX.out)), rfl, rfl⟩
            · clear hc9
              go_wp2
              go_ret3
              exact ⟨0, 0, 3, HT.out _ _ _ (.zero k (by omega) (by omega) (by rw [HL.out]; exact hlt) HLe.out (HN.out.trans HX.out)), rfl, rfl⟩
          · by_cases hten : 8 < k ∧ 1 < x
            · obtain ⟨h9, h1⟩ := hten
              have hc9' := hc9 h9
              clear hc9
              have HK : Hid (k = 9) := Lib.hid (by omega)
              go_wp2
              go_ret3
              refine ⟨0, 0, 3, HT.out _ _ _ (.ten (by have := HL.out; omega) (by have := HLe.out; rwa [HK.out] at this) ?_), rfl, rfl⟩
              have := HN.out
              rw [HK.out] at this
              omega
            · have HG : Hid (UGets l (uval (l.take (k + 1))) (k + 1) 0) := Lib.hid (.ok k (by omega) (by rw [HL.out]; exact hlt) HLe.out (by have := HN.out; omega) (fun e => by have := HN.out; rw [e] at this; omega) (fun h => by have := HN.out; omega))
              have HV : Hid (uval (l.take (k + 1)) ≤ 18446744073709551615) := Lib.hid (gets_le HG.out).1
              have HTL : Hid ((l.take (k + 1)).length = k + 1) := Lib.hid (by have := HL.out; rw [List.length_take]; omega)
              have HTG : Hid (∀ j, j < k + 1 → (l.take (k + 1)).getD j 0 = l.getD j 0) := Lib.hid (fun j hj => by rw [List.getD_eq_getElem?_getD, List.getElem?_take_of_lt hj, ← List.getD_eq_getElem?_getD])
              generalize l.take (k + 1) = q at *
              rcases (show (8 < k ∧ 0 < k ∧ ¬ 1 < x ∧ ¬ x = 0) ∨ (¬ 8 < k ∧ 0 < k ∧ ¬ x = 0) ∨ (¬ 8 < k ∧ ¬ 0 < k) by omega) with ⟨h9, hk0, hx1, hx3⟩ | ⟨h9, hk0, hx3⟩ | ⟨h9, hk0⟩
              · have hx2 : ((x : Int) == 0) = false := by simp; omega
                have hc9' := hc9 h9
                clear hc9 hbad hten
                go_wp2
                clear hc9' hx2 hne hdt hc hx1 hx3
                go_loop [9, 10] (fun v i => ∃ j : Nat, j ≤ k + 1 ∧ i = .int .i64 ((j : Int) - 1) ∧ v = .int .u64 ((uval (q.drop j) : Nat) : Int)) (fun _ i => (intOf i + 1).toNat)
                case atStart => exact ⟨k + 1, by omega, by go_num, by rw [List.drop_of_length_le (by rw [HTL.out]; omega)]; rfl⟩
                case round =>
                  obtain ⟨j, hj, rfl, rfl⟩ := hrel
                  by_cases hj0 : 0 < j
                  · obtain ⟨i, ei⟩ : ∃ i, i + 1 = j := ⟨j - 1, by omega⟩
                    subst ei
                    obtain ⟨ad, hA, hbl1, hc1⟩ := hr.at_ (k := i) (by omega)
                    injection hA with hA
                    subst hA
                    have HD : Hid (uval (q.drop i) = l.getD i 0 % 128 + 128 * uval (q.drop (i + 1))) := Lib.hid (by rw [uval_drop q i (by rw [HTL.out]; omega), HTG.out i (by omega)])
                    have hle : uval (q.drop i) ≤ 18446744073709551615 := Nat.le_trans (uval_drop_le q i) HV.out
                    rw [HD.out] at hle
                    have hy := getD_lt HB.out i
                    generalize l.getD i 0 = y at *
                    generalize uval (q.drop (i + 1)) = z at *
                    have ej : ((i + 1 : Nat) : Int) - 1 = (i : Int) := by omega
                    rw [ej]
                    clear ej
                    go_wp2
                    go_round
                    case rel => exact ⟨i, by omega, rfl, by rw [HD.out]; go_num⟩
                    case measure => simp [intOf]
                  · obtain rfl : j = 0 := by omega
                    go_wp2
                    go_ret3
                    exact ⟨uval q, k + 1, 0, HT.out _ _ _ HG.out, rfl, rfl⟩
              · have hx2 : ((x : Int) == 0) = false := by simp; omega
                clear hc9 hbad hten
                go_wp2
                clear hx2 hne hdt hc hx3
                go_loop [9, 10] (fun v i => ∃ j : Nat, j ≤ k + 1 ∧ i = .int .i64 ((j : Int) - 1) ∧ v = .int .u64 ((uval (q.drop j) : Nat) : Int)) (fun _ i => (intOf i + 1).toNat)
                case atStart => exact ⟨k + 1, by omega, by go_num, by rw [List.drop_of_length_le (by rw [HTL.out]; omega)]; rfl⟩
                case round =>
                  obtain ⟨j, hj, rfl, rfl⟩ := hrel
                  by_cases hj0 : 0 < j
                  · obtain ⟨i, ei⟩ : ∃ i, i + 1 = j := ⟨j - 1, by omega⟩
                    subst ei
                    obtain ⟨ad, hA, hbl1, hc1⟩ := hr.at_ (k := i) (by omega)
                    injection hA with hA
                    subst hA
                    have HD : Hid (uval (q.drop i) = l.getD i 0 % 128 + 128 * uval (q.drop (i + 1))) := Lib.hid (by rw [uval_drop q i (by rw [HTL.out]; omega), HTG.out i (by omega)])
                    have hle : uval (q.drop i) ≤ 18446744073709551615 := Nat.le_trans (uval_drop_le q i) HV.out
                    rw [HD.out] at hle
                    have hy := getD_lt HB.out i
                    generalize l.getD i 0 = y at *
                    generalize uval (q.drop (i + 1)) = z at *
                    have ej : ((i + 1 : Nat) : Int) - 1 = (i : Int) := by omega
                    rw [ej]
                    clear ej
                    go_wp2
                    go_round
                    case rel => exact ⟨i, by omega, rfl, by rw [HD.out]; go_num⟩
                    case measure => simp [intOf]
                  · obtain rfl : j = 0 := by omega
                    go_wp2
                    go_ret3
                    exact ⟨uval q, k + 1, 0, HT.out _ _ _ HG.out, rfl, rfl⟩
              · have hk1 : decide (0 < (k : Int)) = false := by simp; omega
                clear hc9 hbad hten
                go_wp2
                clear hk1 hne hdt hc
                go_loop [9, 10] (fun v i => ∃ j : Nat, j ≤ k + 1 ∧ i = .int .i64 ((j : Int) - 1) ∧ v = .int .u64 ((uval (q.drop j) : Nat) : Int)) (fun _ i => (intOf i + 1).toNat)
                case atStart => exact ⟨k + 1, by omega, by go_num, by rw [List.drop_of_length_le (by rw [HTL.out]; omega)]; rfl⟩
                case round =>
                  obtain ⟨j, hj, rfl, rfl⟩ := hrel
                  by_cases hj0 : 0 < j
                  · obtain ⟨i, ei⟩ : ∃ i, i + 1 = j := ⟨j - 1, by omega⟩
                    subst ei
                    obtain ⟨ad, hA, hbl1, hc1⟩ := hr.at_ (k := i) (by omega)
                    injection hA with hA
                    subst hA
                    have HD : Hid (uval (q.drop i) = l.getD i 0 % 128 + 128 * uval (q.drop (i + 1))) := Lib.hid (by rw [uval_drop q i (by rw [HTL.out]; omega), HTG.out i (by omega)])
                    have hle : uval (q.drop i) ≤ 18446744073709551615 := Nat.le_trans (uval_drop_le q i) HV.out
                    rw [HD.out] at hle
                    have hy := getD_lt HB.out i
                    generalize l.getD i 0 = y at *
                    generalize uval (q.drop (i + 1)) = z at *
                    have ej : ((i + 1 : Nat) : Int) - 1 = (i : Int) := by omega
                    rw [ej]
                    clear ej
                    go_wp2
                    go_round
                    case rel => exact ⟨i, by omega, rfl, by rw [HD.out]; go_num⟩
                    case measure => simp [intOf]
                  · obtain rfl : j = 0 := by omega
                    go_wp2
                    go_ret3
                    exact ⟨uval q, k + 1, 0, HT.out _ _ _ HG.out, rfl, rfl⟩
      · obtain ⟨ad, hA, hbl9, hc9⟩ := hr.at_ (k := 9) (by omega)
        injection hA with hA
        subst hA
        have hx9 := HLe.out 9 (by omega)
        have HK : Hid (k = 10) := Lib.hid (by omega)
        obtain ⟨y, ey⟩ : ∃ y, l.getD 9 0 = y := ⟨_, rfl⟩
        rw [ey] at hc9 hx9
        have HY := Lib.hid ey
        clear ey
        have hc9' : w.cell? ⟨ad2.block, ad2.off + 9, none⟩ = some (.int .u8 (y : Int)) := by simpa [Addr.add] using hc9
        clear hc9
        go_wp2
        go_ret3
        exact ⟨0, 0, 3, HT.out _ _ _ (.ten (by have := HL.out; omega) (fun j hj => HLe.out j (by omega)) (by rw [HY.out]; omega)), rfl, rfl⟩
    · by_cases h9 : k < 9
      · have hne : ((k : Int) == (n : Int)) = true := by simp; omega
        go_wp2
        go_ret3
        exact ⟨0, 0, 2, HT.out _ _ _ (.short k (by omega) (by rw [HL.out]; omega) HLe.out), rfl, rfl⟩
      · by_cases h10 : n < 10
        · go_wp2
          go_ret3
          exact ⟨0, 0, 2, HT.out _ _ _ (.short k (by omega) (by rw [HL.out]; omega) HLe.out), rfl, rfl⟩
        · obtain ⟨ad, hA, hbl9, hc9⟩ := hr.at_ (k := 9) (by omega)
          injection hA with hA
          subst hA
          have hx9 := HLe.out 9 (by omega)
          obtain ⟨y, ey⟩ : ∃ y, l.getD 9 0 = y := ⟨_, rfl⟩
          rw [ey] at hc9 hx9
          have HY := Lib.hid ey
          clear ey
          have hc9' : w.cell? ⟨ad2.block, ad2.off + 9, none⟩ = some (.int .u8 (y : Int)) := by simpa [Addr.add] using hc9
          clear hc9
          go_wp2
          go_ret3
          exact ⟨0, 0, 3, HT.out _ _ _ (.ten (by have := HL.out; omega) (fun j hj => HLe.out j (by omega)) (by rw [HY.out]; omega)), rfl, rfl⟩
theorem rget_all (A : Option Addr) (m c B : Nat) (bs : List Nat) (a : Int) (w : World) (h : Rd w B A m c bs) (hb : ∀ x ∈ bs, x < 256) (hm : m ≤ 100000000) (ha : -9223372036854775808 ≤ a ∧ a ≤ 9223372036854775807) :
    Calls Tryz.prog 51 #[.slice A m c, .int .i64 a] w (RetR w bs a) := by
  by_cases hy : 0 ≤ a ∧ a ≤ m
  · obtain ⟨a', rfl⟩ := Int.eq_ofNat_of_zero_le hy.1
    by_cases he : a' = m
    · subst he
      exact rget_end A a' c bs w h.len h.cap hm
    · exact rget_yes A m c B bs a' w h hb hm (by omega)
  · exact rget_no A m c bs a w h.len hm ha (by omega)
end Go.Proofs.YtbocpgffddkfdaaGreatDoor

namespace Go.Proofs.YtbocpgffddkfdaaGreatDoor
open Go.RowKit

def RetRI (w : World) (r : Except Nat (Nat × List Ent × Nat)) (e : Ending) (w' : World) : Prop :=
  match r with
  | .ok (k, es, n) => ∃ A c, e = .returned (.tuple #[.int .i64 (k : Int), .slice A es.length c, .int .i64 (n : Int), .int .i64 0]) ∧ OwnE 75 w w' (.slice A es.length c) es
  | .error j => e = .returned (.tuple #[.int .i64 0, .slice none 0 0, .int .i64 0, .int .i64 (j : Int)]) ∧ Below w.heap.size w w'
def AtRG (bs : List Nat) (w : World) (N a0 : Nat) (at_ l fair sum i : Value) (wr : World) : Prop :=
  ∃ (xs : List (Nat × List Nat)) (a : Nat) (b : Bool) (es : List Ent) (sm : Nat), a ≤ bs.length ∧ (∀ x ∈ xs, FitR x) ∧ AtReps (rawE bs) N a0 xs a ∧ at_ = .int .i64 (a : Int) ∧ i = .int .i64 (xs.length : Int) ∧
    OwnE 75 w wr l es ∧ es.length = xs.length ∧ fair = .bool b ∧ sum = .int .u64 (sm : Int) ∧ sm ≤ 2147483647 * xs.length ∧
    (b = true → es = xs.map progE ∧ sm = lensN es) ∧ (b = false → ∃ x ∈ xs, ¬ FairR x)
def AtT3 (bs : List Nat) (V : World) (a0 : Nat) (at_ t i : Value) (wx : World) : Prop :=
  ∃ (vs : List Nat) (a : Nat), vs.length ≤ 3 ∧ a ≤ bs.length ∧ (∀ x ∈ vs, x ≤ 18446744073709551615) ∧ AtReps (uvE bs) 3 a0 vs a ∧ at_ = .int .i64 (a : Int) ∧ OwnU V wx t vs ∧ i = .int .i64 (vs.length : Int)
theorem may_each {k : Int} {es : List Ent} (h : May k es) : ∀ e ∈ es, MayE e := by
  intro e he
  obtain ⟨j, hj, rfl⟩ := List.getElem_of_mem he
  have := (h.2.2 j hj).1
  have e2 : es.getD j ent0 = es[j] := by simp [List.getD_eq_getElem?_getD, hj]
  rwa [e2] at this
theorem results_tmp4 {fn : Func} {t u v x : Tmp} (h : fn.results = #[.tmp t, .tmp u, .tmp v, .tmp x]) (tmps : Array Value) (P : Program) (w : World) :
    (results fn tmps).run P w = .ok (.tuple #[tmps.getD t undef, tmps.getD u undef, tmps.getD v undef, tmps.getD x undef]) w := by
  simp [results, h, go_sem]
set_option maxRecDepth 40000 in
set_option maxHeartbeats 4000000 in
theorem rgeti_any (A : Option Addr) (n c B : Nat) (bs : List Nat) (w : World) (h : Rd w B A n c bs) (hB : B ≤ w.heap.size) (hb : ∀ x ∈ bs, x < 256) (hn : n ≤ 100000000) :
    Calls Tryz.prog 34 #[.slice A n c] w (RetRI w (getI bs)) := by
  have HL := Lib.hid h.len
  have HB := Lib.hid hB
  have HBB := Lib.hid hb
  have HH := Lib.hid h
  have hcap := h.cap
  by_cases h4 : 4 ≤ n
  · have hst := run_str (h.cutHead h4)
    by_cases hmg : bs.take 4 = magB
    · have HMG := Lib.hid hmg
      rw [hmg, show strB magB = ({ data := #[71, 84, 83, 49] } : ByteArray) from rfl] at hst
      clear hmg
      by_cases h5 : 5 ≤ n
      · obtain ⟨ad, rfl, _, hc4⟩ := h.at_ (k := 4) (by omega)
        have hxb := byte_at hb 4
        have HK : Hid (getK bs = if bs.getD 4 0 = 1 ∨ bs.getD 4 0 = 2 then .ok (bs.getD 4 0, 5) else .error 6) := Lib.hid (by
          unfold getK
          rw [if_neg (by simpa [magB] using HMG.out), if_neg (by rw [HL.out]; omega)])
        generalize bs.getD 4 0 = x at *
        rw [show ad.add 4 = ⟨ad.block, ad.off + 4, none⟩ by simp [Addr.add]] at hc4
        have h5' : ¬ (n : Int) ≤ 4 := by omega
        clear h hB hb
        by_cases hk : x = 1 ∨ x = 2
        · rw [if_pos hk] at HK
          have hug := rget_all (some ad) n c B bs (5 : Int) w HH.out HBB.out hn (by omega)
          have HX := Lib.hid hk
          clear hk
          go_enter Tryz.func34, Tryz.ntmps34
          go_upto_region 6 with fail
          go_cut [47] (fun x47 wx => x47 = .bool false ∧ wx = w)
          case first =>
            rcases HX.out with rfl | rfl
            all_goals
              go_wp2_with fail
              go_meet
              exact ⟨rfl, rfl⟩
          case rest =>
            obtain ⟨rfl, hwx⟩ := hcut
            replace hwx := hwx.symm
            subst hwx
            clear hc4 hst
            go_wp2_with fail
            refine hug.mono ?_
            rintro e w2 ⟨N, m, k, hu, rfl, hww⟩
            subst hww
            have hN := (uat_le hu).1
            have hm := (uat_le hu).2.1
            by_cases hk0 : k = 0
            · subst hk0
              have hin := (uat_in HBB.out hu).2.1
              have hu5 : UAt bs ((5 : Nat) : Int) N m 0 := hu
              have HE := Lib.hid (uvE_ok hu5)
              clear hu hu5
              by_cases h6 : 65535 < N
              · have HG : Hid (getI bs = .error 9) := Lib.hid (by
                  unfold getI; rw [HK.out]; simp only; unfold getL
                  rw [HE.out]; simp only; rw [if_pos h6])
                go_wp2_with fail
                refine bodyPost_ret (results_tmp4 rfl _ _ _) rfl ?_
                rw [HG.out]
                exact ⟨rfl, Below.refl _ _⟩
              · have HLR : Hid (getL bs 5 = reps (rawE bs) N (5 + m)) := Lib.hid (by unfold getL; rw [HE.out]; simp only; rw [if_neg h6])
                have HLE : Hid (∀ j, getL bs 5 = .error j → getI bs = .error j) := Lib.hid (fun j hj => by unfold getI; rw [HK.out]; simp only; rw [hj])
                have h6' : N ≤ 65535 := by omega
                have hNw : IntKind.i64.wrap (N : Int) = (N : Int) := by rw [IntKind.wrap_i64]; omega
                clear h6 hug
                go_wp2_with fail
                go_loopw [10, 11, 12, 13, 14] (fun a l f s i wr => AtRG bs w N (5 + m) a l f s i wr) (fun _ _ _ _ i _ => N - (intOf i).toNat)
                case atStart => exact ⟨[], 5 + m, true, [], 0, hin, by simp, AtReps.zero _ _, by go_num, rfl, OwnE.nil_ _ _ _ (Below.refl _ _), rfl, rfl, rfl, by simp, fun _ => ⟨rfl, rfl⟩, fun h => by cases h⟩
                case round =>
                  obtain ⟨xs, a2, b, es, sm, ha2, hxf, hat, rfl, rfl, hown, hel, rfl, rfl, hsm, hbt, hbf⟩ := hrel
                  obtain ⟨wo, hwo⟩ : ∃ wo, wo = wr := ⟨_, rfl⟩
                  subst hwo
                  have ha2n : a2 ≤ n := by rw [← HL.out]; exact ha2
                  have HAT := Lib.hid hat
                  have HXF := Lib.hid hxf
                  have HEL := Lib.hid hel
                  have HBT := Lib.hid hbt
                  have HBF := Lib.hid hbf
                  have HXN := Lib.hid hat.1
                  clear hat hxf hel hbt hbf ha2
                  obtain ⟨xl, HXL⟩ : ∃ xl, Hid (xs.length = xl) := ⟨_, Lib.hid rfl⟩
                  rw [HXL.out] at hsm ⊢
                  by_cases hlt : xl < N
                  ·
                    have HXT : Hid (xs.length < N) := Lib.hid (by rw [HXL.out]; exact hlt)
                    by_cases h8 : n < a2 + 8
                    · have HG : Hid (getI bs = .error 2) := Lib.hid (HLE.out _ (by
                        rw [HLR.out]
                        exact HAT.out.bad HXT.out (by unfold rawE; rw [if_pos (by rw [HL.out]; exact h8)])))
                      go_wp2_with fail
                      refine bodyPost_ret (results_tmp4 rfl _ _ _) rfl ?_
                      rw [HG.out]
                      exact ⟨rfl, hown.bel⟩
                    · have h8' : a2 + 8 ≤ n := by omega
                      have hcut := HH.out.cutTo (a := a2) (n := 8) h8'
                      have hlt8 : ∀ x ∈ (bs.drop a2).take 8, x < 256 := fun x hx => HBB.out x (List.mem_of_mem_drop (List.mem_of_mem_take hx))
                      have hb8 := numB_lt _ hlt8
                      rw [show ((bs.drop a2).take 8).length = 8 by rw [List.length_take, List.length_drop, HL.out]; omega] at hb8
                      have hnu := rnumber_any _ _ _ B _ wo (hcut.below (hown.bel.mono HB.out)) hlt8 (by omega)
                      have HG : Hid (rawE bs a2 = match reps (uvE bs) 3 (a2 + 8) with | .error e => .error e | .ok (vs, a1) => .ok ((numB ((bs.drop a2).take 8), vs), a1)) := Lib.hid (by
                        unfold rawE
                        rw [if_neg (by rw [HL.out]; exact h8)]
                        rfl)
                      clear hcut
                      generalize numB ((bs.drop a2).take 8) = f at *
                      have hf : f ≤ 18446744073709551615 := by omega
                      have hs1 : IntKind.i64.wrap (f : Int) = s64n f := wrap_s64 hf
                      have HSF := Lib.hid (u64n_s64 hf)
                      have HFM := Lib.hid (fun x hx => wrap_max (f := f) (x := x) hf hx)
                      have fm := s64n_fit hf
                      obtain ⟨mn, HMN⟩ : ∃ mn, Hid (mn = s64n f) := ⟨_, Lib.hid rfl⟩
                      rw [← HMN.out] at hs1 fm HSF HFM
                      clear hb8 hlt8 h8
                      go_wp2_with fail
                      refine hnu.mono ?_
                      rintro e w3 ⟨rfl, hww⟩
                      subst hww
                      obtain ⟨V, hV⟩ : ∃ V, V = wo.alloc (.cells #[.int .i64 mn, .int .i64 0, .int .i64 0, .int .i64 0] 75) := ⟨_, rfl⟩
                      have hVb : Below wo.heap.size wo V := by rw [hV]; exact (Below.refl _ _).alloc (Nat.le_refl _) _
                      have b4 : BoxL V wo.heap.size [.int .i64 mn, .int .i64 0, .int .i64 0, .int .i64 0] := by rw [hV]; exact BoxL.new wo [.int .i64 mn, .int .i64 0, .int .i64 0, .int .i64 0] _
                      go_upto_block 2 with fail
                      rw [← hV]
                      clear hV hnu hs1
                      have hbV := hown.bel.trans (hVb.mono hown.bel.size)
                      go_wp2_with fail
                      go_loopw [10, 16, 17] (fun a t i wx => AtT3 bs V (a2 + 8) a t i wx) (fun _ _ i _ => 3 - (intOf i).toNat)
                      case atStart => exact ⟨[], a2 + 8, by simp, by rw [HL.out]; exact h8', by simp, AtReps.zero _ _, by go_num, OwnU.nil_ _ _ (Below.refl _ _), rfl⟩
                      case round =>
                        obtain ⟨vs, a3, hv3, ha3, hvb, hat, rfl, hou, rfl⟩ := hrel
                        have ha3n : a3 ≤ n := by rw [← HL.out]; exact ha3
                        have HAT3 := Lib.hid hat
                        have HVB := Lib.hid hvb
                        clear hat hvb ha3
                        by_cases hl3 : vs.length < 3
                        · have HL3 := Lib.hid hl3
                          have hug := rget_all (some ad) n c B bs (a3 : Int) _ (HH.out.below ((hbV.trans (hou.bel.mono hbV.size)).mono HB.out)) HBB.out hn (by omega)
                          obtain ⟨vl, HVL⟩ : ∃ vl, Hid (vs.length = vl) := ⟨_, Lib.hid rfl⟩
                          have hvl1 : vs.length ≤ 1000 := by omega
                          replace hvl1 := Lib.hid hvl1
                          rw [HVL.out] at hl3 hv3 ⊢
                          go_wp2_with fail
                          refine hug.mono ?_
                          rintro e w4 ⟨v, m3, k3, hu, rfl, hww⟩
                          subst hww
                          have hvm := (uat_le hu).1
                          have hum := (uat_le hu).2.1
                          by_cases hk3 : k3 = 0
                          · subst hk3
                            have hin3 := (uat_in HBB.out hu).2.1
                            have HE3 := Lib.hid (uvE_ok hu)
                            clear hu hug
                            go_wp2_with (at_builtin; (refine wpList_appU rfl (.tmp 96) (.tmp 98) rfl rfl rfl hou hvl1.out ?_; intro v' w' hou2))
                            go_roundw
                            case rel =>
                              refine ⟨vs ++ [v], a3 + m3, by rw [List.length_append, HVL.out]; simp; omega, hin3, ?_, HAT3.out.succ HL3.out HE3.out, by go_num, hou2, by rw [List.length_append, HVL.out]; go_num⟩
                              intro r hr
                              rcases List.mem_append.1 hr with hr | hr
                              · exact HVB.out r hr
                              · rw [List.mem_singleton.1 hr]; exact hvm
                            case measure => simp [intOf]; omega
                          · have HG2 : Hid (getI bs = .error k3) := Lib.hid (HLE.out _ (by
                              rw [HLR.out]
                              exact HAT.out.bad HXT.out (by rw [HG.out, HAT3.out.bad HL3.out (uvE_bad hu hk3)])))
                            have hk3' : ((k3 : Int) != 0) = true := by simp; omega
                            clear hu hug
                            go_wp2_with fail
                            refine bodyPost_ret (results_tmp4 rfl _ _ _) rfl ?_
                            rw [HG2.out]
                            exact ⟨rfl, hbV.trans (hou.bel.mono hbV.size)⟩
                        · obtain ⟨p, q, r, rfl⟩ : ∃ p q r, vs = [p, q, r] := by
                            match vs, hv3, hl3 with
                            | [x, y, z], _, _ => exact ⟨x, y, z, rfl⟩
                            | [], _, h => exact absurd (show ([] : List Nat).length < 3 by simp) h
                            | [_], _, h => exact absurd (show 1 < 3 by omega) h
                            | [_, _], _, h => exact absurd (show 2 < 3 by omega) h
                            | _ :: _ :: _ :: _ :: _, h, _ => exact absurd h (by simp)
                          have HR : Hid (rawE bs a2 = .ok ((f, [p, q, r]), a3)) := Lib.hid (by rw [HG.out, HAT3.out.done hl3])
                          have hp := HVB.out p (by simp)
                          have hq := HVB.out q (by simp)
                          have hr := HVB.out r (by simp)
                          have HFR : Hid (FitR (f, [p, q, r])) := Lib.hid ⟨hf, rfl, HVB.out⟩
                          have HBE := Lib.hid (hVb.trans (hou.bel.mono hVb.size))
                          have HRE := Lib.hid (HAT.out.succ HXT.out HR.out)
                          clear hv3 hl3
                          obtain ⟨g3, c3, rfl, hg3, hc3, t0, t1, t2⟩ := hou.three
                          have hgne : wo.heap.size ≠ g3 := by have := b4.lt; omega
                          have b5 := b4.below hou.bel
                          obtain ⟨z0, z1, z2, z3⟩ := b5.get4
                          have hsf := HSF.out
                          have hrm := wrap_room hf
                          obtain ⟨R, HRR⟩ : ∃ R, Hid (R = roomR f) := ⟨_, Lib.hid rfl⟩
                          rw [← HRR.out] at hrm
                          simp only [List.length_cons, List.length_nil]
                          go_upto_region 34 with fail
                          clear hsf hrm z0 z1 z2 z3
                          go_cut [12] (fun y wx => wx = wr ∧ ∃ b' : Bool, y = .bool b' ∧ (b' = true ↔ b = true ∧ FairR (f, [p, q, r])))
                          case first =>
                            have hFR : FairR (f, [p, q, r]) ↔ (p ≤ R ∧ q ≤ 65535 ∧ r ≤ 2147483647) := by rw [HRR.out]; exact Iff.rfl
                            replace hFR := Lib.hid hFR
                            cases b with
                            | false =>
                              go_wp2_with fail
                              go_meet
                              exact ⟨rfl, false, rfl, by simp⟩
                            | true =>
                              by_cases f1 : p ≤ R
                              · by_cases f2 : q ≤ 65535
                                · by_cases f3 : r ≤ 2147483647
                                  · go_wp2_with fail
                                    go_meet
                                    exact ⟨rfl, true, by simp <;> omega, by simp; exact hFR.out.2 ⟨f1, f2, f3⟩⟩
                                  · go_wp2_with fail
                                    go_meet
                                    exact ⟨rfl, false, by simp <;> omega, by simp; intro h; have := hFR.out.1 h; omega⟩
                                · go_wp2_with fail
                                  go_meet
                                  exact ⟨rfl, false, rfl, by simp; intro h; have := hFR.out.1 h; omega⟩
                              · go_wp2_with fail
                                go_meet
                                exact ⟨rfl, false, rfl, by simp; intro h; have := hFR.out.1 h; omega⟩
                          case rest =>
                            obtain ⟨hwx, b', rfl, hb'⟩ := hcut
                            replace hwx := hwx.symm
                            subst hwx
                            have HB' := Lib.hid hb'
                            have hownW := hown.keep HBE.out
                            have hel1 : es.length + 1 ≤ 1073741824 := by rw [HEL.out, HXL.out]; omega
                            replace hel1 := Lib.hid hel1
                            clear hb'
                            cases b' with
                            | false =>
                              obtain ⟨z0, z1, z2, z3⟩ := b5.get4
                              have hfe : FitE ⟨mn, 0, 0, 0⟩ := ⟨fm, by simp, by simp, by simp⟩
                              go_wp2_with (at_builtin; (refine wpList_appE Tryz.underlying69 Tryz.infoF rfl (.tmp 151) (.tmp 153) rfl rfl rfl (hownW.alloc _) (RdE.one _ _ ⟨mn, 0, 0, 0⟩ hfe) hel1.out ?_; intro v' w' hown2 _))
                              go_roundw
                              case rel =>
                                refine ⟨xs ++ [(f, [p, q, r])], a3, false, es ++ [⟨mn, 0, 0, 0⟩], sm, by rw [HL.out]; exact ha3n, ?_, HRE.out, by go_num, by rw [List.length_append, HXL.out]; go_num, hown2, by rw [List.length_append, List.length_append, HEL.out]; rfl, rfl, by go_num, by rw [List.length_append, HXL.out]; simp; omega, (fun h => by cases h), fun _ => ?_⟩
                                · intro y hy
                                  rcases List.mem_append.1 hy with hy | hy
                                  · exact HXF.out y hy
                                  · rw [List.mem_singleton.1 hy]; exact HFR.out
                                · cases hbb : b with
                                  | false =>
                                    obtain ⟨y, hy, hny⟩ := HBF.out hbb
                                    exact ⟨y, List.mem_append_left _ hy, hny⟩
                                  | true => exact ⟨_, List.mem_append_right _ (List.mem_singleton.2 rfl), fun h => by have := HB'.out.2 ⟨hbb, h⟩; cases this⟩
                              case measure => simp [intOf]; omega
                            | true =>
                              have hfr : FairR (f, [p, q, r]) := (HB'.out.1 rfl).2
                              have HBB2 := Lib.hid (HB'.out.1 rfl).1
                              have HFP := Lib.hid (fair_prog hfr)
                              have hq6 : q ≤ 65535 := hfr.2.1
                              have hr6 : r ≤ 2147483647 := hfr.2.2
                              have HPF := Lib.hid (progE_fit HFR.out)
                              have hsp := wrap_s64 hp
                              have hmx := HFM.out p hp
                              have hspf := s64n_fit hp
                              have hmf := s64n_fit (n := (f + p) % 18446744073709551616) (by omega)
                              obtain ⟨sp, HSP⟩ : ∃ sp, Hid (sp = s64n p) := ⟨_, Lib.hid rfl⟩
                              obtain ⟨MX, HMX⟩ : ∃ MX, Hid (MX = s64n ((f + p) % 18446744073709551616)) := ⟨_, Lib.hid rfl⟩
                              rw [← HMN.out, ← HMX.out] at HFP
                              rw [← HSP.out] at hsp hmx hspf
                              rw [← HMX.out] at hmx hmf
                              rw [HFP.out] at HPF
                              have hqw : IntKind.i64.wrap (q : Int) = (q : Int) := by rw [IntKind.wrap_i64]; omega
                              have hrw : IntKind.i64.wrap (r : Int) = (r : Int) := by rw [IntKind.wrap_i64]; omega
                              clear hfr
                              go_upto_region 36 with fail
                              obtain ⟨z0, z1, z2, z3⟩ := b5.get4
                              obtain ⟨zf0, zf1, zf2, zf3⟩ := b5.free4
                              have d0 : wr.drew.cell? ⟨wo.heap.size, 0, none⟩ = some (.int .i64 mn) := z0
                              have td0 : wr.drew.cell? ⟨g3, 0, none⟩ = some (.int .u64 (p : Int)) := t0
                              have hne : ∀ i j, (⟨wo.heap.size, i, none⟩ : Addr) ≠ ⟨g3, j, none⟩ := fun i j e => hgne (by injection e)
                              obtain ⟨W6, hW6⟩ : ∃ W6, W6 = (wr.setCell ⟨wo.heap.size, 1, none⟩ (.int .i64 MX)).drew := ⟨_, rfl⟩
                              have b6 : BoxL W6 wo.heap.size [.int .i64 mn, .int .i64 MX, .int .i64 0, .int .i64 0] := by rw [hW6]; exact (b5.put 1 (.int .i64 MX)).drew
                              have T0 : (wr.setCell ⟨wo.heap.size, 1, none⟩ (.int .i64 MX)).drew.cell? ⟨g3, 0, none⟩ = some (.int .u64 (p : Int)) := (World.cell?_setCell_other wr ⟨wo.heap.size, 1, none⟩ ⟨g3, 0, none⟩ _ (hne _ _)).trans t0
                              have T1 : W6.cell? ⟨g3, 1, none⟩ = some (.int .u64 (q : Int)) := by rw [hW6]; exact (World.cell?_setCell_other wr ⟨wo.heap.size, 1, none⟩ ⟨g3, 1, none⟩ _ (hne _ _)).trans t1
                              have T2 : W6.cell? ⟨g3, 2, none⟩ = some (.int .u64 (r : Int)) := by rw [hW6]; exact (World.cell?_setCell_other wr ⟨wo.heap.size, 1, none⟩ ⟨g3, 2, none⟩ _ (hne _ _)).trans t2
                              have hb6 : Below wo.heap.size wo W6 := by rw [hW6]; exact (below_set HBE.out (Nat.le_refl _) 1 _).drew
                              have hS : (wr.setCell ⟨wo.heap.size, 1, none⟩ (.int .i64 MX)).drew.cell? ⟨wo.heap.size, 0, none⟩ = some (.int .i64 mn) := (b5.put 1 (.int .i64 MX)).drew.cell 0 _ rfl
                              replace hW6 := Lib.hid hW6
                              replace hne := Lib.hid hne
                              go_region_held3 (fun w' => w'.cell? ⟨wo.heap.size, 0, none⟩ = some (.int .i64 mn) ∧ w'.cell? ⟨g3, 0, none⟩ = some (.int .u64 (p : Int)))
                                (first | exact ⟨d0, td0⟩ | exact ⟨hS, T0⟩) (fail)
                              all_goals
                                rw [← hW6.out]
                                clear z0 z1 z2 z3 zf0 zf1 zf2 zf3 d0 td0 T0 hS t0 t1 t2 b5 b4 hownW
                                obtain ⟨y0, y1, y2, y3⟩ := b6.get4
                                obtain ⟨yf0, yf1, yf2, yf3⟩ := b6.free4
                                go_upto_region 38 with fail
                                have b7 : BoxL (W6.setCell ⟨wo.heap.size, 2, none⟩ (.int .i64 (q : Int))) wo.heap.size [.int .i64 mn, .int .i64 MX, .int .i64 (q : Int), .int .i64 0] := b6.put 2 (.int .i64 (q : Int))
                                have T3 : (W6.setCell ⟨wo.heap.size, 2, none⟩ (.int .i64 (q : Int))).cell? ⟨g3, 2, none⟩ = some (.int .u64 (r : Int)) := (World.cell?_setCell_other W6 ⟨wo.heap.size, 2, none⟩ ⟨g3, 2, none⟩ _ (hne.out _ _)).trans T2
                                have hb7 := below_set hb6 (Nat.le_refl _) 2 (.int .i64 (q : Int))
                                clear y0 y1 y2 y3 yf0 yf1 yf2 yf3 T1 T2 b6 hb6
                                generalize W6.setCell ⟨wo.heap.size, 2, none⟩ (.int .i64 (q : Int)) = W7 at *
                                obtain ⟨y0, y1, y2, y3⟩ := b7.get4
                                obtain ⟨yf0, yf1, yf2, yf3⟩ := b7.free4
                                go_upto_region 39 with fail
                                have b8 : BoxL (W7.setCell ⟨wo.heap.size, 3, none⟩ (.int .i64 (r : Int))) wo.heap.size [.int .i64 mn, .int .i64 MX, .int .i64 (q : Int), .int .i64 (r : Int)] := b7.put 3 (.int .i64 (r : Int))
                                have T4 : (W7.setCell ⟨wo.heap.size, 3, none⟩ (.int .i64 (r : Int))).cell? ⟨g3, 2, none⟩ = some (.int .u64 (r : Int)) := (World.cell?_setCell_other W7 ⟨wo.heap.size, 3, none⟩ ⟨g3, 2, none⟩ _ (hne.out _ _)).trans T3
                                have hb8 := below_set hb7 (Nat.le_refl _) 3 (.int .i64 (r : Int))
                                clear y0 y1 y2 y3 yf0 yf1 yf2 yf3 T3 b7 hb7
                                generalize W7.setCell ⟨wo.heap.size, 3, none⟩ (.int .i64 (r : Int)) = W8 at *
                                obtain ⟨y0, y1, y2, y3⟩ := b8.get4
                                have hown8 := hown.keep hb8
                                have hsw : IntKind.u64.wrap ((sm : Int) + (r : Int)) = (sm : Int) + (r : Int) := by
                                  rw [show (sm : Int) + (r : Int) = ((sm + r : Nat) : Int) by simp]
                                  exact wrap_le _ (by omega)
                                go_wp2_with (at_builtin; (refine wpList_appE Tryz.underlying69 Tryz.infoF rfl (.tmp 151) (.tmp 153) rfl rfl rfl (hown8.alloc _) (RdE.one _ _ ⟨mn, MX, q, r⟩ (by exact HPF.out)) hel1.out ?_; intro v' w' hown2 _))
                                go_roundw
                                case rel =>
                                  have hes := HBT.out HBB2.out
                                  refine ⟨xs ++ [(f, [p, q, r])], a3, true, es ++ [⟨mn, MX, q, r⟩], sm + r, by rw [HL.out]; exact ha3n, ?_, HRE.out, by go_num, by rw [List.length_append, HXL.out]; go_num, hown2, by rw [List.length_append, List.length_append, HEL.out]; rfl, rfl, by go_num, by rw [List.length_append, HXL.out]; simp; omega, fun _ => ⟨?_, ?_⟩, (fun h => by cases h)⟩
                                  · intro y hy
                                    rcases List.mem_append.1 hy with hy | hy
                                    · exact HXF.out y hy
                                    · rw [List.mem_singleton.1 hy]; exact HFR.out
                                  · rw [List.map_append, ← hes.1]
                                    simp only [List.map_cons, List.map_nil]
                                    rw [HFP.out]
                                  · rw [lensN_app, ← hes.2]
                                    simp [lensN]
                                case measure => simp [intOf]; omega
                  · have HLX : Hid (getL bs 5 = .ok (xs, a2)) := Lib.hid (by rw [HLR.out]; exact HAT.out.done (by rw [HXL.out]; exact hlt))
                    have hxN : xl = N := by have := HXN.out; rw [HXL.out] at this; omega
                    have hsm2 : sm ≤ 2147483647 * 65535 := by omega
                    have heln : Hid (es.length ≤ 9223372036854775807) := Lib.hid (by rw [HEL.out, HXL.out]; omega)
                    have HMAYb : Hid (b = false → ¬ May (x : Int) (xs.map progE)) := Lib.hid (fun hb hm => by
                      obtain ⟨y, hy, hny⟩ := HBF.out hb
                      exact not_fair (HXF.out y hy) hny (may_each hm _ (List.mem_map_of_mem hy)))
                    by_cases h4e : n < a2 + 4
                    · have HG : Hid (getI bs = .error 2) := Lib.hid (by
                        unfold getI; rw [HK.out]; simp only; rw [HLX.out]; simp only; unfold getS
                        rw [if_pos (by rw [HL.out]; exact h4e)])
                      go_wp2_with fail
                      refine bodyPost_ret (results_tmp4 rfl _ _ _) rfl ?_
                      rw [HG.out]
                      exact ⟨rfl, hown.bel⟩
                    · have h4e' : a2 + 4 ≤ n := by omega
                      have hrd := HH.out.below (hown.bel.mono HB.out)
                      have hcut := hrd.cutTo (a := a2) (n := 4) h4e'
                      have hhead := hrd.cutHead ha2n
                      have hb4 : ∀ x ∈ (bs.drop a2).take 4, x < 256 := fun x hx => HBB.out x (List.mem_of_mem_drop (List.mem_of_mem_take hx))
                      have hbh : ∀ x ∈ bs.take a2, x < 256 := fun x hx => HBB.out x (List.mem_of_mem_take hx)
                      have hlt1 := numB_lt _ hb4
                      rw [show ((bs.drop a2).take 4).length = 4 by rw [List.length_take, List.length_drop, HL.out]; omega] at hlt1
                      have hlt2 := crcS_lt hbh
                      have hnum := fun k => rnumber_any _ _ _ B _ (wo.drewN k) (hcut.drewN k) hb4 (by omega)
                      have hsum := fun k => rsum_any _ _ _ B _ (wo.drewN k) (hhead.drewN k) hbh (by omega)
                      have HS0 : Hid (getS bs a2 = if numB ((bs.drop a2).take 4) = crcS (bs.take a2) then .ok (a2 + 4) else .error 7) := Lib.hid (by
                        unfold getS
                        rw [if_neg (by rw [HL.out]; exact h4e)])
                      clear hcut hhead hb4 hbh hrd
                      generalize numB ((bs.drop a2).take 4) = nb at *
                      generalize crcS (bs.take a2) = sb at *
                      have hyw : IntKind.u64.wrap (sb : Int) = (sb : Int) := wrap_le sb (by omega)
                      have hqn : ∀ k, Calls Tryz.prog 52 #[.slice ((some ad).map (fun x => x.add a2)) 4 (c - a2)] (wo.drewN k) fun e w' => e = .returned (.int .u64 (nb : Int)) ∧ ∃ m, w' = wo.drewN m := fun k => (hnum k).mono fun _ _ ⟨he, hw⟩ => ⟨he, k, hw.symm⟩
                      have hqs : ∀ k, Calls Tryz.prog 53 #[.slice (some ad) a2 c] (wo.drewN k) fun e w' => e = .returned (.int .u32 (sb : Int)) ∧ ∃ m, w' = wo.drewN m := fun k => (hsum k).mono fun _ _ ⟨he, hw⟩ => ⟨he, k, hw.symm⟩
                      clear hnum hsum
                      have hin0 : (0 : Int) ≤ (a2 : Int) := by omega
                      have hin1 : (a2 : Int) ≤ (n : Int) := by omega
                      simp only [Option.map_some] at hqn
                      by_cases hxy : nb = sb
                      · subst hxy
                        rw [if_pos rfl] at HS0
                        go_upto_region 43 with fail
                        go_quiet (first
                          | (go_at_call 52; exact hqn _)
                          | (go_at_call 53; exact hqs _))
                        all_goals
                          have hownq := hown.keep (below_drewN (Below.refl wo.heap.size wo) nq)
                          generalize wo.drewN nq = wq at *
                          obtain ⟨A9, c9, rfl, hr9⟩ := hownq.form
                          have hrm := rmay_any (x : Int) A9 es.length c9 _ es wq hr9 (Nat.le_refl _) heln.out
                          obtain ⟨el, HELN⟩ : ∃ el, Hid (es.length = el) := ⟨_, Lib.hid rfl⟩
                          rw [HELN.out] at hrm hownq ⊢
                          clear hqn hqs hr9 hown hlt1 hlt2 hyw
                          go_wp2_with fail
                          refine hrm.mono ?_
                          rintro e w9 ⟨bm, hbm, rfl, hb9⟩
                          have HBM := Lib.hid hbm
                          have hown9 := hownq.keep hb9
                          clear hbm hrm hownq hb9
                          obtain ⟨D, HD⟩ : ∃ D, Hid (D = n - (a2 + 4)) := ⟨_, Lib.hid rfl⟩
                          have hdw : IntKind.u64.wrap ((n : Int) - (a2 : Int) - 4) = (D : Int) := by
                            rw [show (n : Int) - (a2 : Int) - 4 = (D : Int) by have := HD.out; omega]
                            exact wrap_le _ (by have := HD.out; omega)
                          have HGI : ∀ r, (May (x : Int) (xs.map progE) ∧ lensN (xs.map progE) = bs.length - (a2 + 4) → r = .ok (x, xs.map progE, a2 + 4)) → (¬ (May (x : Int) (xs.map progE) ∧ lensN (xs.map progE) = bs.length - (a2 + 4)) → r = .error 8) → getI bs = r := by
                            intro r h1 h2
                            unfold getI; rw [HK.out]; simp only; rw [HLX.out]; simp only; rw [HS0.out]
                            simp only
                            split
                            · rename_i h; exact (h1 h).symm
                            · rename_i h; exact (h2 h).symm
                          cases hbb : b with
                          | false =>
                            have HG : Hid (getI bs = .error 8) := Lib.hid (HGI _ (fun h => absurd h.1 (HMAYb.out hbb)) (fun _ => rfl))
                            clear HGI
                            go_wp2_with fail
                            refine bodyPost_ret (results_tmp4 rfl _ _ _) rfl ?_
                            rw [HG.out]
                            exact ⟨rfl, hown9.bel⟩
                          | true =>
                            obtain ⟨hes, hsmE⟩ := HBT.out hbb
                            cases hmm : bm with
                            | false =>
                              have HG : Hid (getI bs = .error 8) := Lib.hid (HGI _ (fun h => by
                                rw [← hes] at h
                                have := HBM.out.2 h.1
                                rw [hmm] at this
                                cases this) (fun _ => rfl))
                              clear HGI hes hsmE
                              go_wp2_with fail
                              refine bodyPost_ret (results_tmp4 rfl _ _ _) rfl ?_
                              rw [HG.out]
                              exact ⟨rfl, hown9.bel⟩
                            | true =>
                              have hmay := HBM.out.1 hmm
                              by_cases hsd : sm = D
                              · have HG : Hid (getI bs = .ok (x, es, a2 + 4)) := Lib.hid (HGI _ (fun _ => by rw [hes]) (fun h => absurd ⟨by rw [← hes]; exact hmay, by rw [← hes, ← hsmE, hsd, HD.out, HL.out]⟩ h))
                                have hne : ((sm : Int) == (D : Int)) = true := by simp; omega
                                clear HGI hes hsmE hmay
                                replace hsd := Lib.hid hsd
                                go_wp2_with fail
                                refine bodyPost_ret (results_tmp4 rfl _ _ _) rfl ?_
                                rw [HG.out]
                                refine ⟨A9, c9, by rw [HELN.out]; rfl, by rw [HELN.out]; exact hown9⟩
                              · have HG : Hid (getI bs = .error 8) := Lib.hid (HGI _ (fun h => absurd (by rw [hsmE, hes, h.2, HD.out, HL.out]) hsd) (fun _ => rfl))
                                have hne : ((sm : Int) == (D : Int)) = false := by simp; omega
                                clear HGI hes hsmE hmay
                                replace hsd := Lib.hid hsd
                                go_wp2_with fail
                                refine bodyPost_ret (results_tmp4 rfl _ _ _) rfl ?_
                                rw [HG.out]
                                exact ⟨rfl, hown9.bel⟩
                      · have hne : ((nb : Int) == (sb : Int)) = false := by simp; omega
                        rw [if_neg hxy] at HS0
                        have HG : Hid (getI bs = .error 7) := Lib.hid (by unfold getI; rw [HK.out]; simp only; rw [HLX.out]; simp only; rw [HS0.out])
                        go_upto_region 43 with fail
                        go_quiet (first
                          | (go_at_call 52; exact hqn _)
                          | (go_at_call 53; exact hqs _))
                        all_goals
                          go_wp2_with fail
                          refine bodyPost_ret (results_tmp4 rfl _ _ _) rfl ?_
                          rw [HG.out]
                          exact ⟨rfl, below_drewN hown.bel _⟩
            · have HG : Hid (getI bs = .error k) := Lib.hid (by
                unfold getI; rw [HK.out]; simp only; unfold getL
                rw [uvE_bad hu hk0])
              have hk0' : ¬ (k : Int) = 0 := by omega
              clear hu
              go_wp2_with fail
              refine bodyPost_ret (results_tmp4 rfl _ _ _) rfl ?_
              rw [HG.out]
              exact ⟨rfl, Below.refl _ _⟩
        · rw [if_neg hk] at HK
          have HG : Hid (getI bs = .error 6) := Lib.hid (by unfold getI; rw [HK.out])
          have hx1 : ((x : Int) != 1) = true := by simp; omega
          have hx2 : ((x : Int) != 2) = true := by simp; omega
          clear hk
          go_enter Tryz.func34, Tryz.ntmps34
          go_wp2_with fail
          refine bodyPost_ret (results_tmp4 rfl _ _ _) rfl ?_
          rw [HG.out]
          exact ⟨rfl, Below.refl _ _⟩
      · have HG : Hid (getI bs = .error 2) := Lib.hid (by
          unfold getI getK
          rw [if_neg (by simpa [magB] using HMG.out), if_pos (by rw [HL.out]; omega)])
        have hn4 : n = 4 := by omega
        subst hn4
        clear h hB hb h4 h5
        go_enter Tryz.func34, Tryz.ntmps34
        go_wp2_with fail
        refine bodyPost_ret (results_tmp4 rfl _ _ _) rfl ?_
        rw [HG.out]
        exact ⟨rfl, Below.refl _ _⟩
    · have HG : Hid (getI bs = .error 5) := Lib.hid (by
        unfold getI getK
        rw [if_pos (by simpa [magB] using hmg)])
      have hso := strB_other (fun x hx => hb x (List.mem_of_mem_take hx)) (by decide : ∀ x ∈ magB, x < 256) hmg
      rw [show (strB magB).toList = [71, 84, 83, 49] by rw [show strB magB = ({ data := #[71, 84, 83, 49] } : ByteArray) from rfl]; simp] at hso
      generalize strB (bs.take 4) = S at *
      clear h hB hb hmg
      rcases (by omega : n = 4 ∨ 5 ≤ n) with h5 | h5
      · subst h5
        go_enter Tryz.func34, Tryz.ntmps34
        go_wp2_with fail
        refine bodyPost_ret (results_tmp4 rfl _ _ _) rfl ?_
        rw [HG.out]
        exact ⟨rfl, Below.refl _ _⟩
      · have h5' : ¬ (n : Int) ≤ 4 := by omega
        go_enter Tryz.func34, Tryz.ntmps34
        go_wp2_with fail
        refine bodyPost_ret (results_tmp4 rfl _ _ _) rfl ?_
        rw [HG.out]
        exact ⟨rfl, Below.refl _ _⟩
  · have HG : Hid (getI bs = .error 5) := Lib.hid (by
      unfold getI getK
      rw [if_pos (by
        intro e
        have := congrArg List.length e
        rw [List.length_take, HL.out] at this
        simp at this
        omega)])
    clear h hB hb
    go_enter Tryz.func34, Tryz.ntmps34
    go_wp2_with fail
    refine bodyPost_ret (results_tmp4 rfl _ _ _) rfl ?_
    rw [HG.out]
    exact ⟨rfl, Below.refl _ _⟩
end Go.Proofs.YtbocpgffddkfdaaGreatDoor
