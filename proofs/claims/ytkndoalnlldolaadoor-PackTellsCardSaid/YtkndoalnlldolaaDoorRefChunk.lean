/-
  The contract of the reference's Encode: any samples' bytes, or what is amiss.
-/
import Derived.Test.YtkndoalnlldolaaDoorChunks
import Derived.Test.YtkndoalnlldolaaDoorKinAllR
import Derived.Test.YtkndoalnlldolaaDoorWords
import Derived.Test.YtkndoalnlldolaaDoorBytes
import Derived.Deep.CutBlock
namespace Go.Proofs.YtkndoalnlldolaaDoor
open Go.RowKit

/-- append in a plain region, onto bytes that lie behind block B -/
theorem wpList_appM {ops : Array Oper} {rest : List Oper} {o : Oper} {a : Act} {Q : Exit → Act → World → Prop} (hgd : o.guard = none) (s x : Operand)
    (ho : o.op = .call { callee := .builtin .append, args := #[s, x], argTypes := #[24, 24] })
    {w0 w : World} {B B2 : Nat} {v : Value} {bs cs : List Nat} {A : Option Addr} {m c : Nat} (hs : a.eval s = v) (hx : a.eval x = .slice A m c) (hown : Mid w0 B w v bs) (hB : B ≤ w.heap.size) (hr : Rd w B2 A m c cs)
    (hm : bs.length + m ≤ 1073741824)
    (h : ∀ v' w', Mid w0 B w' v' (bs ++ cs) → Below B w w' → w.grownBy w' v.ownBlock → wpList Tryd.prog ops Q rest (a.put o.dst v') w') : wpList Tryd.prog ops Q (o :: rest) a w :=
  wpList_plain hgd fun _ hK => wp_appM s x ho hs hx hown hB hr hm fun v' w' h1 h2 h3 => hK _ _ (h v' w' h1 h2 h3)

/-- what the reference's Encode comes to -/
def RetREnc (w : World) (z : Int) (xs : List (Int × Nat)) (e : Ending) (w' : World) : Prop :=
  ∃ er A c, EncE z xs er ∧ e = .returned (.tuple #[.slice A (pack (encP z xs er)).length c, .int .i64 (er : Int)]) ∧ Own w w' (.slice A (pack (encP z xs er)).length c) (pack (encP z xs er))
theorem RetREnc.bad {w w' : World} {z : Int} {xs : List (Int × Nat)} {er : Nat} {e : Ending} (h : EncE z xs er) (h0 : er ≠ 0) (he : e = .returned (.tuple #[.slice none 0 0, .int .i64 (er : Int)])) (hb : Below w.heap.size w w') : RetREnc w z xs e w' := by
  have e1 : encP z xs er = [] := by unfold encP; rw [if_neg h0]
  refine ⟨er, none, 0, h, ?_, ?_⟩
  · rw [e1]; exact he
  · rw [e1]; exact Own.nil_ _ _ hb
/-- behind some samples: their bits, the state -/
def AtRE (w : World) (B g7 n : Nat) (z : Int) (xs : List (Int × Nat)) (v i : Value) (wr : World) : Prop :=
  ∃ j : Nat, j ≤ n ∧ i = .int .i64 ((j : Nat) : Int) ∧ PreE z xs j ∧ Mid w B wr v (enc (cdK z.toNat xs j)) ∧ BoxL wr g7 [.int .i64 ((stK z.toNat xs j).n : Int), .int .i64 (stK z.toNat xs j).t, .int .i64 (stK z.toNat xs j).d, .int .u64 ((stK z.toNat xs j).v : Int), .int .u64 ((stK z.toNat xs j).e : Int), .int .u64 ((stK z.toNat xs j).x.prev : Int), .int .i64 ((stK z.toNat xs j).x.lead : Int), .int .i64 ((stK z.toNat xs j).x.len : Int)]
/-- a sample's bits, and the state behind it in a box, both new -/
def RPutC (wr : World) (r : PA) (N : Nat) (gt : Nat) (x9 : Value) (wx : World) : Prop :=
  ∃ A c B, x9 = .slice A N c ∧ Mid wr B wx (.slice A N c) (enc r.p) ∧ BoxL wx gt [.int .i64 (r.s.n : Int), .int .i64 r.s.t, .int .i64 r.s.d, .int .u64 (r.s.v : Int), .int .u64 (r.s.e : Int), .int .u64 (r.s.x.prev : Int), .int .i64 (r.s.x.lead : Int), .int .i64 (r.s.x.len : Int)] ∧ wr.heap.size ≤ gt

set_option maxRecDepth 20000 in
set_option maxHeartbeats 1000000 in
theorem rencode_none (A : Option Addr) (c : Nat) (z : Int) (w : World) :
    Calls Tryd.prog 16 #[.int .i64 z, .slice A 0 c] w (RetREnc w z []) := by
  go_enter Tryd.func16, Tryd.ntmps16
  go_wp2
  go_ret2
  exact RetREnc.bad (er := 1) (.inl ⟨rfl, rfl⟩) (by omega) rfl (Below.refl _ _)

set_option maxRecDepth 20000 in
set_option maxHeartbeats 20000000 in
theorem rencode_some (A : Option Addr) (m c : Nat) (z : Int) (xs : List (Int × Nat)) (w : World) (h1 : RdQ w w.heap.size A m c xs) (hm : m ≤ 100) (hm1 : 1 ≤ m) :
    Calls Tryd.prog 16 #[.int .i64 z, .slice A m c] w (RetREnc w z xs) := by
  have HA := Lib.hid h1.all
  have HN : Hid (xs.length = m) := Lib.hid h1.len
  have hm0 : ¬ (m : Int) < 1 := by omega
  have hm9 : ¬ 65535 < (m : Int) := by omega
  go_enter Tryd.func16, Tryd.ntmps16
  go_upto_block 0 with fail
  have b7 := BoxL.new w [.int .i64 0, .int .i64 0, .int .i64 0, .int .u64 0, .int .u64 0, .int .u64 0, .int .i64 0, .int .i64 0] 65
  have hW : Below w.heap.size w (w.alloc (.cells #[.int .i64 0, .int .i64 0, .int .i64 0, .int .u64 0, .int .u64 0, .int .u64 0, .int .i64 0, .int .i64 0] 65)) := by repeat (first | with_reducible exact Below.refl _ _ | with_reducible assumption | with_reducible refine Below.drew ?_ | with_reducible refine below_drewN ?_ _ | with_reducible refine Below.alloc ?_ (by (first | assumption | omega | (simp; done) | (simp; omega))) _ | with_reducible refine below_set ?_ (by (first | assumption | omega | (simp; done) | (simp; omega))) _ _)
  generalize w.alloc (.cells #[.int .i64 0, .int .i64 0, .int .i64 0, .int .u64 0, .int .u64 0, .int .u64 0, .int .i64 0, .int .i64 0] 65) = W at *
  obtain ⟨g7, hg7⟩ : ∃ g, w.heap.size = g := ⟨_, rfl⟩
  rw [hg7] at b7
  rw [show w.heap.size = g7 from hg7]
  have HG7 := Lib.hid hg7
  clear hg7 hm0 hm9
  go_wp2_with fail
  go_loopw [6, 8] (fun v i wr => AtRE w (g7 + 1) g7 m z xs v i wr) (fun _ i _ => m - (intOf i).toNat)
  case atStart =>
    have hb0 : Mid w (g7 + 1) W (.slice none 0 0) (enc (cdK z.toNat xs 0)) := ⟨World.ownsRow_nil _ _ _ _, hW, by rw [HG7.out]; omega⟩
    exact ⟨0, Nat.zero_le _, rfl, .zero, hb0, b7⟩
  case round =>
    clear b7 hW
    obtain ⟨j, hj, rfl, hpre, hmr, x7⟩ := hrel
    have hcl := cdK_le (k := z.toNat) HA.out j
    by_cases hlt : j < m
    · obtain ⟨ad0, rfl, hbl, hc0, hc1⟩ := (h1.below hmr.bel).at_ hlt
      have hs := stK_may (k := z.toNat) HA.out j
      have hsn : (stK z.toNat xs j).n = j := stK_n j
      obtain ⟨ht, hv⟩ := HA.out j
      obtain ⟨r, HR⟩ : ∃ r, Hid (putA z (stK z.toNat xs j) (xs.getD j (0, 0)).1 (xs.getD j (0, 0)).2 = r) := ⟨_, Lib.hid rfl⟩
      have hsp := hpre.step (by rw [HN.out]; exact hlt) HR.out
      have HS1 := Lib.hid hsp.1
      have HS2 := Lib.hid hsp.2
      clear hsp
      have hbl' : (ad0.add (j * 2)).block < w.heap.size := by rw [add_block]; exact hbl
      generalize stK z.toNat xs j = s at *
      generalize (xs.getD j (0, 0)).1 = t at *
      generalize (xs.getD j (0, 0)).2 = v at *
      obtain ⟨pj, HPJ⟩ : ∃ pj, Hid (cdK z.toNat xs j = pj) := ⟨_, Lib.hid rfl⟩
      rw [HPJ.out] at hmr hcl HS2
      have hRPA : ∀ X, Calls Tryd.prog 27 #[.int .i64 z, (.agg #[.int .i64 (s.n : Int), .int .i64 s.t, .int .i64 s.d, .int .u64 (s.v : Int), .int .u64 (s.e : Int), .int .u64 (s.x.prev : Int), .int .i64 (s.x.lead : Int), .int .i64 (s.x.len : Int)]), (.agg #[.int .i64 t, .int .u64 (v : Int)])] X (RetRPA X r) := fun X => by
        rw [← HR.out]; exact rput_all z s t v X hs (by omega) hv
      have hrl : r.p.length ≤ 146 := by rw [← HR.out]; exact putA_len z hs hv
      unfold RetRPA at hRPA
      obtain ⟨N, HNN⟩ : ∃ N, Hid (r.p.length = N) := ⟨_, Lib.hid rfl⟩
      rw [HNN.out] at hRPA hrl
      have hwrs := hmr.bel.size
      have l7 := x7.lt
      have src0 : SQ wr wr.heap.size g7 s (ad0.add (j * 2)) t v := ⟨x7, by omega, by omega, hc0, hc1⟩
      clear ht hv hs HR hsn hpre hc0 hc1
      go_upto_region 8 with fail
      go_cut [9, 10, 11] (fun x9 x10 x11 wx => ∃ gt, x10 = .pointer (some ⟨gt, 0, none⟩) ∧ x11 = .int .i64 (r.e : Int) ∧ RPutC wr r N gt x9 wx)
      case first =>
        have q0 := (src0.below (X' := wr.drew) (by repeat (first | with_reducible exact Below.refl _ _ | with_reducible assumption | with_reducible refine Below.drew ?_ | with_reducible refine below_drewN ?_ _ | with_reducible refine Below.alloc ?_ (by (first | assumption | omega | (simp; done) | (simp; omega))) _ | with_reducible refine below_set ?_ (by (first | assumption | omega | (simp; done) | (simp; omega))) _ _))).cells
        clear x7 hmr
        go_region_held3 (fun w' => (w'.cell? ⟨g7, 0, none⟩ = some (.int .i64 (s.n : Int)) ∧ w'.cell? ⟨g7, 1, none⟩ = some (.int .i64 s.t) ∧ w'.cell? ⟨g7, 2, none⟩ = some (.int .i64 s.d) ∧ w'.cell? ⟨g7, 3, none⟩ = some (.int .u64 (s.v : Int)) ∧ w'.cell? ⟨g7, 4, none⟩ = some (.int .u64 (s.e : Int)) ∧ w'.cell? ⟨g7, 5, none⟩ = some (.int .u64 (s.x.prev : Int)) ∧ w'.cell? ⟨g7, 6, none⟩ = some (.int .i64 (s.x.lead : Int)) ∧ w'.cell? ⟨g7, 7, none⟩ = some (.int .i64 (s.x.len : Int))) ∧ w'.cell? (ad0.add (j * 2)) = some (.int .i64 t) ∧ w'.cell? ⟨(ad0.add (j * 2)).block, (ad0.add (j * 2)).off + 1, none⟩ = some (.int .u64 (v : Int)))
          (with_reducible first | exact q0 | exact (src0.below (by repeat (first | with_reducible exact Below.refl _ _ | with_reducible assumption | with_reducible refine Below.drew ?_ | with_reducible refine below_drewN ?_ _ | with_reducible refine Below.alloc ?_ (by (first | assumption | omega | (simp; done) | (simp; omega))) _ | with_reducible refine below_set ?_ (by (first | assumption | omega | (simp; done) | (simp; omega))) _ _))).cells) (first
          | (go_at_call 27; (with_reducible refine (hRPA _).mono ?_); rintro e w9 ⟨A9, c9, rfl, ho9⟩; have hb9 : Below wr.heap.size wr w9 := (Below.trans (by repeat (first | with_reducible exact Below.refl _ _ | with_reducible assumption | with_reducible refine Below.drew ?_ | with_reducible refine below_drewN ?_ _ | with_reducible refine Below.alloc ?_ (by (first | assumption | omega | (simp; done) | (simp; omega))) _ | with_reducible refine below_set ?_ (by (first | assumption | omega | (simp; done) | (simp; omega))) _ _)) (ho9.bel.mono (by first | exact Nat.le_refl _ | (simp; done) | (simp; omega)))); have hs9 := hb9.size; obtain ⟨B9, HB9, hm9⟩ := Mid.some (w0 := wr) ho9 (by repeat (first | with_reducible exact Below.refl _ _ | with_reducible assumption | with_reducible refine Below.drew ?_ | with_reducible refine below_drewN ?_ _ | with_reducible refine Below.alloc ?_ (by (first | assumption | omega | (simp; done) | (simp; omega))) _ | with_reducible refine below_set ?_ (by (first | assumption | omega | (simp; done) | (simp; omega))) _ _)); (first | (have lB14 : wr.heap.size < B9 := (by rw [HB9.out]; first | (simp; done) | (simp; omega)); (with_reducible have x14 := ((BoxL.new wr [.int .i64 0, .int .i64 0, .int .i64 0, .int .u64 0, .int .u64 0, .int .u64 0, .int .i64 0, .int .i64 0] 65).drew).below ho9.bel); obtain ⟨u70, u71, u72, u73, u74, u75, u76, u77⟩ := x14.get8; obtain ⟨v70, v71, v72, v73, v74, v75, v76, v77⟩ := x14.free8; have l14 := x14.lt) | skip)))
        all_goals
          clear q0 hRPA src0
          go_wp2_with fail
          go_meet
          refine ⟨_, rfl, rfl, A9, c9, B9, rfl, ?h1, ?h2, ?h3⟩
          case h1 => exact by repeat (first | with_reducible assumption | with_reducible refine Mid.onA ?_ _ | with_reducible refine Mid.drew ?_ | with_reducible refine Mid.setAt ?_ (by (first | assumption | omega | (simp; done) | (simp; omega))) (by (first | assumption | omega | (simp; done) | (simp; omega))) _ _)
          case h2 => exact by repeat (first | with_reducible assumption | with_reducible refine BoxL.new_at _ _ (by (first | assumption | omega | (simp; done) | (simp; omega))) | with_reducible refine BoxL.onA ?_ _ | with_reducible refine BoxL.drew ?_ | with_reducible apply BoxL.all8_ | with_reducible apply BoxL.all3_ | with_reducible apply BoxL.all2_ | with_reducible apply BoxL.oth | rfl | omega)
          case h3 => (first | assumption | omega | (simp; done) | (simp; omega))
      case rest =>
        obtain ⟨gt, rfl, rfl, A9, c9, B9, rfl, m9, bt, hgt⟩ := hcut
        clear hRPA
        have hb9 := m9.bel
        have r9 := m9.rd
        have hub : ∀ g, u6.ownBlock = some g → g < wr.heap.size := fun g hg => (hmr.row.lt g hg).2
        have mC := hmr.on hb9
        have x7C := x7.below hb9
        have hsC := hb9.size
        clear m9 x7 hmr src0
        by_cases he : r.e = 0
        · obtain ⟨hpre', hst', hcd'⟩ := HS2.out he
          have HPRE := Lib.hid hpre'
          have HST := Lib.hid hst'
          have HCD := Lib.hid hcd'
          clear hpre' hst' hcd' HS1 HS2
          have he' : ((r.e : Int) != 0) = false := by simp [he]
          have hen := enc_length pj
          have hcl2 : (enc pj).length ≤ 20000 := by omega
          clear hen
          obtain ⟨y0, y1, y2, y3, y4, y5, y6, y7⟩ := x7C.get8
          have ngt : u6.ownBlock ≠ some gt := fun e => by have := hub _ e; omega
          clear hub
          go_upto_region 12 with (at_builtin; (refine wpList_appM rfl (.tmp 40) (.tmp 41) rfl rfl rfl mC (by omega) r9 (by omega) ?_; intro v' w' m' hb' hg'))
          clear y0 y1 y2 y3 y4 y5 y6 y7
          have x7W := x7C.belowB hb' (Nat.lt_succ_self _)
          have btW := bt.grown hg' ngt
          have hne : g7 ≠ gt := by omega
          obtain ⟨z0, z1, z2, z3, z4, z5, z6, z7⟩ := btW.get8
          obtain ⟨k0, k1, k2, k3, k4, k5, k6, k7⟩ := x7W.get8
          obtain ⟨kf0, kf1, kf2, kf3, kf4, kf5, kf6, kf7⟩ := x7W.free8
          have HNE := Lib.hid hne
          clear x7C bt hg' hne mC
          go_wp2_with fail
          clear z0 z1 z2 z3 z4 z5 z6 z7 k0 k1 k2 k3 k4 k5 k6 k7 kf0 kf1 kf2 kf3 kf4 kf5 kf6 kf7
          go_roundw
          case rel =>
            refine ⟨j + 1, by omega, by go_num, HPRE.out, ?_, ?_⟩
            · rw [HCD.out, enc_app]; exact m'.set8 (by rw [HG7.out]; exact Nat.le_refl _) (Nat.lt_succ_self _) _ _ _ _ _ _ _ _
            · rw [HST.out]; exact x7W.all8 _ _ _ _ _ _ _ _
          case measure => simp [intOf]; omega
        · have he' : ((r.e : Int) != 0) = true := by simp [he]
          have hwb := hwrs
          have hb : Below w.heap.size w wc := mC.bel
          go_wp2
          go_ret2
          exact RetREnc.bad (HS1.out he) he rfl hb
    · obtain rfl : j = m := by omega
      have HE : Hid (cdK z.toNat xs j = encP z xs 0) := Lib.hid (by unfold encP; rw [if_pos rfl, HN.out])
      have HD : Hid (EncE z xs 0) := Lib.hid (by
        rw [← HN.out] at hpre
        exact hpre.done (by rw [HN.out]; omega))
      rw [HE.out] at hmr hcl
      have hmo := hmr.own
      obtain ⟨A6, c6, rfl⟩ := own_form hmo
      have hr6 := hmo.rd
      go_wp2_with fail
      refine (bytes_any A6 _ c6 (encP z xs 0) wr hr6 (by omega)).mono ?_
      rintro e w9 ⟨A9, c9, rfl, ho9⟩
      go_wp2
      go_ret2
      exact ⟨0, A9, c9, HD.out, rfl, ho9.weak hmr.bel⟩

theorem rencode_any (A : Option Addr) (m c : Nat) (z : Int) (xs : List (Int × Nat)) (w : World) (h1 : RdQ w w.heap.size A m c xs) (hm : m ≤ 100) :
    Calls Tryd.prog 16 #[.int .i64 z, .slice A m c] w (RetREnc w z xs) := by
  by_cases h0 : m = 0
  · subst h0
    obtain rfl : xs = [] := List.eq_nil_of_length_eq_zero h1.len
    exact rencode_none A c z w
  · exact rencode_some A m c z xs w h1 hm (by omega)

end Go.Proofs.YtkndoalnlldolaaDoor
