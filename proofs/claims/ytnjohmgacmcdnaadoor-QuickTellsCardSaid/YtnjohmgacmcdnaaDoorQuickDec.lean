/-
  The contract of layer 12's Decode: the samples of any bytes, up to what is amiss.
-/
import Derived.Test.YtnjohmgacmcdnaaDoorQuickFill
import Derived.Test.YtnjohmgacmcdnaaDoorQuick1
import Derived.Test.YtnjohmgacmcdnaaDoorBatMem
import Derived.Deep.CutBlock
namespace Go.Proofs.YtnjohmgacmcdnaaDoor
open Go.RowKit

/-- what Decode comes to -/
def RetQD (w : World) (z : Int) (bs : List Nat) (n : Int) (e : Ending) (w' : World) : Prop :=
  ∃ xs er A c, DecA z bs n xs er ∧ e = .returned (.tuple #[.slice A xs.length c, errV er]) ∧ OwnQ w w' (.slice A xs.length c) xs
/-- behind some batches: these, the state in a box, the reader -/
def AtQD (w : World) (g n : Nat) (z : Int) (A : Option Addr) (m c : Nat) (bs : List Nat) (l : Value) (wr : World) : Prop :=
  ∃ (j a : Nat) (xs : List (Int × Nat)) (s : KS), j ≤ n ∧ AtQ z (flat bs) j xs s ((flat bs).drop a) ∧ MidQ w (g + 2) wr l xs ∧ BoxL wr g [.int .i64 (s.n : Int), .int .i64 s.t, .int .i64 s.d, .int .u64 (s.v : Int), .int .u64 (s.e : Int), .int .u64 (s.x.prev : Int), .int .i64 (s.x.lead : Int), .int .i64 (s.x.len : Int)] ∧ Rdr wr (g + 1) A m c bs a
def slen : Value → Nat
  | .slice _ n _ => n
  | _ => 0
section
variable {w w1 w2 : World} {g B : Nat} {v : Value} {xs : List (Int × Nat)}
theorem MidQ.wentO (h : MidQ w B w1 v xs) (hg : w1.grownBy w2 (some g)) (h0 : w.heap.size ≤ g) (hgB : g < B) : MidQ w B w2 v xs :=
  ⟨h.row.kept hg (.inr fun e => by have := (h.row.lt g e).1; omega), bel_went hg h.bel h0, h.le, h.fit⟩
theorem Rdr.reset {B n c a : Nat} {A : Option Addr} {bs : List Nat} (h : Rdr w1 g A n c bs a) (hr : Rd w2 B A n c bs) (hB : B ≤ g) (hk : w2.heap[g]? = w1.heap[g]?) : Rdr w2 g A n c bs a :=
  ⟨(World.cell?_of_block hk).trans h.c0, (World.cell?_of_block hk).trans h.c1, (World.frozen?_of_block hk).trans h.f1, hr.more hB, h.byte, h.at_, h.few⟩
end

set_option maxRecDepth 20000 in
set_option maxHeartbeats 1000000 in
theorem quickdec_arg (A : Option Addr) (m c : Nat) (bs : List Nat) (z n : Int) (w : World) (_hn : -9223372036854775808 ≤ n ∧ n ≤ 9223372036854775807) (h : n < 1 ∨ (1 ≤ n ∧ 65535 < n)) :
    Calls Tryd.prog 6 #[.int .i64 z, .slice A m c, .int .i64 n] w (RetQD w z bs n) := by
  have HD : Hid (DecA z bs n [] 1) := Lib.hid (.inl ⟨by omega, rfl, rfl⟩)
  rcases h with h | h
  all_goals
    go_enter Tryd.func6, Tryd.ntmps6
    go_wp2
    go_ret2
    exact ⟨[], 1, none, 0, HD.out, rfl, OwnQ.nil_ _ _ (Below.refl _ _)⟩

set_option maxRecDepth 20000 in
set_option maxHeartbeats 4000000 in
theorem quickdec_in (A : Option Addr) (m c : Nat) (bs : List Nat) (z : Int) (n : Nat) (w : World) (h : Rd w w.heap.size A m c bs) (hb : ∀ x ∈ bs, x < 256) (hm : m ≤ 10000) (hn : 1 ≤ n ∧ n ≤ 65535) (hT : TabsW w) :
    Calls Tryd.prog 6 #[.int .i64 z, .slice A m c, .int .i64 (n : Int)] w (RetQD w z bs (n : Int)) := by
  have HB := Lib.hid hb
  have hN := bnext_any
  unfold NextC at hN
  have HN := Lib.hid hN
  have hn1 : ¬ (n : Int) < 1 := by omega
  have hn2 : ¬ 65535 < (n : Int) := by omega
  have HDA : Hid (∀ xs e, Dec z n zeroK (flat bs) xs e → DecA z bs (n : Int) xs e) := Lib.hid fun xs e hd => .inr ⟨by omega, by simpa using hd⟩
  clear hb hN
  go_enter Tryd.func6, Tryd.ntmps6
  go_upto_region 5 with fail
  have b9 := BoxL.new w [.int .i64 0, .int .i64 0, .int .i64 0, .int .u64 0, .int .u64 0, .int .u64 0, .int .i64 0, .int .i64 0] 46
  have hW : Below w.heap.size w (w.alloc (.cells #[.int .i64 0, .int .i64 0, .int .i64 0, .int .u64 0, .int .u64 0, .int .u64 0, .int .i64 0, .int .i64 0] 46)) := by repeat (first | with_reducible exact Below.refl _ _ | with_reducible assumption | with_reducible refine Below.drew ?_ | with_reducible refine below_drewN ?_ _ | with_reducible refine Below.alloc ?_ (by (first | assumption | omega | (simp; done) | (simp; omega))) _ | with_reducible refine below_set ?_ (by (first | assumption | omega | (simp; done) | (simp; omega))) _ _)
  have hWs : (w.alloc (.cells #[.int .i64 0, .int .i64 0, .int .i64 0, .int .u64 0, .int .u64 0, .int .u64 0, .int .i64 0, .int .i64 0] 46)).heap.size = w.heap.size + 1 := by simp
  generalize w.alloc (.cells #[.int .i64 0, .int .i64 0, .int .i64 0, .int .u64 0, .int .u64 0, .int .u64 0, .int .i64 0, .int .i64 0] 46) = W at *
  obtain ⟨g9, hg9⟩ : ∃ g, w.heap.size = g := ⟨_, rfl⟩
  have hnew := new_any A m c bs W ((h.below hW).more hW.size) HB.out (by omega)
  rw [hg9] at b9 hWs
  rw [hWs] at hnew
  rw [show w.heap.size = g9 from hg9]
  go_wp2_with fail
  refine hnew.mono ?_
  rintro e W2 ⟨rfl, hrd0, hb2, hs2⟩
  have b9' := b9.below (hb2.mono (by rw [hWs]; exact Nat.le_refl _))
  have hW2 := hW.trans (hb2.mono (by rw [hg9]; omega))
  have HG9 := Lib.hid hg9
  clear hnew b9 hW hb2 hs2 hWs hg9 hn1 hn2
  clear W
  go_upto_block 0 with fail
  go_wp2_with fail
  go_loopw [8] (fun l wr => AtQD w g9 n z A m c bs l wr) (fun l _ => n - slen l)
  case atStart =>
    exact ⟨0, 0, [], zeroK, Nat.zero_le _, AtQ.zero _ _, MidQ.nil_ hW2 (by rw [HG9.out]; omega), b9', hrd0⟩
  case round =>
    clear b9' hrd0 hW2
    obtain ⟨j, a, xs, s, hj, hat, hmr, x9, hrd⟩ := hrel
    obtain ⟨hxl, hs, hsn⟩ := hat.same_len
    have hwrs := hmr.bel.size
    have l9 := x9.lt
    have l10 := hrd.lt
    have HXL := Lib.hid hxl
    have HAT := Lib.hid hat
    obtain ⟨A8, c8, rfl, _⟩ := hmr.own.form
    rw [HXL.out] at hmr ⊢
    clear hxl hat
    by_cases hlt : j < n
    · obtain ⟨d, hd⟩ : ∃ d : Int, (n : Int) - (j : Int) = d := ⟨_, rfl⟩
      have hsub : IntKind.i64.wrap ((n : Int) - (j : Int)) = d := by rw [hd]; exact IntWalk.i64_in _ (by omega)
      have hdb : -9223372036854775808 ≤ d ∧ d ≤ 9223372036854775807 := by omega
      have HD := Lib.hid hd
      have hT0 := hT.bel hmr.bel
      have hT1 : TabsLt (g9 + 1) := hT.lt.le (by rw [HG9.out]; omega)
      have HSN := Lib.hid hsn
      have hsn9 : s.n ≤ 900000 := by omega
      have HJN := Lib.hid hlt
      have hjn : (j : Int) < (n : Int) := by omega
      clear hd hsn hlt
      go_upto_region 7 with fail
      go_cut [11, 12, 13] (fun x11 x12 x13 wx => NXAt wr (g9 + 1) A m c bs z d s ((flat bs).drop a) x11 x12 x13 wx)
      case first =>
        obtain ⟨f0, f1, f2, f3, f4, f5, f6, f7⟩ := x9.get8
        have hNx := HN.out (g9 + 1) A m c bs a z d s wr hrd (by omega) hT1 hT0 hdb hs hsn9
        clear hmr x9 hrd
        go_wp2_with fail
        refine hNx.mono ?_
        rintro e w9 ⟨xs9, s9, p9, er9, A9, c9, a9, hd9, rfl, hq9, hA9, hr9, hp9, hg9⟩
        clear hNx f0 f1 f2 f3 f4 f5 f6 f7
        go_wp2_with fail
        go_meet
        exact NXAt.after hd9 hq9 hA9 hr9 hp9 (Below.refl _ _) hg9 _
      case rest =>
        obtain ⟨ys, s1, p1, er, A', c', a', gs, hd, rfl, rfl, rfl, hq, hA, hrd1, hp, hgr, x14, hgs⟩ := hcut
        replace x9 := x9.grown hgr (by simp)
        have hub : ∀ g, (Value.slice A8 j c8).ownBlock = some g → g < wr.heap.size := fun g hg => (hmr.row.lt g hg).2
        replace hmr := hmr.wentO hgr (by rw [HG9.out]; omega) (by omega)
        obtain ⟨hle1, hle2, hle3, hle4⟩ := hd.le hs
        have hwx := hgr.size
        have HD2 := Lib.hid hd
        have HP := Lib.hid hp
        have l9c := x9.lt
        have l14 := x14.lt
        have l10c := hrd1.lt
        have nx : (Value.slice A8 j c8).ownBlock ≠ some gs := fun e => by have := hub _ e; omega
        have hxm : xs.length + ys.length ≤ 1073741824 := by rw [HXL.out]; omega
        have hVs : g9 + 2 ≤ wc.heap.size := by omega
        obtain ⟨L, HL⟩ : ∃ L, Hid (ys.length = L) := ⟨_, Lib.hid rfl⟩
        obtain ⟨ev, HE⟩ : ∃ ev, Hid (errV er = ev) := ⟨_, Lib.hid rfl⟩
        rw [HL.out] at hq hxm hle2 ⊢
        rw [HE.out]
        clear hd hp hrd hgr hub hA hT0
        go_upto_region 8 with fail
        go_upto_region 9 with (at_builtin; (refine wpList_appMQ rfl (.tmp 39) (.tmp 40) rfl rfl rfl hmr hVs hq hxm ?_; intro v' w' m' hb' hg'))
        have x9W := x9.belowB hb' (by omega)
        have x14W := x14.grown hg' nx
        have hrdW := hrd1.keep (w' := w') fun k hk => hb'.block k (by omega)
        clear hq hmr x9 x14 hrd1 hg' hb'
        by_cases he : er = 0
        · subst he
          have hev : ev = .nilIface := HE.out.symm.trans rfl
          have hpp := HP.out rfl
          subst hpp
          have hmore := HAT.out.more HJN.out (by rw [HD.out]; exact HD2.out)
          rw [HL.out] at hmore
          obtain ⟨hm1, hm2, hm3⟩ := hmore
          have HM1 := Lib.hid hm1
          obtain ⟨z0, z1, z2, z3, z4, z5, z6, z7⟩ := x14W.get8
          obtain ⟨k0, k1, k2, k3, k4, k5, k6, k7⟩ := x9W.get8
          obtain ⟨kf0, kf1, kf2, kf3, kf4, kf5, kf6, kf7⟩ := x9W.free8
          have hne : g9 ≠ gs := by omega
          have mF := m'.set8 (g := g9) (by rw [HG9.out]; exact Nat.le_refl _) (by omega) (.int .i64 (s1.n : Int)) (.int .i64 s1.t) (.int .i64 s1.d) (.int .u64 (s1.v : Int)) (.int .u64 (s1.e : Int)) (.int .u64 (s1.x.prev : Int)) (.int .i64 (s1.x.lead : Int)) (.int .i64 (s1.x.len : Int))
          have xF := x9W.all8 (.int .i64 (s1.n : Int)) (.int .i64 s1.t) (.int .i64 s1.d) (.int .u64 (s1.v : Int)) (.int .u64 (s1.e : Int)) (.int .u64 (s1.x.prev : Int)) (.int .i64 (s1.x.lead : Int)) (.int .i64 (s1.x.len : Int))
          have rF := hrdW.reset (h.below mF.bel) (by rw [HG9.out]; omega) ((gr_set8 w' g9 (.int .i64 (s1.n : Int)) (.int .i64 s1.t) (.int .i64 s1.d) (.int .u64 (s1.v : Int)) (.int .u64 (s1.e : Int)) (.int .u64 (s1.x.prev : Int)) (.int .i64 (s1.x.lead : Int)) (.int .i64 (s1.x.len : Int))).block (g9 + 1) hrdW.lt (by simp))
          obtain ⟨A2, c2, hv, _⟩ := m'.own.form
          rw [show (xs ++ ys).length = j + L by rw [List.length_append, HXL.out, HL.out]] at hv
          have HV := Lib.hid hv
          clear hv
          have HRF := Lib.hid (And.intro mF (And.intro xF rF))
          subst hev
          clear mF xF rF m' x9W x14W hrdW
          go_wp2_with fail
          clear z0 z1 z2 z3 z4 z5 z6 z7 k0 k1 k2 k3 k4 k5 k6 k7 kf0 kf1 kf2 kf3 kf4 kf5 kf6 kf7
          go_roundw
          case rel => exact ⟨j + L, a', xs ++ ys, s1, hm3, HM1.out, HRF.out.1, HRF.out.2.1, HRF.out.2.2⟩
          case measure =>
            rw [HV.out]
            simp [slen]
            omega
        · have hev : errV er = .iface 42 (.int .i64 (er : Int)) := by unfold errV; rw [if_neg he]
          have HDD := Lib.hid (HDA.out _ _ (HAT.out.err HJN.out (by rw [HD.out]; exact HD2.out) he))
          have hown := m'.own
          obtain ⟨A', c', rfl, _⟩ := hown.form
          obtain ⟨LL, HLL⟩ : ∃ LL, Hid ((xs ++ ys).length = LL) := ⟨_, Lib.hid rfl⟩
          rw [HLL.out] at hown ⊢
          obtain rfl := hev.symm.trans HE.out
          clear m' x9W x14W hrdW
          go_wp2_with fail
          go_ret2
          exact ⟨xs ++ ys, er, A', c', HDD.out, (by rw [hev, HLL.out]; kernel_rfl), by rw [HLL.out]; exact hown⟩
    · obtain rfl : j = n := by omega
      have HD := Lib.hid (HDA.out _ _ HAT.out.done)
      have hF := qfill_any (g9 + 1) A m c bs a wr hrd
      have hown := hmr.own
      clear x9 hmr hrd hsn
      rcases tailE_zero ((flat bs).drop a) with h0 | h0
      · rw [h0] at hF HD
        rw [show decide ((0 : Nat) = 0) = true from rfl] at hF
        clear h0
        go_wp2_with fail
        refine hF.mono ?_
        rintro e w1 ⟨rfl, k, rfl⟩
        go_wp2
        go_ret2
        exact ⟨xs, 0, A8, c8, HD.out, (by rw [HXL.out]; rfl), by rw [HXL.out]; exact hown.keep (below_drewN (Below.refl _ _) k)⟩
      · rw [h0] at hF HD
        rw [show decide ((3 : Nat) = 0) = false from rfl] at hF
        clear h0
        go_wp2_with fail
        refine hF.mono ?_
        rintro e w1 ⟨rfl, k, rfl⟩
        go_wp2
        go_ret2
        exact ⟨xs, 3, A8, c8, HD.out, (by rw [HXL.out]; kernel_rfl), by rw [HXL.out]; exact hown.keep (below_drewN (Below.refl _ _) k)⟩

theorem quickdec_any (A : Option Addr) (m c : Nat) (bs : List Nat) (z n : Int) (w : World) (hn : -9223372036854775808 ≤ n ∧ n ≤ 9223372036854775807) (h : Rd w w.heap.size A m c bs) (hb : ∀ x ∈ bs, x < 256) (hm : m ≤ 10000) (hT : TabsW w) :
    Calls Tryd.prog 6 #[.int .i64 z, .slice A m c, .int .i64 n] w (RetQD w z bs n) := by
  by_cases h1 : 1 ≤ n ∧ n ≤ 65535
  · obtain ⟨k, rfl⟩ := Int.eq_ofNat_of_zero_le (show 0 ≤ n by omega)
    exact quickdec_in A m c bs z k w h hb hm (by omega) hT
  · exact quickdec_arg A m c bs z n w hn (by omega)

end Go.Proofs.YtnjohmgacmcdnaaDoor
