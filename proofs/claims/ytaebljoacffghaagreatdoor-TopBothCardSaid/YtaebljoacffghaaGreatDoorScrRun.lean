/-
  The contract of layer 21's Run, whichever layer's iterator it goes by.
-/
import Derived.Test.YtaebljoacffghaaGreatDoorScrIt
import Derived.Test.YtaebljoacffghaaGreatDoorScanNew
import Derived.Test.YtaebljoacffghaaGreatDoorTopDuo
import Derived.Deep.CutBlock
namespace Go.Proofs.YtaebljoacffghaaGreatDoor
open Go.RowKit

/-- an iterator, new, as a value -/
def RetOpen (w : World) (T : TypeId) (In : Nat → (Nat → Prop) → World → Int → Bool → Prop) (e : Ending) (w' : World) : Prop :=
  ∃ g, e = .returned (.iface T (.pointer (some ⟨g, 0, none⟩))) ∧ w.heap.size ≤ g ∧ In g (fun k => k = g) w' (-1) false ∧ Below w.heap.size w w'

set_option maxRecDepth 20000 in
set_option maxHeartbeats 1000000 in
theorem open_quick (A : Option Addr) (n c B : Nat) (bs : List Nat) (w : World) (h : Rd w B A n c bs) (hB : B ≤ w.heap.size) (hb : ∀ u ∈ bs, u < 256) (hn : n ≤ 10000) (hT : TabsW w) :
    Calls Tryz.prog 24 #[.slice A n c, .bool true] w (RetOpen w 50 (InJ (jwF bs) w.heap.size)) := by
  have hN := jnew_any A n c B bs w h hB hb (by omega)
  have hat := jnew_at hb (by rw [h.len]; exact hn)
  unfold RetOpen
  generalize jwF bs = W at *
  generalize jnewF bs = s0 at *
  go_enter Tryz.func24, Tryz.ntmps24
  go_wp2_with fail
  refine hN.mono ?_
  rintro e w1 ⟨g, rfl, hg, hj, hb1⟩
  have hI : InJ W w.heap.size g (fun k => k = g) w1 (-1) false := ⟨⟨s0, hj, hat⟩, hT.bel hb1, ⟨by omega, by omega⟩, fun k hk => by omega⟩
  clear hN hat hj h hb
  go_wp2
  go_ret
  exact ⟨g, rfl, hg, hI, hb1⟩
set_option maxRecDepth 20000 in
set_option maxHeartbeats 1000000 in
theorem open_slow (A : Option Addr) (n c B : Nat) (bs : List Nat) (w : World) (h : Rd w B A n c bs) (hB : B ≤ w.heap.size) (hb : ∀ u ∈ bs, u < 256) (hn : n ≤ 10000) (hT : TabsW w) :
    Calls Tryz.prog 24 #[.slice A n c, .bool false] w (RetOpen w 48 (InS (jwF bs) w.heap.size)) := by
  have hN := sc_newG A n c B bs w h hB hb (by omega) hT.room hT.tz
  rw [show wholeF bs = ((jwF bs).xs, (jwF bs).er) from rfl] at hN
  unfold RetOpen
  generalize jwF bs = W at *
  unfold RetItG at hN
  simp only at hN
  go_enter Tryz.func24, Tryz.ntmps24
  go_wp2_with fail
  refine hN.mono ?_
  rintro e w1 ⟨g, A1, c1, rfl, hg, hx, hq, hb1, _⟩
  have hI : InS W w.heap.size g (fun k => k = g) w1 (-1) false := ⟨A1, c1, hx, hq.more (Nat.le_of_lt hx.lt), Off.ahead (B := g) (fun hn => by
    obtain ⟨ad, e, hb, _⟩ := hq.cell hn
    exact ⟨ad, e, hb⟩) (fun k hk => by omega), ⟨by omega, by omega⟩, rfl, fun k hk => by omega⟩
  clear hN hx hq h hb
  go_wp2
  go_ret
  exact ⟨g, rfl, hg, hI, hb1⟩

/-- the replies, in new memory -/
def RetRun (w : World) (xs : List (Int × Nat)) (er n : Nat) (ss : List (Int × Int)) (e : Ending) (w' : World) : Prop :=
  ∃ g rs a d, e = .returned (.tuple #[.slice (some ⟨g, 0, none⟩) n n, .nilIface]) ∧ RunsR xs er (-1) false ss rs a d ∧ RepAt w' g n rs ∧ Below w.heap.size w w'

/-- amid a script: the iterator in block g, the replies in block h -/
structure AtRun (In : Nat → (Nat → Prop) → World → Int → Bool → Prop) (w0 : World) (xs : List (Int × Nat)) (er g h n : Nat) (ss : List (Int × Int)) (k : Nat) (W : World) : Prop where
  bel : Below w0.heap.size w0 W
  now : ∃ rs a d, RunsR xs er (-1) false (ss.take k) rs a d ∧ RepAt W h n rs ∧ In g (Duo g h) W a d

section
variable {T : TypeId} {fN fS fA fE er n g : Nat} {xs : List (Int × Nat)} {In : Nat → (Nat → Prop) → World → Int → Bool → Prop} {ss : List (Int × Int)} {w0 w w' : World} {h k : Nat}

set_option maxRecDepth 20000 in
set_option maxHeartbeats 4000000 in
theorem run_any (v : Value) (q : Bool) (A : Option Addr) (c : Nat) (w : World) (hX : ∀ g, w.heap.size ≤ g → ItOk T fN fS fA w.heap.size g xs (In g)) (hY : ∀ g, ItEr T fE g er (In g)) (hs : RdS w w.heap.size A n ss) (hn : n ≤ 1000)
    (hO : Calls Tryz.prog 24 #[v, .bool q] w (RetOpen w T In)) :
    Calls Tryz.prog 6 #[v, .bool q, .slice A n c] w (RetRun w xs er n ss) := by
  obtain ⟨i0, hi, hz0, hz1, hz2⟩ := info_parts Tryz.infoR
  have HSL := Lib.hid hs.len
  unfold RetRun
  go_enter Tryz.func6, Tryz.ntmps6
  go_wp2_with fail
  refine hO.mono ?_
  rintro e w1 ⟨g, rfl, hg, hit, hb1⟩
  have X := hX g hg
  have Y := hY g
  have hlt := X.lt hit
  clear hO
  go_wp2_with (at_make; (refine wpList_make_full w1 rfl _ _ _ rfl w1.heap.size 39 i0 _ 4 Tryz.underlying25 hi hz0 hz1 .i64 .i64 n n n rfl rfl rfl rfl (by rw [hz2]; omega) (by unfold maxLen; omega) (Nat.le_refl _) ?_; intro w2 hown hgrow))
  have hrep := RepAt.made hown
  have hb2 := hb1.trans ((below_none hgrow).mono hb1.size)
  have hit2 : In g (Duo g w1.heap.size) w2 (-1) false := X.below (X.also hit (fun k hk hl => by
    rcases hk with rfl | rfl
    · rfl
    · omega) (.inl rfl) (fun k hk => by
    rcases hk with rfl | rfl
    · exact hg
    · exact hb1.size)) (below_none hgrow)
  have hne : g ≠ w1.heap.size := by omega
  have hgh : w.heap.size ≤ w1.heap.size := hb1.size
  clear hown hgrow hi hz0 hz1 hz2 hit hb1 hlt
  generalize w1.heap.size = h at *
  have hAt : AtRun In w xs er g h n ss 0 w2 := ⟨hb2, [], -1, false, by rw [List.take_zero]; exact .zero, hrep, hit2⟩
  clear hrep hb2 hit2
  go_loopw [24] (fun x24 wr => ∃ k : Nat, k ≤ n ∧ x24 = .int .i64 (k : Int) ∧ AtRun In w xs er g h n ss k wr) (fun x24 _ => n - (intOf x24).toNat)
  case atStart => exact ⟨0, Nat.zero_le _, rfl, hAt⟩
  case round =>
    clear hAt
    obtain ⟨k, hk, rfl, hbel, rs, a, d, hrun, hrep, hit⟩ := hrel
    by_cases hlt : k < n
    · obtain ⟨ad, rfl, hbl, hc0, hc1⟩ := (hs.below hbel).at_ hlt
      have HTK : Hid (ss.take (k + 1) = ss.take k ++ [ss.getD k (0, 0)]) := Lib.hid (by
        rw [List.take_add_one, List.getD_eq_getElem?_getD, List.getElem?_eq_getElem (by rw [HSL.out]; exact hlt)]
        rfl)
      have HRL : Hid (rs.length = k) := Lib.hid (by
        rw [hrun.len, List.length_take, HSL.out]
        omega)
      generalize ss.getD k (0, 0) = s at *
      obtain ⟨op, t⟩ := s
      simp only at hc0 hc1
      have hki : (k : Int) < (n : Int) := by omega
      have hP : ∀ j, Duo g h j → j < wr.heap.size := by
        rintro j (rfl | rfl)
        · exact X.lt hit
        · exact hrep.lt
      have hba : Below wr.heap.size wr (wr.alloc (.cells #[.int .i64 op, .int .i64 t] 41)) := (Below.refl _ _).alloc (Nat.le_refl _) _
      have hD := do_any X Y (Duo g h) a op t d _ (X.below hit hba) (fun j hj => Nat.lt_of_lt_of_le (hP j hj) hba.size)
      have hrep2 := hrep.below hba
      have hbel2 := hbel.trans (hba.mono hbel.size)
      have HRUN := Lib.hid hrun
      clear hrun hit hrep hbel hba hP
      go_wp2_with fail
      refine hD.mono ?_
      rintro e w5 ⟨⟨ok, t1, z1, c1⟩, a', d', rfl, hr, hit5, hg5⟩
      have hrep5 := hrep2.grown hg5 (fun e => by injection e with e; omega)
      have hbel5 := below_far hbel2 hg5 hg
      have HRN : Hid (RunsR xs er (-1) false (ss.take (k + 1)) (rs ++ [⟨ok, t1, z1, c1⟩]) a' d') := Lib.hid (by
        rw [HTK.out]
        exact .more HRUN.out hr)
      obtain ⟨y0, q0⟩ := hrep5.room (k * 4) (by omega)
      obtain ⟨y1, q1⟩ := hrep5.room (k * 4 + 1) (by omega)
      obtain ⟨y2, q2⟩ := hrep5.room (k * 4 + 2) (by omega)
      obtain ⟨y3, q3⟩ := hrep5.room (k * 4 + 3) (by omega)
      have f0 := hrep5.free (k * 4)
      have f1 := hrep5.free (k * 4 + 1)
      have f2 := hrep5.free (k * 4 + 2)
      have f3 := hrep5.free (k * 4 + 3)
      have hset := hrep5.set HRL.out hlt ⟨ok, t1, z1, c1⟩
      have hgs := grown_set4 w5 h (k * 4) (.bool ok) (.int .i64 t1) (.int .u64 (z1 : Int)) (.int .i64 (c1 : Int))
      have hnx : AtRun In w xs er g h n ss (k + 1) ((((w5.setCell ⟨h, k * 4, none⟩ (.bool ok)).setCell ⟨h, k * 4 + 1, none⟩ (.int .i64 t1)).setCell ⟨h, k * 4 + 2, none⟩ (.int .u64 (z1 : Int))).setCell ⟨h, k * 4 + 3, none⟩ (.int .i64 (c1 : Int))) :=
        ⟨below_far hbel5 hgs hgh, _, a', d', HRN.out, hset, X.far hit5 hgs (.inr rfl) hne⟩
      clear hD hrep2 hbel2 hr hit5 hg5 hrep5 hbel5 hset hgs
      simp only [repV]
      go_wp2
      go_roundw
      case rel => exact ⟨k + 1, by omega, by go_num, hnx⟩
      case measure => simp [intOf]; omega
    · obtain rfl : k = n := by omega
      have hrun' : RunsR xs er (-1) false ss rs a d := by
        have h2 := hrun
        rwa [List.take_of_length_le (by rw [HSL.out]; exact Nat.le_refl _)] at h2
      go_wp2
      go_ret2
      exact ⟨h, rs, a, d, rfl, hrun', hrep, hbel⟩
end

end Go.Proofs.YtaebljoacffghaaGreatDoor
