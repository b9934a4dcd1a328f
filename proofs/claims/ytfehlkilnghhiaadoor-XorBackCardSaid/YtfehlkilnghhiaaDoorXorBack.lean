/-
  XorBack, walked: it returns true, whatever the arguments.
-/
import Derived.Test.YtfehlkilnghhiaaDoorXorBackLib
import Derived.Deep.DeepCutAuto
import Derived.Deep.CutBlock
import Derived.Deep.RegionHeld3
namespace Go.Proofs.YtfehlkilnghhiaaDoor
open Go.RowKit

set_option maxRecDepth 20000 in
set_option maxHeartbeats 1000000 in
theorem xback_big (A1 A2 A3 A4 : Option Addr) (m1 c1 m2 c2 m3 c3 m4 c4 : Nat) (w : World) (_hl : m1 ≤ 9223372036854775807 ∧ m2 ≤ 9223372036854775807 ∧ m3 ≤ 9223372036854775807 ∧ m4 ≤ 9223372036854775807)
    (h : 300 < m1 ∨ (m1 ≤ 300 ∧ 50 < m2) ∨ (m1 ≤ 300 ∧ m2 ≤ 50 ∧ 300 < m3) ∨ (m1 ≤ 300 ∧ m2 ≤ 50 ∧ m3 ≤ 300 ∧ 300 < m4)) (hR : TzW w) :
    Calls Tryd.prog 4 #[.slice A1 m1 c1, .slice A2 m2 c2, .slice A3 m3 c3, .slice A4 m4 c4] w (RetTrue w) := by
  rcases h with h | h | h | h
  all_goals
    go_enter Tryd.func4, Tryd.ntmps4
    go_wp2_with (go_at_call 5; refine (up7_any _ hR).mono ?_; rintro e w1 ⟨rfl, hb1⟩)
    go_ret
    exact ⟨rfl, hb1⟩

/-- behind k values: all bits so far, and the state, in their boxes -/
def AtX (w : World) (g10 g11 n : Nat) (l : List Bool) (vs : List Nat) (i : Value) (wr : World) : Prop :=
  ∃ k A c, k ≤ n ∧ i = .int .i64 (k : Int) ∧ Below w.heap.size w wr ∧ Rd wr wr.heap.size A (pack (l ++ cdX vs k)).length c (pack (l ++ cdX vs k)) ∧
    BoxAt wr g10 (.slice A (pack (l ++ cdX vs k)).length c) (.int .i64 (((l ++ cdX vs k).length : Nat) : Int)) ∧ Box3 wr g11 (.int .u64 ((stX vs k).prev : Int)) (.int .i64 ((stX vs k).lead : Int)) (.int .i64 ((stX vs k).len : Int))

/-- behind j values that were got: all bits, the state, and the place -/
def AtY (w : World) (g10 g11 n : Nat) (l : List Bool) (vs : List Nat) (A : Option Addr) (c B : Nat) (r : List Bool) (RM : Nat) (at_ i : Value) (wr : World) : Prop :=
  ∃ j, j ≤ n ∧ i = .int .i64 (j : Int) ∧ at_ = .int .i64 (((l ++ cdX vs j).length : Nat) : Int) ∧ Mid w B wr (.slice A (pack r).length c) (pack r) ∧
    BoxAt wr g10 (.slice A (pack r).length c) (.int .i64 (RM : Int)) ∧ Box3 wr g11 (.int .u64 ((stX vs j).prev : Int)) (.int .i64 ((stX vs j).lead : Int)) (.int .i64 ((stX vs j).len : Int))

set_option maxRecDepth 20000 in
set_option maxHeartbeats 60000000 in
theorem xback_in (A1 A2 A3 A4 : Option Addr) (m1 c1 m2 c2 m3 c3 m4 c4 : Nat) (l rest b vs : List Nat) (w : World) (h1 : Rd w w.heap.size A1 m1 c1 l) (h2 : RdU w w.heap.size A2 m2 vs) (h3 : Rd w w.heap.size A3 m3 c3 rest) (h4 : Rd w w.heap.size A4 m4 c4 b)
    (hb1 : ∀ x ∈ l, x < 256) (hb3 : ∀ x ∈ rest, x < 256) (hb4 : ∀ x ∈ b, x < 256) (hm1 : m1 ≤ 300) (hm2 : m2 ≤ 50) (hm3 : m3 ≤ 300) (hm4 : m4 ≤ 300) (hR : TzW w) :
    Calls Tryd.prog 4 #[.slice A1 m1 c1, .slice A2 m2 c2, .slice A3 m3 c3, .slice A4 m4 c4] w (RetTrue w) := by
  obtain ⟨p, HP⟩ : ∃ p, Hid (p = odd l) := ⟨_, Lib.hid rfl⟩
  have HPL : Hid (p.length = m1) := Lib.hid (by rw [HP.out, odd_length, h1.len])
  have HVS := Lib.hid h2.fit
  go_enter Tryd.func4, Tryd.ntmps4
  go_wp2_with fail
  refine (up7_any w hR).mono ?_
  rintro e w1 ⟨rfl, hw1⟩
  go_wp2_with fail
  refine (bits_as A1 m1 c1 l p w1 ((h1.below hw1).more hw1.size) hb1 (by omega) HP.out).mono ?_
  rintro e w2 ⟨A5, c5, rfl, ho5⟩
  have b10 := (BoxAt.new w2 (.slice A5 (pack p).length c5) (.int .i64 (m1 : Int)) 31).onA (.cells #[.int .u64 0, .int .i64 0, .int .i64 0] 24)
  have b11 := Box3.new (w2.alloc (.cells #[.slice A5 (pack p).length c5, .int .i64 (m1 : Int)] 31)) (.int .u64 0) (.int .i64 0) (.int .i64 0) 24
  simp only [World.size_alloc] at b11
  have hal := two_below w2 (.cells #[.slice A5 (pack p).length c5, .int .i64 (m1 : Int)] 31) (.cells #[.int .u64 0, .int .i64 0, .int .i64 0] 24)
  have hr5 := (ho5.rd.below hal).more hal.size
  have hw2 := hw1.trans (ho5.bel.mono hw1.size)
  have hg10 : w.heap.size ≤ w2.heap.size := hw2.size
  replace hw2 := hw2.trans (hal.mono hw2.size)
  clear ho5 hw1 hal
  go_upto_block 0 with fail
  generalize (w2.alloc (.cells #[.slice A5 (pack p).length c5, .int .i64 (m1 : Int)] 31)).alloc (.cells #[.int .u64 0, .int .i64 0, .int .i64 0] 24) = W at *
  generalize w2.heap.size = g10 at *
  go_cut [12] (fun i wx => AtX w g10 (g10 + 1) m2 p vs i wx ∧ i = .int .i64 (m2 : Int))
  case first =>
    go_wp2_with fail
    go_loopw [12] (fun i wr => AtX w g10 (g10 + 1) m2 p vs i wr) (fun i _ => m2 - (intOf i).toNat)
    case atStart =>
      have e0 : p ++ cdX vs 0 = p := List.append_nil p
      refine ⟨0, A5, c5, Nat.zero_le _, rfl, hw2, ?_⟩
      rw [e0]
      exact ⟨hr5, by rw [HPL.out]; exact b10, b11⟩
    case round =>
      obtain ⟨k, A, c, hk, rfl, hwr, hrd, x10, x11⟩ := hrel
      by_cases hlt : k < m2
      · have hvk := valX_le HVS.out k
        have hsm := stX_may HVS.out k
        obtain ⟨ad, rfl, hbl, hcv⟩ := (h2.below hwr).at_ hlt
        have hcl := cdX_le HVS.out k
        have hcl1 := (codeX_pos hsm hvk).2
        have HST : Hid (stX vs (k + 1) = nextX (stX vs k) (vs.getD k 0)) := Lib.hid rfl
        have HCD : Hid (p ++ cdX vs (k + 1) = (p ++ cdX vs k) ++ codeX (stX vs k) (vs.getD k 0)) := Lib.hid (by rw [List.append_assoc]; rfl)
        have hpkl : (p ++ cdX vs k).length ≤ 5000 := by rw [List.length_append, HPL.out]; omega
        have hC := fun X hX => xcode_any (stX vs k).prev (stX vs k).lead (stX vs k).len (vs.getD k 0) X hsm hvk hX
        unfold RetX at hC
        have hpv := nextX_prev (stX vs k) (vs.getD k 0)
        generalize p ++ cdX vs k = pk at *
        generalize stX vs k = s at *
        generalize vs.getD k 0 = v at *
        change ∀ X, TzW X → Calls _ _ _ X (fun e w' => ∃ A c, e = .returned (.tuple #[.agg #[.slice A (pack (codeX s v)).length c, .int .i64 (((codeX s v).length : Nat) : Int)], .agg #[.int .u64 (v : Int), .int .i64 ((nextX s v).lead : Int), .int .i64 ((nextX s v).len : Int)]]) ∧ Own X w' (.slice A (pack (codeX s v)).length c) (pack (codeX s v))) at hC
        generalize codeX s v = ck at *
        generalize nextX s v = nx at *
        obtain ⟨CM, HCM⟩ : ∃ CM, Hid (ck.length = CM) := ⟨_, Lib.hid rfl⟩
        rw [HCM.out] at hC hcl1
        obtain ⟨g11, hg11⟩ : ∃ g11, g10 + 1 = g11 := ⟨_, rfl⟩
        have src0 : Src wr g11 s (ad.add k) v := ⟨by rw [← hg11]; exact x11, by rw [add_block]; exact Nat.lt_of_lt_of_le hbl hwr.size, hcv⟩
        have hRW := hR.bel hwr
        rw [hg11] at x11 ⊢
        have HG11 := Lib.hid hg11
        clear hg11 hsm hvk hcv
        go_upto_region 9 with fail
        go_cut [13, 14] (fun x13 x14 wx => ∃ gx gs, x13 = .pointer (some ⟨gx, 0, none⟩) ∧ x14 = .pointer (some ⟨gs, 0, none⟩) ∧ CodeAt wr ck CM v nx gx gs wx)
        case first =>
          -- HEAVY: the region that codes a value
          clear x10 x11 hrd
          have src := src0.drew
          have hbw : Below wr.heap.size wr wr.drew := (Below.refl _ _).drew
          have hRX := hRW.drew
          obtain ⟨_, q0, q1, q2, _, _, _⟩ := src0.b.drew
          have q3 := src0.drew.v
          have n0 := World.new_ne wr ⟨g11, 0, none⟩ src0.b.c0
          have n1 := World.new_ne wr ⟨g11, 1, none⟩ src0.b.c1
          have n2 := World.new_ne wr ⟨g11, 2, none⟩ src0.b.c2
          have n3 := World.new_ne wr _ src0.v
          go_region_held3 (fun w' => w'.cell? ⟨g11, 0, none⟩ = some (.int .u64 (s.prev : Int)) ∧ w'.cell? ⟨g11, 1, none⟩ = some (.int .i64 (s.lead : Int)) ∧ w'.cell? ⟨g11, 2, none⟩ = some (.int .i64 (s.len : Int)) ∧ w'.cell? (ad.add k) = some (.int .u64 (v : Int)))
            (with_reducible first | exact ⟨q0, q1, q2, q3⟩ | exact ⟨(src).b.c0, (src).b.c1, (src).b.c2, (src).v⟩ | exact ⟨(src.onA _).b.c0, (src.onA _).b.c1, (src.onA _).b.c2, (src.onA _).v⟩ | exact ⟨((src0.onA _).drew).b.c0, ((src0.onA _).drew).b.c1, ((src0.onA _).drew).b.c2, ((src0.onA _).drew).v⟩ | exact ⟨(((src0.onA _).onA _).drew).b.c0, (((src0.onA _).onA _).drew).b.c1, (((src0.onA _).onA _).drew).b.c2, (((src0.onA _).onA _).drew).v⟩ | exact ⟨((src.onA _).onA _).b.c0, ((src.onA _).onA _).b.c1, ((src.onA _).onA _).b.c2, ((src.onA _).onA _).v⟩ | exact ⟨(((src).set hd13 hv13 0 _).set hd13 hv13 1 _).b.c0, (((src).set hd13 hv13 0 _).set hd13 hv13 1 _).b.c1, (((src).set hd13 hv13 0 _).set hd13 hv13 1 _).b.c2, (((src).set hd13 hv13 0 _).set hd13 hv13 1 _).v⟩ | exact ⟨((((src).set hd14 hv14 0 _).set hd14 hv14 1 _).set hd14 hv14 2 _).b.c0, ((((src).set hd14 hv14 0 _).set hd14 hv14 1 _).set hd14 hv14 2 _).b.c1, ((((src).set hd14 hv14 0 _).set hd14 hv14 1 _).set hd14 hv14 2 _).b.c2, ((((src).set hd14 hv14 0 _).set hd14 hv14 1 _).set hd14 hv14 2 _).v⟩ | exact ⟨((((((src).set hd13 hv13 0 _).set hd13 hv13 1 _).set hd14 hv14 0 _).set hd14 hv14 1 _).set hd14 hv14 2 _).b.c0, ((((((src).set hd13 hv13 0 _).set hd13 hv13 1 _).set hd14 hv14 0 _).set hd14 hv14 1 _).set hd14 hv14 2 _).b.c1, ((((((src).set hd13 hv13 0 _).set hd13 hv13 1 _).set hd14 hv14 0 _).set hd14 hv14 1 _).set hd14 hv14 2 _).b.c2, ((((((src).set hd13 hv13 0 _).set hd13 hv13 1 _).set hd14 hv14 0 _).set hd14 hv14 1 _).set hd14 hv14 2 _).v⟩ | exact ⟨((((((src).set hd14 hv14 0 _).set hd14 hv14 1 _).set hd14 hv14 2 _).set hd13 hv13 0 _).set hd13 hv13 1 _).b.c0, ((((((src).set hd14 hv14 0 _).set hd14 hv14 1 _).set hd14 hv14 2 _).set hd13 hv13 0 _).set hd13 hv13 1 _).b.c1, ((((((src).set hd14 hv14 0 _).set hd14 hv14 1 _).set hd14 hv14 2 _).set hd13 hv13 0 _).set hd13 hv13 1 _).b.c2, ((((((src).set hd14 hv14 0 _).set hd14 hv14 1 _).set hd14 hv14 2 _).set hd13 hv13 0 _).set hd13 hv13 1 _).v⟩ | exact ⟨((((src).set hd13 hv13 0 _).set hd13 hv13 1 _).onA _).b.c0, ((((src).set hd13 hv13 0 _).set hd13 hv13 1 _).onA _).b.c1, ((((src).set hd13 hv13 0 _).set hd13 hv13 1 _).onA _).b.c2, ((((src).set hd13 hv13 0 _).set hd13 hv13 1 _).onA _).v⟩ | exact ⟨(((((src).set hd14 hv14 0 _).set hd14 hv14 1 _).set hd14 hv14 2 _).onA _).b.c0, (((((src).set hd14 hv14 0 _).set hd14 hv14 1 _).set hd14 hv14 2 _).onA _).b.c1, (((((src).set hd14 hv14 0 _).set hd14 hv14 1 _).set hd14 hv14 2 _).onA _).b.c2, (((((src).set hd14 hv14 0 _).set hd14 hv14 1 _).set hd14 hv14 2 _).onA _).v⟩) (first
            | (go_at_call 8; (with_reducible refine (hC _ hRX).mono ?_); rintro e w9 ⟨A9, c9, rfl, ho9⟩; have hbX := hbw; clear q0 q1 q2 q3; replace src := src.below ho9.bel; replace hbw := hbw.trans (ho9.bel.mono hbw.size); obtain ⟨_, q0, q1, q2, _, _, _⟩ := src.b; have q3 := src.v; (try replace x13 := x13.below ho9.bel); (try replace x14 := x14.below ho9.bel); (try (have x13t := x13; obtain ⟨_, y0, y1, yf0, yf1⟩ := x13t)); (try (have x14t := x14; obtain ⟨_, z0, z1, z2, zf0, zf1, zf2⟩ := x14t)))
            | (go_at_call 8; have hv0 := src0.hv; have hg0 := src0.b.lt; have x13 := (BoxAt.new wr (.slice none 0 0) (.int .i64 0) 31).drew; have hd13 : g11 ≠ wr.heap.size := Nat.ne_of_lt hg0; have hv13 : (ad.add k).block < wr.heap.size := hv0; have hg13 := Nat.le_refl wr.heap.size; have hl13 : wr.heap.size < (wr.alloc (.cells #[.slice none 0 0, .int .i64 0] 31)).drew.heap.size := (by simp); replace src := (src0.onA (.cells #[.slice none 0 0, .int .i64 0] 31)).drew; replace hbw : Below wr.heap.size wr (wr.alloc (.cells #[.slice none 0 0, .int .i64 0] 31)).drew := (by first | exact (Below.refl _ _).drew | exact ((Below.refl _ _).alloc (Nat.le_refl _) _).drew | exact (((Below.refl _ _).alloc (Nat.le_refl _) _).alloc (by simp) _).drew); replace hRX : TzW (wr.alloc (.cells #[.slice none 0 0, .int .i64 0] 31)).drew := hRW.bel hbw; (with_reducible refine (hC _ hRX).mono ?_); rintro e w9 ⟨A9, c9, rfl, ho9⟩; have hbX := hbw; clear q0 q1 q2 q3; replace src := src.below ho9.bel; replace hbw := hbw.trans (ho9.bel.mono hbw.size); obtain ⟨_, q0, q1, q2, _, _, _⟩ := src.b; have q3 := src.v; (try replace x13 := x13.below ho9.bel); (try replace x14 := x14.below ho9.bel); (try (have x13t := x13; obtain ⟨_, y0, y1, yf0, yf1⟩ := x13t)); (try (have x14t := x14; obtain ⟨_, z0, z1, z2, zf0, zf1, zf2⟩ := x14t)))
            | (go_at_call 8; have hv0 := src0.hv; have hg0 := src0.b.lt; have x14 := (Box3.new wr (.int .u64 0) (.int .i64 0) (.int .i64 0) 24).drew; have hd14 : g11 ≠ wr.heap.size := Nat.ne_of_lt hg0; have hv14 : (ad.add k).block < wr.heap.size := hv0; have hg14 := Nat.le_refl wr.heap.size; have hl14 : wr.heap.size < (wr.alloc (.cells #[.int .u64 0, .int .i64 0, .int .i64 0] 24)).drew.heap.size := (by simp); replace src := (src0.onA (.cells #[.int .u64 0, .int .i64 0, .int .i64 0] 24)).drew; replace hbw : Below wr.heap.size wr (wr.alloc (.cells #[.int .u64 0, .int .i64 0, .int .i64 0] 24)).drew := (by first | exact (Below.refl _ _).drew | exact ((Below.refl _ _).alloc (Nat.le_refl _) _).drew | exact (((Below.refl _ _).alloc (Nat.le_refl _) _).alloc (by simp) _).drew); replace hRX : TzW (wr.alloc (.cells #[.int .u64 0, .int .i64 0, .int .i64 0] 24)).drew := hRW.bel hbw; (with_reducible refine (hC _ hRX).mono ?_); rintro e w9 ⟨A9, c9, rfl, ho9⟩; have hbX := hbw; clear q0 q1 q2 q3; replace src := src.below ho9.bel; replace hbw := hbw.trans (ho9.bel.mono hbw.size); obtain ⟨_, q0, q1, q2, _, _, _⟩ := src.b; have q3 := src.v; (try replace x13 := x13.below ho9.bel); (try replace x14 := x14.below ho9.bel); (try (have x13t := x13; obtain ⟨_, y0, y1, yf0, yf1⟩ := x13t)); (try (have x14t := x14; obtain ⟨_, z0, z1, z2, zf0, zf1, zf2⟩ := x14t)))
            | (go_at_call 8; have hv0 := src0.hv; have hg0 := src0.b.lt; have x13 := ((BoxAt.new wr (.slice none 0 0) (.int .i64 0) 31).onA (.cells #[.int .u64 0, .int .i64 0, .int .i64 0] 24)).drew; have x14 := (Box3.new (wr.alloc (.cells #[.slice none 0 0, .int .i64 0] 31)) (.int .u64 0) (.int .i64 0) (.int .i64 0) 24).drew; simp only [World.size_alloc] at x14; have hd13 : g11 ≠ wr.heap.size := Nat.ne_of_lt hg0; have hv13 : (ad.add k).block < wr.heap.size := hv0; have hd14 : g11 ≠ wr.heap.size + 1 := (by omega); have hv14 : (ad.add k).block < wr.heap.size + 1 := (by omega); have hne : wr.heap.size ≠ wr.heap.size + 1 := (by omega); have hg13 := Nat.le_refl wr.heap.size; have hg14 : wr.heap.size ≤ wr.heap.size + 1 := Nat.le_succ _; have hl13 : wr.heap.size < ((wr.alloc (.cells #[.slice none 0 0, .int .i64 0] 31)).alloc (.cells #[.int .u64 0, .int .i64 0, .int .i64 0] 24)).drew.heap.size := (by simp; omega); have hl14 : wr.heap.size + 1 < ((wr.alloc (.cells #[.slice none 0 0, .int .i64 0] 31)).alloc (.cells #[.int .u64 0, .int .i64 0, .int .i64 0] 24)).drew.heap.size := (by simp); replace src := ((src0.onA (.cells #[.slice none 0 0, .int .i64 0] 31)).onA (.cells #[.int .u64 0, .int .i64 0, .int .i64 0] 24)).drew; replace hbw : Below wr.heap.size wr ((wr.alloc (.cells #[.slice none 0 0, .int .i64 0] 31)).alloc (.cells #[.int .u64 0, .int .i64 0, .int .i64 0] 24)).drew := (by first | exact (Below.refl _ _).drew | exact ((Below.refl _ _).alloc (Nat.le_refl _) _).drew | exact (((Below.refl _ _).alloc (Nat.le_refl _) _).alloc (by simp) _).drew); replace hRX : TzW ((wr.alloc (.cells #[.slice none 0 0, .int .i64 0] 31)).alloc (.cells #[.int .u64 0, .int .i64 0, .int .i64 0] 24)).drew := hRW.bel hbw; (with_reducible refine (hC _ hRX).mono ?_); rintro e w9 ⟨A9, c9, rfl, ho9⟩; have hbX := hbw; clear q0 q1 q2 q3; replace src := src.below ho9.bel; replace hbw := hbw.trans (ho9.bel.mono hbw.size); obtain ⟨_, q0, q1, q2, _, _, _⟩ := src.b; have q3 := src.v; (try replace x13 := x13.below ho9.bel); (try replace x14 := x14.below ho9.bel); (try (have x13t := x13; obtain ⟨_, y0, y1, yf0, yf1⟩ := x13t)); (try (have x14t := x14; obtain ⟨_, z0, z1, z2, zf0, zf1, zf2⟩ := x14t)))
            | (go_at_call 8; have hv0 := src0.hv; have hg0 := src0.b.lt; have x14 := ((Box3.new wr (.int .u64 0) (.int .i64 0) (.int .i64 0) 24).onA (.cells #[.slice none 0 0, .int .i64 0] 31)).drew; have x13 := (BoxAt.new (wr.alloc (.cells #[.int .u64 0, .int .i64 0, .int .i64 0] 24)) (.slice none 0 0) (.int .i64 0) 31).drew; simp only [World.size_alloc] at x13; have hd14 : g11 ≠ wr.heap.size := Nat.ne_of_lt hg0; have hv14 : (ad.add k).block < wr.heap.size := hv0; have hd13 : g11 ≠ wr.heap.size + 1 := (by omega); have hv13 : (ad.add k).block < wr.heap.size + 1 := (by omega); have hne : wr.heap.size + 1 ≠ wr.heap.size := (by omega); have hg14 := Nat.le_refl wr.heap.size; have hg13 : wr.heap.size ≤ wr.heap.size + 1 := Nat.le_succ _; have hl14 : wr.heap.size < ((wr.alloc (.cells #[.int .u64 0, .int .i64 0, .int .i64 0] 24)).alloc (.cells #[.slice none 0 0, .int .i64 0] 31)).drew.heap.size := (by simp; omega); have hl13 : wr.heap.size + 1 < ((wr.alloc (.cells #[.int .u64 0, .int .i64 0, .int .i64 0] 24)).alloc (.cells #[.slice none 0 0, .int .i64 0] 31)).drew.heap.size := (by simp); replace src := ((src0.onA (.cells #[.int .u64 0, .int .i64 0, .int .i64 0] 24)).onA (.cells #[.slice none 0 0, .int .i64 0] 31)).drew; replace hbw : Below wr.heap.size wr ((wr.alloc (.cells #[.int .u64 0, .int .i64 0, .int .i64 0] 24)).alloc (.cells #[.slice none 0 0, .int .i64 0] 31)).drew := (by first | exact (Below.refl _ _).drew | exact ((Below.refl _ _).alloc (Nat.le_refl _) _).drew | exact (((Below.refl _ _).alloc (Nat.le_refl _) _).alloc (by simp) _).drew); replace hRX : TzW ((wr.alloc (.cells #[.int .u64 0, .int .i64 0, .int .i64 0] 24)).alloc (.cells #[.slice none 0 0, .int .i64 0] 31)).drew := hRW.bel hbw; (with_reducible refine (hC _ hRX).mono ?_); rintro e w9 ⟨A9, c9, rfl, ho9⟩; have hbX := hbw; clear q0 q1 q2 q3; replace src := src.below ho9.bel; replace hbw := hbw.trans (ho9.bel.mono hbw.size); obtain ⟨_, q0, q1, q2, _, _, _⟩ := src.b; have q3 := src.v; (try replace x13 := x13.below ho9.bel); (try replace x14 := x14.below ho9.bel); (try (have x13t := x13; obtain ⟨_, y0, y1, yf0, yf1⟩ := x13t)); (try (have x14t := x14; obtain ⟨_, z0, z1, z2, zf0, zf1, zf2⟩ := x14t))))
          all_goals
            clear q0 q1 q2 q3 src src0
            go_wp2_with fail
            go_meet
            with_reducible first
              | exact ⟨_, _, rfl, rfl, codeAt1 ho9 hbX⟩
              | exact ⟨_, _, rfl, rfl, codeAt2 ho9 hbX⟩
              | exact ⟨_, _, rfl, rfl, codeAt3 ho9 hbX x13 hg13 hl13⟩
              | exact ⟨_, _, rfl, rfl, codeAt4 ho9 hbX x13 x14 hne hg13 hl13 hg14 hl14⟩
              | exact ⟨_, _, rfl, rfl, codeAt5 ho9 hbX x14 hg14 hl14⟩
        case rest =>
          obtain ⟨gx, gs, rfl, rfl, A9, c9, x13, hr13, x14, hst, hgx, hgs⟩ := hcut
          obtain ⟨r, HR'⟩ : ∃ r, Hid (p ++ cdX vs (k + 1) = r) := ⟨_, Lib.hid rfl⟩
          rw [HR'.out] at HCD
          obtain ⟨RM, HRM⟩ : ∃ RM, Hid (r.length = RM) := ⟨_, Lib.hid rfl⟩
          obtain ⟨PM, HPM⟩ : ∃ PM, Hid (pk.length = PM) := ⟨_, Lib.hid rfl⟩
          rw [HPM.out] at x10 hpkl
          replace hrd := (hrd.below hst).more hst.size
          have hwc := hwr.trans (hst.mono hwr.size)
          replace x10 := x10.below hst
          replace x11 := x11.below hst
          have hg10w : g10 < wr.heap.size := by have := src0.b.lt; have := HG11.out; omega
          have hg11w : g11 < wr.heap.size := src0.b.lt
          have hJ := join_as A A9 _ c _ c9 pk ck r (PM : Int) (CM : Int) RM wc hrd hr13 (by rw [HPM.out]) (by rw [HCM.out]) HCD.out HRM.out (by rw [HPM.out]; omega) (by rw [HCM.out]; omega)
          clear hC hRW src0 hrd hr13
          have x10t := x10
          have x13t := x13
          obtain ⟨_, y0, y1, yf0, yf1⟩ := x10t
          obtain ⟨_, z0, z1, zf0, zf1⟩ := x13t
          go_wp2_with fail
          refine hJ.mono ?_
          rintro e w10 ⟨A10, c10, rfl, ho10⟩
          clear hJ y0 y1 yf0 yf1 z0 z1 zf0 zf1
          have hg10c : g10 < wc.heap.size := x10.lt
          replace x10 := x10.below ho10.bel
          replace x11 := x11.below ho10.bel
          replace x14 := x14.below ho10.bel
          have hgw : w.heap.size ≤ g10 := hg10
          have x10t := x10
          obtain ⟨_, y0, y1, yf0, yf1⟩ := x10t
          go_upto_region 11 with fail
          have hne1 : g11 ≠ g10 := by have := HG11.out; omega
          have hne2 : gs ≠ g10 := by omega
          have hne3 : g10 ≠ g11 := Ne.symm hne1
          have hm := ((Mid.of ho10 hwc).set ⟨g10, 0, none⟩ (.slice A10 (pack r).length c10) hgw hg10c).set ⟨g10, 1, none⟩ (.int .i64 (RM : Int)) hgw hg10c
          replace x10 := x10.set (.slice A10 (pack r).length c10) (.int .i64 (RM : Int))
          replace x11 := (x11.other hne1 0 (.slice A10 (pack r).length c10)).other hne1 1 (.int .i64 (RM : Int))
          replace x14 := (x14.other hne2 0 (.slice A10 (pack r).length c10)).other hne2 1 (.int .i64 (RM : Int))
          have hlt10 : g11 < wc.heap.size := by have := hst.size; omega
          have hlt12 : wc.heap.size ≤ w10.heap.size := ho10.bel.size
          have hgw11 : w.heap.size ≤ g11 := by have := HG11.out; omega
          clear ho10 y0 y1 yf0 yf1 hwc hst
          generalize hW11 : (w10.setCell ⟨g10, 0, none⟩ (.slice A10 (pack r).length c10)).setCell ⟨g10, 1, none⟩ (.int .i64 (RM : Int)) = W11 at *
          have x11t := x11
          obtain ⟨_, y0, y1, y2, yf0, yf1, yf2⟩ := x11t
          have x14t := x14
          obtain ⟨_, z0, z1, z2, _, _, _⟩ := x14t
          go_wp2_with fail
          go_roundw
          case rel =>
            have hm2 := ((hm.set ⟨g11, 0, none⟩ (.int .u64 (v : Int)) hgw11 hlt10).set ⟨g11, 1, none⟩ (.int .i64 (nx.lead : Int)) hgw11 hlt10).set ⟨g11, 2, none⟩ (.int .i64 (nx.len : Int)) hgw11 hlt10
            refine ⟨k + 1, A10, c10, by omega, by go_num, hm2.bel, ?_⟩
            rw [HR'.out, HRM.out, HST.out, hpv]
            exact ⟨hm2.own.rd, ((x10.oth hne3 0 _).oth hne3 1 _).oth hne3 2 _, x11.set _ _ _⟩
          case measure => simp [intOf]; omega
      · obtain rfl : k = m2 := by omega
        go_wp2_with fail
        go_meet
        exact ⟨⟨_, A, c, Nat.le_refl _, rfl, hwr, hrd, x10, x11⟩, rfl⟩
  case rest =>
    obtain ⟨⟨k, A, c, hk, rfl, hwr, hrd, x10, x11⟩, hi⟩ := hcut
    injection hi with _ hi
    obtain rfl : k = m2 := by omega
    clear hi hk hr5 b10 b11
    obtain ⟨q, HQ⟩ : ∃ q, Hid (q = odd rest) := ⟨_, Lib.hid rfl⟩
    have HQL : Hid (q.length = m3) := Lib.hid (by rw [HQ.out, odd_length, h3.len])
    have hcl := cdX_le HVS.out k
    have hpkl : (p ++ cdX vs k).length ≤ 5000 := by rw [List.length_append, HPL.out]; omega
    obtain ⟨pk, HPK⟩ : ∃ pk, Hid (p ++ cdX vs k = pk) := ⟨_, Lib.hid rfl⟩
    rw [HPK.out] at hrd x10 hpkl
    obtain ⟨PM, HPM⟩ : ∃ PM, Hid (pk.length = PM) := ⟨_, Lib.hid rfl⟩
    rw [HPM.out] at x10 hpkl
    obtain ⟨r, HRR⟩ : ∃ r, Hid (r = pk ++ q) := ⟨_, Lib.hid rfl⟩
    obtain ⟨RM, HRM⟩ : ∃ RM, Hid (r.length = RM) := ⟨_, Lib.hid rfl⟩
    go_upto_region 12 with fail
    go_cut [73] (fun _ wx => ∃ A c B, Mid w B wx (.slice A (pack r).length c) (pack r) ∧ g10 + 1 < B ∧ BoxAt wx g10 (.slice A (pack r).length c) (.int .i64 (RM : Int)) ∧ Box3 wx (g10 + 1) (.int .u64 ((stX vs k).prev : Int)) (.int .i64 ((stX vs k).lead : Int)) (.int .i64 ((stX vs k).len : Int)))
    case first =>
      have hg10c : g10 < wc.heap.size := x10.lt
      have hgw : w.heap.size ≤ g10 := hg10
      have hB := bits_as A3 m3 c3 rest q wc.drew ((h3.below hwr).more hwr.size).drew hb3 (by omega) HQ.out
      have hJ := fun B1 d1 (X : World) (ha : Rd X X.heap.size A (pack pk).length c (pack pk)) (hb : Rd X X.heap.size B1 (pack q).length d1 (pack q)) => join_as A B1 _ c _ d1 pk q r (PM : Int) (m3 : Int) RM X ha hb (by rw [HPM.out]) (by rw [HQL.out]) HRR.out HRM.out (by rw [HPM.out]; omega) (by rw [HQL.out]; omega)
      have hra := hrd.drew
      have y10 := x10.drew
      have y11 := x11.drew
      have hbw := hwr.drew
      obtain ⟨_, y0, y1, _, _⟩ := x10.drew
      go_region_with (first
        | (go_at_call 15; (with_reducible refine hB.mono ?_); rintro e w5 ⟨B1, d1, rfl, ho1⟩; have hrb := ho1.rd; replace hra := (hra.below ho1.bel).more ho1.bel.size; replace y10 := y10.below ho1.bel; replace y11 := y11.below ho1.bel; replace hbw := hbw.trans (ho1.bel.mono hbw.size); clear y0 y1; have y10t := y10; obtain ⟨_, y0, y1, _, _⟩ := y10t)
        | (go_at_call 16; (with_reducible refine (hJ _ _ _ hra hrb).mono ?_); rintro e w6 ⟨B2, d2, rfl, ho2⟩; have hg10x := y10.lt; have hg11x := y11.lt; replace y10 := y10.below ho2.bel; replace y11 := y11.below ho2.bel; clear y0 y1; have y10t := y10; obtain ⟨_, y0, y1, yf0, yf1⟩ := y10t))
      all_goals
        clear y0 y1
        go_wp2_with fail
        go_meet
        have hm := ((Mid.of ho2 hbw).set ⟨g10, 0, none⟩ (.slice B2 (pack r).length d2) hgw hg10x).set ⟨g10, 1, none⟩ (.int .i64 (RM : Int)) hgw hg10x
        exact ⟨B2, d2, _, hm, hg11x, y10.set _ _, (y11.other (by omega) 0 _).other (by omega) 1 _⟩
    case rest =>
      clear hrd x10 x11 hwr
      obtain ⟨A5, c5, B5, hmr, hB5, x10, x11⟩ := hcut
      have x11t := x11
      obtain ⟨_, y0, y1, y2, yf0, yf1, yf2⟩ := x11t
      have hgw : w.heap.size ≤ g10 := hg10
      have hgw1 : w.heap.size ≤ g10 + 1 := by omega
      have hgn : g10 ≠ g10 + 1 := by omega
      go_upto_region 15 with fail
      replace hmr := ((hmr.set ⟨g10 + 1, 0, none⟩ (.int .u64 0) hgw1 hB5).set ⟨g10 + 1, 1, none⟩ (.int .i64 0) hgw1 hB5).set ⟨g10 + 1, 2, none⟩ (.int .i64 0) hgw1 hB5
      replace x10 := ((x10.oth hgn 0 (.int .u64 0)).oth hgn 1 (.int .i64 0)).oth hgn 2 (.int .i64 0)
      replace x11 := x11.set (.int .u64 0) (.int .i64 0) (.int .i64 0)
      clear y0 y1 y2 yf0 yf1 yf2
      generalize ((wc.setCell ⟨g10 + 1, 0, none⟩ (.int .u64 0)).setCell ⟨g10 + 1, 1, none⟩ (.int .i64 0)).setCell ⟨g10 + 1, 2, none⟩ (.int .i64 0) = W15 at *
      go_upto_block 2 with fail
      go_cut [15, 16] (fun at_ i wx => AtY w g10 (g10 + 1) k p vs A5 c5 B5 r RM at_ i wx ∧ i = .int .i64 (k : Int))
      case first =>
        go_wp2_with fail
        go_loopw [15, 16] (fun at_ i wr => AtY w g10 (g10 + 1) k p vs A5 c5 B5 r RM at_ i wr) (fun _ i _ => k - (intOf i).toNat)
        case atStart =>
          have e0 : p ++ cdX vs 0 = p := List.append_nil p
          refine ⟨0, Nat.zero_le _, rfl, ?_, hmr, x10, x11⟩
          rw [e0, HPL.out]
        case round =>
          clear x10 x11 hmr
          obtain ⟨j, hj, rfl, rfl, hmr, x10, x11⟩ := hrel
          by_cases hlt : j < k
          · have hvk := valX_le HVS.out j
            have hsm := stX_may HVS.out j
            obtain ⟨ad, rfl, hbl, hcv⟩ := (h2.below hmr.bel).at_ hlt
            have hcl1 := (codeX_pos hsm hvk).2
            have hclj := cdX_le HVS.out j
            have HST : Hid (stX vs (j + 1) = nextX (stX vs j) (vs.getD j 0)) := Lib.hid rfl
            have HCD : Hid ((p ++ cdX vs (j + 1)).length = (p ++ cdX vs j).length + (codeX (stX vs j) (vs.getD j 0)).length) := Lib.hid (by rw [← List.length_append, List.append_assoc]; rfl)
            have hpjl : (p ++ cdX vs j).length ≤ 5000 := by rw [List.length_append, HPL.out]; omega
            have hRL : (pack r).length ≤ 100000 := by rw [pack_length, HRR.out, List.length_append, HPM.out, HQL.out]; omega
            have hbx := back_x HVS.out hlt p q r _ (by rw [HRR.out, ← HPK.out]) rfl
            generalize hAT : (p ++ cdX vs j).length = AT at *
            have hbx2 : getX ⟨(stX vs j).prev, (stX vs j).lead, (stX vs j).len⟩ (restL (pack r) (AT : Int)) = _ := hbx
            clear hbx
            have HAT := Lib.hid hAT
            clear hAT
            have hG := fun (X : World) (hd : Rd X X.heap.size A5 (pack r).length c5 (pack r)) (hX : TzW X) => xget_any A5 (pack r).length c5 X.heap.size (pack r) (AT : Int) (stX vs j).prev (stX vs j).lead (stX vs j).len X hd (Nat.le_refl _) (pack_lt r) hRL (by omega) hsm hX
            rw [hbx2] at hG
            clear hbx2
            rw [HST.out] at hG
            have hC := fun X hX => xcode_any (stX vs j).prev (stX vs j).lead (stX vs j).len (vs.getD j 0) X hsm hvk hX
            unfold RetX at hC
            have hpv := nextX_prev (stX vs j) (vs.getD j 0)
            generalize stX vs j = s at *
            generalize vs.getD j 0 = v at *
            change ∀ X, TzW X → Calls _ _ _ X (fun e w' => ∃ A c, e = .returned (.tuple #[.agg #[.slice A (pack (codeX s v)).length c, .int .i64 (((codeX s v).length : Nat) : Int)], .agg #[.int .u64 (v : Int), .int .i64 ((nextX s v).lead : Int), .int .i64 ((nextX s v).len : Int)]]) ∧ Own X w' (.slice A (pack (codeX s v)).length c) (pack (codeX s v))) at hC
            generalize codeX s v = ck at *
            generalize nextX s v = nx at *
            obtain ⟨CM, HCM⟩ : ∃ CM, Hid (ck.length = CM) := ⟨_, Lib.hid rfl⟩
            rw [HCM.out] at hC hcl1 hG HCD
            obtain ⟨g11, hg11⟩ : ∃ g11, g10 + 1 = g11 := ⟨_, rfl⟩
            have src0 : Src wr g11 s (ad.add j) v := ⟨by rw [← hg11]; exact x11, by rw [add_block]; exact Nat.lt_of_lt_of_le hbl hmr.bel.size, hcv⟩
            have hRW := hR.bel hmr.bel
            rw [hg11] at x11 hB5 hgw1 hgn ⊢
            have HG11 := Lib.hid hg11
            clear hg11 hsm hvk hcv
            go_upto_region 18 with fail
            go_cut [17, 18] (fun x17 x18 wx => ∃ gx gs, x17 = .pointer (some ⟨gx, 0, none⟩) ∧ x18 = .pointer (some ⟨gs, 0, none⟩) ∧ CodeAt wr ck CM v nx gx gs wx)
            case first =>
              -- HEAVY: the region that codes a value
              clear x10 x11 hmr
              have src := src0.drew
              have hbw : Below wr.heap.size wr wr.drew := (Below.refl _ _).drew
              have hRX := hRW.drew
              obtain ⟨_, q0, q1, q2, _, _, _⟩ := src0.b.drew
              have q3 := src0.drew.v
              have n0 := World.new_ne wr ⟨g11, 0, none⟩ src0.b.c0
              have n1 := World.new_ne wr ⟨g11, 1, none⟩ src0.b.c1
              have n2 := World.new_ne wr ⟨g11, 2, none⟩ src0.b.c2
              have n3 := World.new_ne wr _ src0.v
              go_region_held3 (fun w' => w'.cell? ⟨g11, 0, none⟩ = some (.int .u64 (s.prev : Int)) ∧ w'.cell? ⟨g11, 1, none⟩ = some (.int .i64 (s.lead : Int)) ∧ w'.cell? ⟨g11, 2, none⟩ = some (.int .i64 (s.len : Int)) ∧ w'.cell? (ad.add j) = some (.int .u64 (v : Int)))
                (with_reducible first | exact ⟨q0, q1, q2, q3⟩ | exact ⟨(src).b.c0, (src).b.c1, (src).b.c2, (src).v⟩ | exact ⟨(src.onA _).b.c0, (src.onA _).b.c1, (src.onA _).b.c2, (src.onA _).v⟩ | exact ⟨((src0.onA _).drew).b.c0, ((src0.onA _).drew).b.c1, ((src0.onA _).drew).b.c2, ((src0.onA _).drew).v⟩ | exact ⟨(((src0.onA _).onA _).drew).b.c0, (((src0.onA _).onA _).drew).b.c1, (((src0.onA _).onA _).drew).b.c2, (((src0.onA _).onA _).drew).v⟩ | exact ⟨((src.onA _).onA _).b.c0, ((src.onA _).onA _).b.c1, ((src.onA _).onA _).b.c2, ((src.onA _).onA _).v⟩ | exact ⟨(((src).set hd13 hv13 0 _).set hd13 hv13 1 _).b.c0, (((src).set hd13 hv13 0 _).set hd13 hv13 1 _).b.c1, (((src).set hd13 hv13 0 _).set hd13 hv13 1 _).b.c2, (((src).set hd13 hv13 0 _).set hd13 hv13 1 _).v⟩ | exact ⟨((((src).set hd14 hv14 0 _).set hd14 hv14 1 _).set hd14 hv14 2 _).b.c0, ((((src).set hd14 hv14 0 _).set hd14 hv14 1 _).set hd14 hv14 2 _).b.c1, ((((src).set hd14 hv14 0 _).set hd14 hv14 1 _).set hd14 hv14 2 _).b.c2, ((((src).set hd14 hv14 0 _).set hd14 hv14 1 _).set hd14 hv14 2 _).v⟩ | exact ⟨((((((src).set hd13 hv13 0 _).set hd13 hv13 1 _).set hd14 hv14 0 _).set hd14 hv14 1 _).set hd14 hv14 2 _).b.c0, ((((((src).set hd13 hv13 0 _).set hd13 hv13 1 _).set hd14 hv14 0 _).set hd14 hv14 1 _).set hd14 hv14 2 _).b.c1, ((((((src).set hd13 hv13 0 _).set hd13 hv13 1 _).set hd14 hv14 0 _).set hd14 hv14 1 _).set hd14 hv14 2 _).b.c2, ((((((src).set hd13 hv13 0 _).set hd13 hv13 1 _).set hd14 hv14 0 _).set hd14 hv14 1 _).set hd14 hv14 2 _).v⟩ | exact ⟨((((((src).set hd14 hv14 0 _).set hd14 hv14 1 _).set hd14 hv14 2 _).set hd13 hv13 0 _).set hd13 hv13 1 _).b.c0, ((((((src).set hd14 hv14 0 _).set hd14 hv14 1 _).set hd14 hv14 2 _).set hd13 hv13 0 _).set hd13 hv13 1 _).b.c1, ((((((src).set hd14 hv14 0 _).set hd14 hv14 1 _).set hd14 hv14 2 _).set hd13 hv13 0 _).set hd13 hv13 1 _).b.c2, ((((((src).set hd14 hv14 0 _).set hd14 hv14 1 _).set hd14 hv14 2 _).set hd13 hv13 0 _).set hd13 hv13 1 _).v⟩ | exact ⟨((((src).set hd13 hv13 0 _).set hd13 hv13 1 _).onA _).b.c0, ((((src).set hd13 hv13 0 _).set hd13 hv13 1 _).onA _).b.c1, ((((src).set hd13 hv13 0 _).set hd13 hv13 1 _).onA _).b.c2, ((((src).set hd13 hv13 0 _).set hd13 hv13 1 _).onA _).v⟩ | exact ⟨(((((src).set hd14 hv14 0 _).set hd14 hv14 1 _).set hd14 hv14 2 _).onA _).b.c0, (((((src).set hd14 hv14 0 _).set hd14 hv14 1 _).set hd14 hv14 2 _).onA _).b.c1, (((((src).set hd14 hv14 0 _).set hd14 hv14 1 _).set hd14 hv14 2 _).onA _).b.c2, (((((src).set hd14 hv14 0 _).set hd14 hv14 1 _).set hd14 hv14 2 _).onA _).v⟩) (first
                | (go_at_call 8; (with_reducible refine (hC _ hRX).mono ?_); rintro e w9 ⟨A9, c9, rfl, ho9⟩; have hbX := hbw; clear q0 q1 q2 q3; replace src := src.below ho9.bel; replace hbw := hbw.trans (ho9.bel.mono hbw.size); obtain ⟨_, q0, q1, q2, _, _, _⟩ := src.b; have q3 := src.v; (try replace x13 := x13.below ho9.bel); (try replace x14 := x14.below ho9.bel); (try (have x13t := x13; obtain ⟨_, y0, y1, yf0, yf1⟩ := x13t)); (try (have x14t := x14; obtain ⟨_, z0, z1, z2, zf0, zf1, zf2⟩ := x14t)))
                | (go_at_call 8; have hv0 := src0.hv; have hg0 := src0.b.lt; have x13 := (BoxAt.new wr (.slice none 0 0) (.int .i64 0) 31).drew; have hd13 : g11 ≠ wr.heap.size := Nat.ne_of_lt hg0; have hv13 : (ad.add j).block < wr.heap.size := hv0; have hg13 := Nat.le_refl wr.heap.size; have hl13 : wr.heap.size < (wr.alloc (.cells #[.slice none 0 0, .int .i64 0] 31)).drew.heap.size := (by simp); replace src := (src0.onA (.cells #[.slice none 0 0, .int .i64 0] 31)).drew; replace hbw : Below wr.heap.size wr (wr.alloc (.cells #[.slice none 0 0, .int .i64 0] 31)).drew := (by first | exact (Below.refl _ _).drew | exact ((Below.refl _ _).alloc (Nat.le_refl _) _).drew | exact (((Below.refl _ _).alloc (Nat.le_refl _) _).alloc (by simp) _).drew); replace hRX : TzW (wr.alloc (.cells #[.slice none 0 0, .int .i64 0] 31)).drew := hRW.bel hbw; (with_reducible refine (hC _ hRX).mono ?_); rintro e w9 ⟨A9, c9, rfl, ho9⟩; have hbX := hbw; clear q0 q1 q2 q3; replace src := src.below ho9.bel; replace hbw := hbw.trans (ho9.bel.mono hbw.size); obtain ⟨_, q0, q1, q2, _, _, _⟩ := src.b; have q3 := src.v; (try replace x13 := x13.below ho9.bel); (try replace x14 := x14.below ho9.bel); (try (have x13t := x13; obtain ⟨_, y0, y1, yf0, yf1⟩ := x13t)); (try (have x14t := x14; obtain ⟨_, z0, z1, z2, zf0, zf1, zf2⟩ := x14t)))
                | (go_at_call 8; have hv0 := src0.hv; have hg0 := src0.b.lt; have x14 := (Box3.new wr (.int .u64 0) (.int .i64 0) (.int .i64 0) 24).drew; have hd14 : g11 ≠ wr.heap.size := Nat.ne_of_lt hg0; have hv14 : (ad.add j).block < wr.heap.size := hv0; have hg14 := Nat.le_refl wr.heap.size; have hl14 : wr.heap.size < (wr.alloc (.cells #[.int .u64 0, .int .i64 0, .int .i64 0] 24)).drew.heap.size := (by simp); replace src := (src0.onA (.cells #[.int .u64 0, .int .i64 0, .int .i64 0] 24)).drew; replace hbw : Below wr.heap.size wr (wr.alloc (.cells #[.int .u64 0, .int .i64 0, .int .i64 0] 24)).drew := (by first | exact (Below.refl _ _).drew | exact ((Below.refl _ _).alloc (Nat.le_refl _) _).drew | exact (((Below.refl _ _).alloc (Nat.le_refl _) _).alloc (by simp) _).drew); replace hRX : TzW (wr.alloc (.cells #[.int .u64 0, .int .i64 0, .int .i64 0] 24)).drew := hRW.bel hbw; (with_reducible refine (hC _ hRX).mono ?_); rintro e w9 ⟨A9, c9, rfl, ho9⟩; have hbX := hbw; clear q0 q1 q2 q3; replace src := src.below ho9.bel; replace hbw := hbw.trans (ho9.bel.mono hbw.size); obtain ⟨_, q0, q1, q2, _, _, _⟩ := src.b; have q3 := src.v; (try replace x13 := x13.below ho9.bel); (try replace x14 := x14.below ho9.bel); (try (have x13t := x13; obtain ⟨_, y0, y1, yf0, yf1⟩ := x13t)); (try (have x14t := x14; obtain ⟨_, z0, z1, z2, zf0, zf1, zf2⟩ := x14t)))
                | (go_at_call 8; have hv0 := src0.hv; have hg0 := src0.b.lt; have x13 := ((BoxAt.new wr (.slice none 0 0) (.int .i64 0) 31).onA (.cells #[.int .u64 0, .int .i64 0, .int .i64 0] 24)).drew; have x14 := (Box3.new (wr.alloc (.cells #[.slice none 0 0, .int .i64 0] 31)) (.int .u64 0) (.int .i64 0) (.int .i64 0) 24).drew; simp only [World.size_alloc] at x14; have hd13 : g11 ≠ wr.heap.size := Nat.ne_of_lt hg0; have hv13 : (ad.add j).block < wr.heap.size := hv0; have hd14 : g11 ≠ wr.heap.size + 1 := (by omega); have hv14 : (ad.add j).block < wr.heap.size + 1 := (by omega); have hne : wr.heap.size ≠ wr.heap.size + 1 := (by omega); have hg13 := Nat.le_refl wr.heap.size; have hg14 : wr.heap.size ≤ wr.heap.size + 1 := Nat.le_succ _; have hl13 : wr.heap.size < ((wr.alloc (.cells #[.slice none 0 0, .int .i64 0] 31)).alloc (.cells #[.int .u64 0, .int .i64 0, .int .i64 0] 24)).drew.heap.size := (by simp; omega); have hl14 : wr.heap.size + 1 < ((wr.alloc (.cells #[.slice none 0 0, .int .i64 0] 31)).alloc (.cells #[.int .u64 0, .int .i64 0, .int .i64 0] 24)).drew.heap.size := (by simp); replace src := ((src0.onA (.cells #[.slice none 0 0, .int .i64 0] 31)).onA (.cells #[.int .u64 0, .int .i64 0, .int .i64 0] 24)).drew; replace hbw : Below wr.heap.size wr ((wr.alloc (.cells #[.slice none 0 0, .int .i64 0] 31)).alloc (.cells #[.int .u64 0, .int .i64 0, .int .i64 0] 24)).drew := (by first | exact (Below.refl _ _).drew | exact ((Below.refl _ _).alloc (Nat.le_refl _) _).drew | exact (((Below.refl _ _).alloc (Nat.le_refl _) _).alloc (by simp) _).drew); replace hRX : TzW ((wr.alloc (.cells #[.slice none 0 0, .int .i64 0] 31)).alloc (.cells #[.int .u64 0, .int .i64 0, .int .i64 0] 24)).drew := hRW.bel hbw; (with_reducible refine (hC _ hRX).mono ?_); rintro e w9 ⟨A9, c9, rfl, ho9⟩; have hbX := hbw; clear q0 q1 q2 q3; replace src := src.below ho9.bel; replace hbw := hbw.trans (ho9.bel.mono hbw.size); obtain ⟨_, q0, q1, q2, _, _, _⟩ := src.b; have q3 := src.v; (try replace x13 := x13.below ho9.bel); (try replace x14 := x14.below ho9.bel); (try (have x13t := x13; obtain ⟨_, y0, y1, yf0, yf1⟩ := x13t)); (try (have x14t := x14; obtain ⟨_, z0, z1, z2, zf0, zf1, zf2⟩ := x14t)))
                | (go_at_call 8; have hv0 := src0.hv; have hg0 := src0.b.lt; have x14 := ((Box3.new wr (.int .u64 0) (.int .i64 0) (.int .i64 0) 24).onA (.cells #[.slice none 0 0, .int .i64 0] 31)).drew; have x13 := (BoxAt.new (wr.alloc (.cells #[.int .u64 0, .int .i64 0, .int .i64 0] 24)) (.slice none 0 0) (.int .i64 0) 31).drew; simp only [World.size_alloc] at x13; have hd14 : g11 ≠ wr.heap.size := Nat.ne_of_lt hg0; have hv14 : (ad.add j).block < wr.heap.size := hv0; have hd13 : g11 ≠ wr.heap.size + 1 := (by omega); have hv13 : (ad.add j).block < wr.heap.size + 1 := (by omega); have hne : wr.heap.size + 1 ≠ wr.heap.size := (by omega); have hg14 := Nat.le_refl wr.heap.size; have hg13 : wr.heap.size ≤ wr.heap.size + 1 := Nat.le_succ _; have hl14 : wr.heap.size < ((wr.alloc (.cells #[.int .u64 0, .int .i64 0, .int .i64 0] 24)).alloc (.cells #[.slice none 0 0, .int .i64 0] 31)).drew.heap.size := (by simp; omega); have hl13 : wr.heap.size + 1 < ((wr.alloc (.cells #[.int .u64 0, .int .i64 0, .int .i64 0] 24)).alloc (.cells #[.slice none 0 0, .int .i64 0] 31)).drew.heap.size := (by simp); replace src := ((src0.onA (.cells #[.int .u64 0, .int .i64 0, .int .i64 0] 24)).onA (.cells #[.slice none 0 0, .int .i64 0] 31)).drew; replace hbw : Below wr.heap.size wr ((wr.alloc (.cells #[.int .u64 0, .int .i64 0, .int .i64 0] 24)).alloc (.cells #[.slice none 0 0, .int .i64 0] 31)).drew := (by first | exact (Below.refl _ _).drew | exact ((Below.refl _ _).alloc (Nat.le_refl _) _).drew | exact (((Below.refl _ _).alloc (Nat.le_refl _) _).alloc (by simp) _).drew); replace hRX : TzW ((wr.alloc (.cells #[.int .u64 0, .int .i64 0, .int .i64 0] 24)).alloc (.cells #[.slice none 0 0, .int .i64 0] 31)).drew := hRW.bel hbw; (with_reducible refine (hC _ hRX).mono ?_); rintro e w9 ⟨A9, c9, rfl, ho9⟩; have hbX := hbw; clear q0 q1 q2 q3; replace src := src.below ho9.bel; replace hbw := hbw.trans (ho9.bel.mono hbw.size); obtain ⟨_, q0, q1, q2, _, _, _⟩ := src.b; have q3 := src.v; (try replace x13 := x13.below ho9.bel); (try replace x14 := x14.below ho9.bel); (try (have x13t := x13; obtain ⟨_, y0, y1, yf0, yf1⟩ := x13t)); (try (have x14t := x14; obtain ⟨_, z0, z1, z2, zf0, zf1, zf2⟩ := x14t))))
              all_goals
                clear q0 q1 q2 q3 src src0
                go_wp2_with fail
                go_meet
                with_reducible first
                  | exact ⟨_, _, rfl, rfl, codeAt1 ho9 hbX⟩
                  | exact ⟨_, _, rfl, rfl, codeAt2 ho9 hbX⟩
                  | exact ⟨_, _, rfl, rfl, codeAt3 ho9 hbX x13 hg13 hl13⟩
                  | exact ⟨_, _, rfl, rfl, codeAt4 ho9 hbX x13 x14 hne hg13 hl13 hg14 hl14⟩
                  | exact ⟨_, _, rfl, rfl, codeAt5 ho9 hbX x14 hg14 hl14⟩
            case rest =>
              obtain ⟨gx, gs, rfl, rfl, A9, c9, x17, hr17, x18, hst, hgx, hgs⟩ := hcut
              have hg11w : g11 < wr.heap.size := src0.b.lt
              have hg10w : g10 < wr.heap.size := by have := HG11.out; omega
              replace hmr := hmr.keep hst
              replace x10 := x10.below hst
              replace x11 := x11.below hst
              have hcell := (src0.below hst).v
              have hbl2 := (src0.below hst).hv
              replace hG := hG wc hmr.own.rd (hRW.bel hst)
              change Calls _ _ _ wc (fun e w' => e = .returned (.tuple #[.int .u64 (v : Int), .agg #[.int .u64 (nx.prev : Int), .int .i64 (nx.lead : Int), .int .i64 (nx.len : Int)], .int .i64 (CM : Int), .nilIface]) ∧ Below wc.heap.size wc w') at hG
              rw [hpv] at hG
              clear hC hRW src0
              have x10t := x10
              obtain ⟨_, y0, y1, yf0, yf1⟩ := x10t
              have x11t := x11
              obtain ⟨_, z0, z1, z2, zf0, zf1, zf2⟩ := x11t
              go_wp2_with fail
              refine hG.mono ?_
              rintro e w10 ⟨rfl, hb10⟩
              clear hG y0 y1 yf0 yf1 z0 z1 z2 zf0 zf1 zf2
              have x20 := Box3.new w10 (.int .u64 (v : Int)) (.int .i64 (nx.lead : Int)) (.int .i64 (nx.len : Int)) 24
              have hb11 := hb10.alloc hb10.size (.cells #[.int .u64 (v : Int), .int .i64 (nx.lead : Int), .int .i64 (nx.len : Int)] 24)
              go_upto_region 20 with fail
              generalize w10.alloc (.cells #[.int .u64 (v : Int), .int .i64 (nx.lead : Int), .int .i64 (nx.len : Int)] 24) = W20 at *
              generalize w10.heap.size = g20 at *
              have hg10c : g10 < wc.heap.size := x10.lt
              have hg11c : g11 < wc.heap.size := x11.lt
              replace hmr := hmr.keep hb11
              replace x10 := x10.below hb11
              replace x11 := x11.below hb11
              replace x17 := x17.below hb11
              replace x18 := x18.below hb11
              replace hcell := (hb11.cell hbl2).trans hcell
              clear hb10 hb11 hbl2 hst hr17
              have x11t := x11
              obtain ⟨_, y0, y1, y2, yf0, yf1, yf2⟩ := x11t
              have x17t := x17
              obtain ⟨_, q0, q1, _, _⟩ := x17t
              have x18t := x18
              obtain ⟨_, z0, z1, z2, _, _, _⟩ := x18t
              have x20t := x20
              obtain ⟨_, r0, r1, r2, _, _, _⟩ := x20t
              have hns := fun w => run_neq_state w (v : Int) (nx.lead : Int) (nx.len : Int)
              have hsg := state_guard
              go_upto_region 22 with fail
              go_wp2_with fail
              go_roundw
              case rel =>
                have hm3 := ((hmr.set ⟨g11, 0, none⟩ (.int .u64 (v : Int)) hgw1 hB5).set ⟨g11, 1, none⟩ (.int .i64 (nx.lead : Int)) hgw1 hB5).set ⟨g11, 2, none⟩ (.int .i64 (nx.len : Int)) hgw1 hB5
                refine ⟨j + 1, by omega, by go_num, ?_, ?_⟩
                · rw [HCD.out]; go_num
                rw [HST.out, hpv]
                exact ⟨hm3, ((x10.oth hgn 0 _).oth hgn 1 _).oth hgn 2 _, x11.set _ _ _⟩
              case measure => simp [intOf]; omega
          · obtain rfl : j = k := by omega
            go_wp2_with fail
            go_meet
            exact ⟨⟨_, Nat.le_refl _, rfl, rfl, hmr, x10, x11⟩, rfl⟩
      case rest =>
        clear x10 x11 hmr
        obtain ⟨⟨j, hj, rfl, rfl, hmr, x10, x11⟩, hi⟩ := hcut
        injection hi with _ hi
        obtain rfl : j = k := by omega
        clear hi hj HRR HRM HPK HPM HQ HQL
        have hsm := stX_may HVS.out j
        have hG := xget_any A4 m4 c4 w.heap.size b 0 (stX vs j).prev (stX vs j).lead (stX vs j).len wc (h4.below hmr.bel) hmr.bel.size hb4 (by omega) (by omega) hsm (hR.bel hmr.bel)
        have hr0 : restL b 0 = flat b := by have := restL_yes (bs := b) (a := 0) (Nat.zero_le _); simpa using this
        rw [hr0] at hG
        clear hr0
        have hG2 : Calls Tryd.prog 10 #[.agg #[.int .u64 ((stX vs j).prev : Int), .int .i64 ((stX vs j).lead : Int), .int .i64 ((stX vs j).len : Int)], .slice A4 m4 c4, .int .i64 0] wc (RetXG wc (getX (stX vs j) (flat b))) := hG
        clear hG
        generalize stX vs j = s at *
        have x11t := x11
        obtain ⟨_, y0, y1, y2, _, _, _⟩ := x11t
        go_upto_region 24 with fail
        go_wp2_with fail
        refine hG2.mono ?_
        rintro e w10 ⟨rfl, hb10⟩
        clear hG2 y0 y1 y2
        have hin := getX_in (flat b) hsm
        have hbk := @getX_back s (flat b)
        rw [flat_length, h4.len] at hbk
        generalize getX s (flat b) = R at *
        replace x11 := x11.below hb10
        have hwc := hmr.bel.trans (hb10.mono hmr.bel.size)
        clear hmr hb10 x10
        by_cases he0 : R.e = 0
        · obtain ⟨hcd, hnx, hn1, hn2⟩ := hbk he0
          clear hbk
          rw [show errV R.e = .nilIface by rw [he0]; rfl]
          have hpv := nextX_prev s R.v
          rw [hnx] at hpv
          have hC := fun X hX => xcode_any s.prev s.lead s.len R.v X hsm hin.1 hX
          unfold RetX at hC
          have hC2 : ∀ X, TzW X → Calls Tryd.prog 8 #[.agg #[.int .u64 (s.prev : Int), .int .i64 (s.lead : Int), .int .i64 (s.len : Int)], .int .u64 (R.v : Int)] X (fun e w' => ∃ A c, e = .returned (.tuple #[.agg #[.slice A (pack (codeX s R.v)).length c, .int .i64 (((codeX s R.v).length : Nat) : Int)], .agg #[.int .u64 (R.v : Int), .int .i64 ((nextX s R.v).lead : Int), .int .i64 ((nextX s R.v).len : Int)]]) ∧ Own X w' (.slice A (pack (codeX s R.v)).length c) (pack (codeX s R.v))) := hC
          clear hC
          rw [hnx] at hC2
          rw [hpv]
          generalize R.v = v at *
          generalize R.s = nx at *
          generalize R.n = n at *
          have HCD := Lib.hid hcd
          clear hcd hnx hpv hin
          generalize codeX s v = ck at *
          have b21 := Box3.new w10 (.int .u64 (v : Int)) (.int .i64 (nx.lead : Int)) (.int .i64 (nx.len : Int)) 24
          replace x11 := x11.onA (.cells #[.int .u64 (v : Int), .int .i64 (nx.lead : Int), .int .i64 (nx.len : Int)] 24)
          replace hwc := hwc.alloc hwc.size (.cells #[.int .u64 (v : Int), .int .i64 (nx.lead : Int), .int .i64 (nx.len : Int)] 24)
          have x11t := x11
          obtain ⟨_, y0, y1, y2, _, _, _⟩ := x11t
          go_upto_region 29 with fail
          generalize w10.alloc (.cells #[.int .u64 (v : Int), .int .i64 (nx.lead : Int), .int .i64 (nx.len : Int)] 24) = W20 at *
          generalize w10.heap.size = g20 at *
          go_wp2_with fail
          refine (hC2 _ (hR.bel hwc)).mono ?_
          rintro e w11 ⟨A6, c6, rfl, ho6⟩
          clear hC2 y0 y1 y2 x11
          have hrc := ho6.rd
          have hFL : Hid ((enc (flat b)).length = 8 * m4) := Lib.hid (by rw [enc_length, flat_length, h4.len])
          have hwc2 := hwc.trans (ho6.bel.mono hwc.size)
          replace b21 := b21.below ho6.bel
          obtain ⟨CM, HCM⟩ : ∃ CM, Hid (ck.length = CM) := ⟨_, Lib.hid rfl⟩
          rw [HCM.out]
          have b27 := (BoxAt.new w11 (.slice A6 (pack ck).length c6) (.int .i64 (CM : Int)) 31).onA (.cells #[.int .u64 (v : Int), .int .i64 (nx.lead : Int), .int .i64 (nx.len : Int)] 24)
          have b28 := Box3.new (w11.alloc (.cells #[.slice A6 (pack ck).length c6, .int .i64 (CM : Int)] 31)) (.int .u64 (v : Int)) (.int .i64 (nx.lead : Int)) (.int .i64 (nx.len : Int)) 24
          simp only [World.size_alloc] at b28
          replace b21 := (b21.onA (.cells #[.slice A6 (pack ck).length c6, .int .i64 (CM : Int)] 31)).onA (.cells #[.int .u64 (v : Int), .int .i64 (nx.lead : Int), .int .i64 (nx.len : Int)] 24)
          have hal := two_below w11 (.cells #[.slice A6 (pack ck).length c6, .int .i64 (CM : Int)] 31) (.cells #[.int .u64 (v : Int), .int .i64 (nx.lead : Int), .int .i64 (nx.len : Int)] 24)
          replace hrc := ((hrc.below hal).more hal.size).drew
          have hbz := (hwc2.trans (hal.mono hwc2.size)).drew
          have hF := flat_any A4 m4 c4 b _ ((h4.below hbz).more hbz.size) hb4 (by omega)
          unfold RetB at hF
          have c24 := b21.drew
          have c27 := b27.drew
          have c28 := b28.drew
          have qs := fun w => run_eql_state w (v : Int) (nx.lead : Int) (nx.len : Int)
          have sg := state_guard
          clear b21 b27 b28 hal hwc hwc2 ho6
          go_upto_region 30 with fail
          generalize hW30 : (w11.alloc (.cells #[.slice A6 (pack ck).length c6, .int .i64 (CM : Int)] 31)).alloc (.cells #[.int .u64 (v : Int), .int .i64 (nx.lead : Int), .int .i64 (nx.len : Int)] 24) = W30 at *
          generalize hg27 : w11.heap.size = g27 at *
          go_region_held3 (fun w' => w'.cell? ⟨g20, 0, none⟩ = some (.int .u64 (v : Int)) ∧ w'.cell? ⟨g20, 1, none⟩ = some (.int .i64 (nx.lead : Int)) ∧ w'.cell? ⟨g20, 2, none⟩ = some (.int .i64 (nx.len : Int)) ∧ w'.cell? ⟨g27, 0, none⟩ = some (.slice A6 (pack ck).length c6) ∧ w'.cell? ⟨g27, 1, none⟩ = some (.int .i64 (CM : Int)) ∧ w'.cell? ⟨g27 + 1, 0, none⟩ = some (.int .u64 (v : Int)) ∧ w'.cell? ⟨g27 + 1, 1, none⟩ = some (.int .i64 (nx.lead : Int)) ∧ w'.cell? ⟨g27 + 1, 2, none⟩ = some (.int .i64 (nx.len : Int)))
            (exact ⟨c24.c0, c24.c1, c24.c2, c27.c0, c27.c1, c28.c0, c28.c1, c28.c2⟩) (first
            | (go_at_call 17; (with_reducible refine hF.mono ?_); rintro e w12 ⟨A7, c7, rfl, ho7⟩; have HB := ho7.bel; have hr7 := ho7.rd; rw [hFL.out] at hr7; (try rw [hFL.out]); have hc7 := hr7.cap; have hr8 := hr7.cutHead (n := n) hn2; rw [enc_take, ← HCD.out] at hr8; have hnc : n ≤ c7 := (by omega); replace hrc := (hrc.below HB).more HB.size; replace c24 := c24.below HB; replace c27 := c27.below HB; replace c28 := c28.below HB; replace hbz := hbz.trans (HB.mono hbz.size); clear HB hF hr7 ho7)
            | (go_at_call 13; have hI := is_yes _ _ _ _ _ _ ck _ hrc hr8 (by omega); rw [HCM.out] at hI; (with_reducible refine hI.mono ?_); rintro e w13 ⟨rfl, HB⟩; replace c24 := c24.below HB; replace c27 := c27.below HB; replace c28 := c28.below HB; replace hbz := hbz.trans (HB.mono hbz.size); clear HB hI))
          all_goals
            clear c24 c27 c28
            go_wp2
            go_ret
            exact ⟨rfl, hbz⟩
        · obtain ⟨he, _⟩ : ∃ he, Hid (errV R.e = he) := ⟨_, Lib.hid rfl⟩
          rw [show errV R.e = .iface 59 (.int .i64 (R.e : Int)) from if_neg he0]
          clear hbk
          go_wp2
          go_ret
          exact ⟨rfl, hwc.alloc hwc.size _⟩

theorem xback_all (A1 A2 A3 A4 : Option Addr) (m1 c1 m2 c2 m3 c3 m4 c4 : Nat) (l rest b vs : List Nat) (w : World) (h1 : Rd w w.heap.size A1 m1 c1 l) (h2 : RdU w w.heap.size A2 m2 vs) (h3 : Rd w w.heap.size A3 m3 c3 rest) (h4 : Rd w w.heap.size A4 m4 c4 b)
    (hb1 : ∀ x ∈ l, x < 256) (hb3 : ∀ x ∈ rest, x < 256) (hb4 : ∀ x ∈ b, x < 256) (hl : m1 ≤ 9223372036854775807 ∧ m2 ≤ 9223372036854775807 ∧ m3 ≤ 9223372036854775807 ∧ m4 ≤ 9223372036854775807) (hR : TzW w) :
    Calls Tryd.prog 4 #[.slice A1 m1 c1, .slice A2 m2 c2, .slice A3 m3 c3, .slice A4 m4 c4] w (RetTrue w) := by
  by_cases hs : m1 ≤ 300 ∧ m2 ≤ 50 ∧ m3 ≤ 300 ∧ m4 ≤ 300
  · exact xback_in A1 A2 A3 A4 m1 c1 m2 c2 m3 c3 m4 c4 l rest b vs w h1 h2 h3 h4 hb1 hb3 hb4 hs.1 hs.2.1 hs.2.2.1 hs.2.2.2 hR
  · exact xback_big A1 A2 A3 A4 m1 c1 m2 c2 m3 c3 m4 c4 w hl (by omega) hR

end Go.Proofs.YtfehlkilnghhiaaDoor
