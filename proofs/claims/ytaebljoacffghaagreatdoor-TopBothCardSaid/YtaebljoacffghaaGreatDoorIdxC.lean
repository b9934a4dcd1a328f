/-
  Texts of this proof, one behind the other: IdxGet2, IdxGet3, IdxGet1, IdxGet, GetErr.
-/
import Derived.Test.YtaebljoacffghaaGreatDoorIdxA
import Derived.Test.YtaebljoacffghaaGreatDoorEntsA
import Derived.Test.YtaebljoacffghaaGreatDoorWords
import Derived.Test.YtaebljoacffghaaGreatDoorUvI
import Derived.Test.YtaebljoacffghaaGreatDoorIdxB
import Derived.Deep.RegionWith
import Derived.Deep.RegionHeld3
import Derived.Deep.CutBlock
import Derived.Handy

/-
  The contract of the program's getEntry: an entry from a place on.
-/
namespace Go.Proofs.YtaebljoacffghaaGreatDoor
open Go.RowKit

/-- what getEntry comes to -/
def RetEn (w : World) (r : Except Nat ((Nat × List Nat) × Nat)) (e : Ending) (w' : World) : Prop :=
  (match r with
    | .ok (x, a) => e = .returned (.tuple #[.agg #[.int .i64 (progE x).mn, .int .i64 (progE x).mx, .int .i64 (progE x).ct, .int .i64 (progE x).ln], .int .i64 (a : Int), .nilIface])
    | .error j => e = .returned (.tuple #[.agg #[.int .i64 0, .int .i64 0, .int .i64 0, .int .i64 0], .int .i64 0, errV j])) ∧ Below w.heap.size w w'

/-- the cells of three numbers of which some are read -/
def threeV (vs : List Nat) : List Value := [.int .u64 ((vs.getD 0 0 : Nat) : Int), .int .u64 ((vs.getD 1 0 : Nat) : Int), .int .u64 ((vs.getD 2 0 : Nat) : Int)]
/-- a loop's relation: some of three numbers are read -/
def AtThree (bs : List Nat) (w : World) (a0 g : Nat) (at_ i : Value) (wr : World) : Prop :=
  ∃ (vs : List Nat) (a : Nat), vs.length ≤ 3 ∧ a ≤ bs.length ∧ (∀ x ∈ vs, x ≤ 18446744073709551615) ∧ AtReps (uvE bs) 3 a0 vs a ∧ at_ = .int .i64 (a : Int) ∧ i = .int .i64 (vs.length : Int) ∧ BoxL wr (g + 1) (threeV vs) ∧
    BoxL wr g [.int .i64 0, .int .i64 0, .int .i64 0, .int .i64 0] ∧ Below w.heap.size w wr

theorem wrap_s64 {n : Nat} (h : n ≤ 18446744073709551615) : IntKind.i64.wrap (n : Int) = s64n n := by
  rw [IntKind.wrap_i64]
  unfold s64n
  split <;> omega
theorem wrap_add (f x : Nat) : IntKind.u64.wrap ((f : Int) + (x : Int)) = (((f + x) % 18446744073709551616 : Nat) : Int) := by
  simp [IntKind.wrap, IntKind.bits, IntKind.signed]
theorem ent_box (w : World) : BoxL (w.alloc (.cells #[.int .i64 0, .int .i64 0, .int .i64 0, .int .i64 0] 103)) w.heap.size [.int .i64 0, .int .i64 0, .int .i64 0, .int .i64 0] := BoxL.new w [.int .i64 0, .int .i64 0, .int .i64 0, .int .i64 0] _
theorem BoxL.get4 {w : World} {g : Nat} {a b c d : Value} (h : BoxL w g [a, b, c, d]) : w.cell? ⟨g, 0, none⟩ = some a ∧ w.cell? ⟨g, 1, none⟩ = some b ∧ w.cell? ⟨g, 2, none⟩ = some c ∧ w.cell? ⟨g, 3, none⟩ = some d := ⟨h.cell 0 _ rfl, h.cell 1 _ rfl, h.cell 2 _ rfl, h.cell 3 _ rfl⟩
theorem BoxL.free4 {w : World} {g : Nat} {a b c d : Value} (h : BoxL w g [a, b, c, d]) : w.frozen? ⟨g, 0, none⟩ = false ∧ w.frozen? ⟨g, 1, none⟩ = false ∧ w.frozen? ⟨g, 2, none⟩ = false ∧ w.frozen? ⟨g, 3, none⟩ = false := ⟨h.free 0 _ rfl, h.free 1 _ rfl, h.free 2 _ rfl, h.free 3 _ rfl⟩
theorem BoxL.all4 {w : World} {g : Nat} {a0 a1 a2 a3 : Value} (h : BoxL w g [a0, a1, a2, a3]) (u0 u1 u2 u3 : Value) : BoxL ((((w.setCell ⟨g, 0, none⟩ u0).setCell ⟨g, 1, none⟩ u1).setCell ⟨g, 2, none⟩ u2).setCell ⟨g, 3, none⟩ u3) g [u0, u1, u2, u3] := (((h.put 0 u0).put 1 u1).put 2 u2).put 3 u3
theorem BoxL.oth4 {w : World} {g : Nat} {l : List Value} (h : BoxL w g l) {d : Nat} (hd : g ≠ d) (u0 u1 u2 u3 : Value) : BoxL ((((w.setCell ⟨d, 0, none⟩ u0).setCell ⟨d, 1, none⟩ u1).setCell ⟨d, 2, none⟩ u2).setCell ⟨d, 3, none⟩ u3) g l := (((h.oth hd 0 u0).oth hd 1 u1).oth hd 2 u2).oth hd 3 u3
theorem below_set4 {B : Nat} {a w : World} (h : Below B a w) {d : Nat} (hd : B ≤ d) (u0 u1 u2 u3 : Value) : Below B a ((((w.setCell ⟨d, 0, none⟩ u0).setCell ⟨d, 1, none⟩ u1).setCell ⟨d, 2, none⟩ u2).setCell ⟨d, 3, none⟩ u3) :=
  below_set (below_set (below_set (below_set h hd 0 u0) hd 1 u1) hd 2 u2) hd 3 u3

set_option maxRecDepth 20000 in
set_option maxHeartbeats 1000000 in
theorem getentry_any (A : Option Addr) (n c B a : Nat) (bs : List Nat) (w : World) (h : Rd w B A n c bs) (hB : B ≤ w.heap.size) (hb : ∀ x ∈ bs, x < 256) (hn : n ≤ 140737488355328) (ha : a ≤ n) :
    Calls Tryz.prog 78 #[.slice A n c, .int .i64 (a : Int)] w (RetEn w (rawE bs a)) := by
  have HL := Lib.hid h.len
  have HH := Lib.hid h
  have HB := Lib.hid hB
  have HBB := Lib.hid hb
  have hcap := h.cap
  by_cases h8 : n < a + 8
  · have HG : Hid (rawE bs a = .error 2) := Lib.hid (by unfold rawE; rw [if_pos (by rw [HL.out]; exact h8)])
    clear h hB hb
    go_enter Tryz.func78, Tryz.ntmps78
    go_wp2_with fail
    go_returns
    rw [HG.out]
    exact ⟨rfl, (Below.refl _ _).alloc (Nat.le_refl _) _⟩
  · have h8' : a + 8 ≤ n := by omega
    have hcut := h.cutTo (a := a) (n := 8) h8'
    have hlt8 : ∀ x ∈ (bs.drop a).take 8, x < 256 := fun x hx => hb x (List.mem_of_mem_drop (List.mem_of_mem_take hx))
    have hb8 := numB_lt _ hlt8
    rw [show ((bs.drop a).take 8).length = 8 by rw [List.length_take, List.length_drop, h.len]; omega] at hb8
    have HF : Hid (numB ((bs.drop a).take 8) = numB ((bs.drop a).take 8)) := Lib.hid rfl
    have hnum := fun w' (hbl : Below w.heap.size w w') => inumber_any _ _ _ B _ w' (hcut.below (hbl.mono hB)) hlt8 (by omega)
    have HG : Hid (rawE bs a = match reps (uvE bs) 3 (a + 8) with | .error e => .error e | .ok (vs, a1) => .ok ((numB ((bs.drop a).take 8), vs), a1)) := Lib.hid (by
      unfold rawE
      rw [if_neg (by rw [HL.out]; exact h8)]
      rfl)
    clear HF hcut
    generalize numB ((bs.drop a).take 8) = f at *
    have hf : f ≤ 18446744073709551615 := by omega
    have hbx := ent_box w
    have hbl : Below w.heap.size w (w.alloc (.cells #[.int .i64 0, .int .i64 0, .int .i64 0, .int .i64 0] 103)) := (Below.refl _ _).alloc (Nat.le_refl _) _
    have hnu := hnum _ hbl
    clear h hB hb hb8 hnum hlt8
    go_enter Tryz.func78, Tryz.ntmps78
    go_wp2_with fail
    refine hnu.mono ?_
    rintro e w1 ⟨rfl, rfl⟩
    have hb3 := BoxL.new (w.alloc (.cells #[.int .i64 0, .int .i64 0, .int .i64 0, .int .i64 0] 103)) (threeV []) 162
    unfold threeV at hb3
    rw [show (w.alloc (.cells #[.int .i64 0, .int .i64 0, .int .i64 0, .int .i64 0] 103)).heap.size = w.heap.size + 1 by simp] at hb3
    have hbx2 := hbx.onA (.cells #[.int .u64 0, .int .u64 0, .int .u64 0] 162)
    have hbl2 := hbl.alloc hbl.size (.cells #[.int .u64 0, .int .u64 0, .int .u64 0] 162)
    clear hnu
    go_wp2_with fail
    go_loopw [1, 29] (fun x i wr => AtThree bs w (a + 8) w.heap.size x i wr) (fun _ i _ => 3 - (intOf i).toNat)
    case atStart => exact ⟨[], a + 8, by simp, by rw [HL.out]; exact h8', by simp, AtReps.zero _ _, rfl, rfl, hb3, hbx2, hbl2⟩
    case round =>
      obtain ⟨vs, at2, hv3, ha2, hvb, hat, rfl, rfl, b8, b4, hbw⟩ := hrel
      have ha2n : at2 ≤ n := by rw [← HL.out]; exact ha2
      clear hb3 hbx2 hbl2 hbx hbl ha2
      by_cases hlt : vs.length < 3
      · have hug := uget_all A n c B bs (at2 : Int) wr (HH.out.below (hbw.mono HB.out)) HBB.out hn (by omega)
        have HAT := Lib.hid hat
        have HVB := Lib.hid hvb
        have HLT := Lib.hid hlt
        clear hat hvb hv3
        obtain ⟨z0, z1, z2, z3⟩ := b4.get4
        obtain ⟨zf0, zf1, zf2, zf3⟩ := b4.free4
        obtain ⟨y0, y1, y2⟩ := BoxL.get3 b8
        obtain ⟨yf0, yf1, yf2⟩ := BoxL.free3 b8
        rcases vs with _ | ⟨x0, _ | ⟨x1, _ | ⟨x2, r⟩⟩⟩
        · clear hlt
          go_wp2_with fail
          refine hug.mono ?_
          rintro e w9 ⟨v, m, k', hu, rfl, rfl⟩
          have hvl := (uat_le hu).1
          have hum := (uat_le hu).2.1
          have HU := Lib.hid hu
          rcases (uat_le hu).2.2 with rfl | rfl | rfl
          · have hin := (uat_in HBB.out hu).2.1
            clear hu
            rw [show errV 0 = .nilIface from rfl]
            go_wp2_with fail
            go_roundw
            case rel => exact ⟨[v], at2 + m, by simp, hin, (by have := HVB.out; simp at this ⊢; simp [*]), HAT.out.succ HLT.out (uvE_ok HU.out), by go_num, by go_num, b8.put 0 _, b4.oth (by omega) 0 _, below_set hbw (by omega) 0 _⟩
            case measure => simp [intOf]
          · clear hu
            rw [show errV 2 = .iface 59 (.int .i64 2) from rfl]
            go_wp2_with fail
            obtain ⟨u0, u1, u2, u3⟩ := (b4.all4 (.int .i64 0) (.int .i64 0) (.int .i64 0) (.int .i64 0)).get4
            have hbz := below_set4 hbw (Nat.le_refl _) (.int .i64 0) (.int .i64 0) (.int .i64 0) (.int .i64 0)
            refine bodyPost_ret (by simp [results, Tryz.results78, go_sem, u0, u1, u2, u3]; try rfl) rfl ?_
            rw [HG.out, HAT.out.bad HLT.out (uvE_bad HU.out (by decide))]
            exact ⟨rfl, hbz⟩
          · clear hu
            rw [show errV 3 = .iface 59 (.int .i64 3) from rfl]
            go_wp2_with fail
            obtain ⟨u0, u1, u2, u3⟩ := (b4.all4 (.int .i64 0) (.int .i64 0) (.int .i64 0) (.int .i64 0)).get4
            have hbz := below_set4 hbw (Nat.le_refl _) (.int .i64 0) (.int .i64 0) (.int .i64 0) (.int .i64 0)
            refine bodyPost_ret (by simp [results, Tryz.results78, go_sem, u0, u1, u2, u3]; try rfl) rfl ?_
            rw [HG.out, HAT.out.bad HLT.out (uvE_bad HU.out (by decide))]
            exact ⟨rfl, hbz⟩
        · clear hlt
          go_wp2_with fail
          refine hug.mono ?_
          rintro e w9 ⟨v, m, k', hu, rfl, rfl⟩
          have hvl := (uat_le hu).1
          have hum := (uat_le hu).2.1
          have HU := Lib.hid hu
          rcases (uat_le hu).2.2 with rfl | rfl | rfl
          · have hin := (uat_in HBB.out hu).2.1
            clear hu
            rw [show errV 0 = .nilIface from rfl]
            go_wp2_with fail
            go_roundw
            case rel => exact ⟨[x0, v], at2 + m, by simp, hin, (by have := HVB.out; simp at this ⊢; simp [*]), HAT.out.succ HLT.out (uvE_ok HU.out), by go_num, by go_num, b8.put 1 _, b4.oth (by omega) 1 _, below_set hbw (by omega) 1 _⟩
            case measure => simp [intOf]
          · clear hu
            rw [show errV 2 = .iface 59 (.int .i64 2) from rfl]
            go_wp2_with fail
            obtain ⟨u0, u1, u2, u3⟩ := (b4.all4 (.int .i64 0) (.int .i64 0) (.int .i64 0) (.int .i64 0)).get4
            have hbz := below_set4 hbw (Nat.le_refl _) (.int .i64 0) (.int .i64 0) (.int .i64 0) (.int .i64 0)
            refine bodyPost_ret (by simp [results, Tryz.results78, go_sem, u0, u1, u2, u3]; try rfl) rfl ?_
            rw [HG.out, HAT.out.bad HLT.out (uvE_bad HU.out (by decide))]
            exact ⟨rfl, hbz⟩
          · clear hu
            rw [show errV 3 = .iface 59 (.int .i64 3) from rfl]
            go_wp2_with fail
            obtain ⟨u0, u1, u2, u3⟩ := (b4.all4 (.int .i64 0) (.int .i64 0) (.int .i64 0) (.int .i64 0)).get4
            have hbz := below_set4 hbw (Nat.le_refl _) (.int .i64 0) (.int .i64 0) (.int .i64 0) (.int .i64 0)
            refine bodyPost_ret (by simp [results, Tryz.results78, go_sem, u0, u1, u2, u3]; try rfl) rfl ?_
            rw [HG.out, HAT.out.bad HLT.out (uvE_bad HU.out (by decide))]
            exact ⟨rfl, hbz⟩
        · clear hlt
          go_wp2_with fail
          refine hug.mono ?_
          rintro e w9 ⟨v, m, k', hu, rfl, rfl⟩
          have hvl := (uat_le hu).1
          have hum := (uat_le hu).2.1
          have HU := Lib.hid hu
          rcases (uat_le hu).2.2 with rfl | rfl | rfl
          · have hin := (uat_in HBB.out hu).2.1
            clear hu
            rw [show errV 0 = .nilIface from rfl]
            go_wp2_with fail
            go_roundw
            case rel => exact ⟨[x0, x1, v], at2 + m, by simp, hin, (by have := HVB.out; simp at this ⊢; simp [*]), HAT.out.succ HLT.out (uvE_ok HU.out), by go_num, by go_num, b8.put 2 _, b4.oth (by omega) 2 _, below_set hbw (by omega) 2 _⟩
            case measure => simp [intOf]
          · clear hu
            rw [show errV 2 = .iface 59 (.int .i64 2) from rfl]
            go_wp2_with fail
            obtain ⟨u0, u1, u2, u3⟩ := (b4.all4 (.int .i64 0) (.int .i64 0) (.int .i64 0) (.int .i64 0)).get4
            have hbz := below_set4 hbw (Nat.le_refl _) (.int .i64 0) (.int .i64 0) (.int .i64 0) (.int .i64 0)
            refine bodyPost_ret (by simp [results, Tryz.results78, go_sem, u0, u1, u2, u3]; try rfl) rfl ?_
            rw [HG.out, HAT.out.bad HLT.out (uvE_bad HU.out (by decide))]
            exact ⟨rfl, hbz⟩
          · clear hu
            rw [show errV 3 = .iface 59 (.int .i64 3) from rfl]
            go_wp2_with fail
            obtain ⟨u0, u1, u2, u3⟩ := (b4.all4 (.int .i64 0) (.int .i64 0) (.int .i64 0) (.int .i64 0)).get4
            have hbz := below_set4 hbw (Nat.le_refl _) (.int .i64 0) (.int .i64 0) (.int .i64 0) (.int .i64 0)
            refine bodyPost_ret (by simp [results, Tryz.results78, go_sem, u0, u1, u2, u3]; try rfl) rfl ?_
            rw [HG.out, HAT.out.bad HLT.out (uvE_bad HU.out (by decide))]
            exact ⟨rfl, hbz⟩
        · simp at hlt
          omega
      · obtain ⟨x, y, z, rfl⟩ : ∃ x y z, vs = [x, y, z] := by
          match vs, hv3, hlt with
          | [x, y, z], _, _ => exact ⟨x, y, z, rfl⟩
          | [], _, h => exact absurd (show ([] : List Nat).length < 3 by simp) h
          | [_], _, h => exact absurd (show 1 < 3 by omega) h
          | [_, _], _, h => exact absurd (show 2 < 3 by omega) h
          | _ :: _ :: _ :: _ :: _, h, _ => exact absurd h (by simp)
        have hx : x ≤ 18446744073709551615 := hvb x (by simp)
        have hy : y ≤ 18446744073709551615 := hvb y (by simp)
        have hz : z ≤ 18446744073709551615 := hvb z (by simp)
        have HR : Hid (rawE bs a = .ok ((f, [x, y, z]), at2)) := Lib.hid (by rw [HG.out, hat.done hlt])
        have HP : Hid (progE (f, [x, y, z]) = ⟨s64n f, s64n ((f + x) % 18446744073709551616), smallN y, smallN z⟩) := Lib.hid rfl
        have hs1 : IntKind.i64.wrap (f : Int) = s64n f := wrap_s64 hf
        have hadd : IntKind.u64.wrap ((f : Int) + (x : Int)) = (((f + x) % 18446744073709551616 : Nat) : Int) := wrap_add f x
        have hs2 : IntKind.i64.wrap (((f + x) % 18446744073709551616 : Nat) : Int) = s64n ((f + x) % 18446744073709551616) := wrap_s64 (by omega)
        have hsy := fun w => small_any y w hy
        have hsz := fun w => small_any z w hz
        have fy := smallN_le y
        have fz := smallN_le z
        have hgl : ((f + x) % 18446744073709551616) ≤ 18446744073709551615 := by omega
        have fm := s64n_fit hf
        have fx := s64n_fit hgl
        clear hat hvb hv3 hlt
        generalize (f + x) % 18446744073709551616 = G at *
        generalize s64n f = mn at *
        generalize s64n G = mx at *
        generalize smallN y = cy at *
        generalize smallN z = lz at *
        replace hx := Lib.hid hx
        obtain ⟨y0, y1, y2⟩ := BoxL.get3 b8
        simp only [List.getD_cons_zero, List.getD_cons_succ] at y0 y1 y2
        obtain ⟨z0, z1, z2, z3⟩ := b4.get4
        obtain ⟨zf0, zf1, zf2, zf3⟩ := b4.free4
        go_wp2_with fail
        have b8d := b8.drew
        have b4d := b4.drew
        clear y0 y1 y2
        have hs' := (BoxL.get3 ((b8.oth4 (d := w.heap.size) (by omega) (.int .i64 mn) (.int .i64 mx) (.int .i64 cy) (.int .i64 lz)).drew)).2
        unfold threeV at hs'
        simp only [List.getD_cons_zero, List.getD_cons_succ] at hs'
        have hv := (b4.all4 (.int .i64 mn) (.int .i64 mx) (.int .i64 cy) (.int .i64 lz)).drew.get4
        have hbz := (below_set4 hbw (Nat.le_refl _) (.int .i64 mn) (.int .i64 mx) (.int .i64 cy) (.int .i64 lz)).drew
        clear b8 b4
        unfold threeV at b8d
        simp only [List.getD_cons_zero, List.getD_cons_succ] at b8d
        obtain ⟨y0, y1, y2⟩ := BoxL.get3 b8d
        obtain ⟨d0, d1, d2, d3⟩ := b4d.get4
        obtain ⟨df0, df1, df2, df3⟩ := b4d.free4
        have hs := (BoxL.get3 (b8d.oth4 (d := w.heap.size) (by omega) (.int .i64 mn) (.int .i64 mx) (.int .i64 cy) (.int .i64 lz))).2
        clear y0
        go_region_held3 (fun w' => w'.cell? ⟨w.heap.size + 1, 1, none⟩ = some (.int .u64 (y : Int)) ∧ w'.cell? ⟨w.heap.size + 1, 2, none⟩ = some (.int .u64 (z : Int)))
          (first | exact ⟨y1, y2⟩ | exact hs' | exact hs) (first
          | (go_at_call_of 93 y; refine (hsy _).mono ?_; rintro e w9 ⟨rfl, rfl⟩)
          | (go_at_call_of 93 z; refine (hsz _).mono ?_; rintro e w9 ⟨rfl, rfl⟩))
        all_goals
          go_wp2_with fail
          obtain ⟨u0, u1, u2, u3⟩ := hv
          refine bodyPost_ret (by simp [results, Tryz.results78, go_sem, u0, u1, u2, u3]; try rfl) rfl ?_
          rw [HR.out]
          refine ⟨?_, hbz⟩
          simp only
          rw [HP.out]

end Go.Proofs.YtaebljoacffghaaGreatDoor

/-
  The contracts of the program's getList and skipSum: the entries from a place on, and the place behind the sum.
-/
namespace Go.Proofs.YtaebljoacffghaaGreatDoor
open Go.RowKit

theorem errV_no {j : Nat} (h : j ≠ 0) : errV j = .iface 59 (.int .i64 (j : Int)) := if_neg h
theorem uvE_err {bs : List Nat} {a e : Nat} (h : uvE bs a = .error e) : e ≠ 0 := by
  unfold uvE at h
  split at h
  · cases h
  · rename_i hne
    injection h with h
    rw [← h]
    exact hne
theorem reps_err {α : Type} {f : Nat → Except Nat (α × Nat)} : ∀ (n a e : Nat), reps f n a = .error e → ∃ a', f a' = .error e := by
  intro n
  induction n with
  | zero => intro a e h; simp [reps] at h
  | succ n ih =>
    intro a e h
    simp only [reps] at h
    cases hf : f a with
    | error e' => rw [hf] at h; injection h with h; exact ⟨a, by rw [hf, h]⟩
    | ok p =>
      obtain ⟨x, a1⟩ := p
      rw [hf] at h
      simp only at h
      cases hr : reps f n a1 with
      | error e' => rw [hr] at h; injection h with h; subst h; exact ih a1 _ hr
      | ok q => rw [hr] at h; cases h
theorem rawE_err {bs : List Nat} {a e : Nat} (h : rawE bs a = .error e) : e ≠ 0 := by
  unfold rawE at h
  split at h
  · injection h with h; omega
  · cases hr : reps (uvE bs) 3 (a + 8) with
    | error e' =>
      rw [hr] at h
      injection h with h
      obtain ⟨a', ha⟩ := reps_err _ _ _ hr
      rw [← h]
      exact uvE_err ha
    | ok p => rw [hr] at h; cases h

/-- what getList comes to -/
def RetL (w : World) (r : Except Nat (List (Nat × List Nat) × Nat)) (e : Ending) (w' : World) : Prop :=
  match r with
  | .ok (rs, a) => ∃ A c, e = .returned (.tuple #[.slice A rs.length c, .int .i64 (a : Int), .nilIface]) ∧ OwnE 103 w w' (.slice A rs.length c) (rs.map progE)
  | .error j => e = .returned (.tuple #[.slice none 0 0, .int .i64 0, errV j]) ∧ Below w.heap.size w w'

/-- a loop's relation: some entries are read -/
def AtList (bs : List Nat) (w : World) (N a0 : Nat) (at_ l i : Value) (wr : World) : Prop :=
  ∃ (xs : List (Nat × List Nat)) (a : Nat), a ≤ bs.length ∧ (∀ x ∈ xs, FitR x) ∧ AtReps (rawE bs) N a0 xs a ∧ at_ = .int .i64 (a : Int) ∧ i = .int .u64 (xs.length : Int) ∧ OwnE 103 w wr l (xs.map progE)

set_option maxRecDepth 20000 in
set_option maxHeartbeats 1000000 in
theorem getlist_any (A : Option Addr) (n c B a : Nat) (bs : List Nat) (w : World) (h : Rd w B A n c bs) (hB : B ≤ w.heap.size) (hb : ∀ x ∈ bs, x < 256) (hn : n ≤ 140737488355328) (ha : a ≤ n) :
    Calls Tryz.prog 55 #[.slice A n c, .int .i64 (a : Int)] w (RetL w (getL bs a)) := by
  have HL := Lib.hid h.len
  have HH := Lib.hid h
  have HB := Lib.hid hB
  have HBB := Lib.hid hb
  have hug := uget_all A n c B bs (a : Int) w h hb hn (by omega)
  clear h hB hb
  go_enter Tryz.func55, Tryz.ntmps55
  go_wp2_with fail
  refine hug.mono ?_
  rintro e w2 ⟨N, m, k, hu, rfl, rfl⟩
  have hN := (uat_le hu).1
  have hm := (uat_le hu).2.1
  by_cases hk : k = 0
  · subst hk
    have hin := (uat_in HBB.out hu).2.1
    have HE := Lib.hid (uvE_ok hu)
    rw [show errV 0 = .nilIface from rfl]
    clear hu
    by_cases h6 : 65535 < N
    · have HG : Hid (getL bs a = .error 9) := Lib.hid (by unfold getL; rw [HE.out]; simp only; rw [if_pos h6])
      go_wp2_with fail
      go_ret3
      rw [HG.out]
      exact ⟨rfl, Below.refl _ _⟩
    · have HG : Hid (getL bs a = reps (rawE bs) N (a + m)) := Lib.hid (by unfold getL; rw [HE.out]; simp only; rw [if_neg h6])
      have h6' : N ≤ 65535 := by omega
      clear h6
      go_wp2_with fail
      go_loopw [1, 10, 29] (fun x l i wr => AtList bs w N (a + m) x l i wr) (fun _ _ i _ => N - (intOf i).toNat)
      case atStart => exact ⟨[], a + m, hin, by simp, AtReps.zero _ _, by go_num, rfl, OwnE.nil_ _ _ _ (Below.refl _ _)⟩
      case round =>
        obtain ⟨xs, a2, ha2, hxf, hat, rfl, rfl, hown⟩ := hrel
        have HAT := Lib.hid hat
        have HXF := Lib.hid hxf
        have hxl := hat.1
        clear hat hxf
        by_cases hlt : xs.length < N
        · have hz : Below wr.heap.size wr (wr.alloc (.cells #[.int .i64 0, .int .i64 0, .int .i64 0, .int .i64 0] 103)) := (Below.refl _ _).alloc (Nat.le_refl _) _
          have hbx := ent_box wr
          have hge := getentry_any A n c B a2 bs _ (HH.out.below ((hown.bel.mono HB.out).trans (hz.mono (Nat.le_trans HB.out hown.bel.size)))) (Nat.le_trans (Nat.le_trans HB.out hown.bel.size) hz.size) HBB.out hn (by rw [← HL.out]; exact ha2)
          obtain ⟨xl, HXL⟩ : ∃ xl, Hid (xs.length = xl) := ⟨_, Lib.hid rfl⟩
          rw [HXL.out] at hlt hxl ⊢
          obtain ⟨W, hW⟩ : ∃ W, W = wr.alloc (.cells #[.int .i64 0, .int .i64 0, .int .i64 0, .int .i64 0] 103) := ⟨_, rfl⟩
          rw [← hW] at hz hbx hge
          replace hW := Lib.hid hW
          cases hr : rawE bs a2 with
          | error j =>
            rw [hr] at hge
            have HJ := Lib.hid (rawE_err hr)
            have HR := Lib.hid (HAT.out.bad (by rw [HXL.out]; exact hlt) hr)
            clear hr
            go_wp2_with fail
            rw [← hW.out]
            refine hge.mono ?_
            rintro e w9 ⟨he, hb9⟩
            simp only at he
            subst he
            rw [errV_no HJ.out]
            obtain ⟨z0, z1, z2, z3⟩ := (hbx.below hb9).get4
            obtain ⟨zf0, zf1, zf2, zf3⟩ := (hbx.below hb9).free4
            have hbz := below_set4 (hz.trans (hb9.mono hz.size)) (Nat.le_refl _) (.int .i64 0) (.int .i64 0) (.int .i64 0) (.int .i64 0)
            go_wp2_with fail
            go_ret3
            rw [HG.out, HR.out]
            refine ⟨by rw [errV_no HJ.out]; rfl, hown.bel.trans (hbz.mono hown.bel.size)⟩
          | ok p =>
            obtain ⟨x, a3⟩ := p
            rw [hr] at hge
            obtain ⟨hfx, hax, hin3⟩ := rawE_fit HBB.out hr
            have ha3 := (hin3 ha2).1
            have HR := Lib.hid (HAT.out.succ (by rw [HXL.out]; exact hlt) hr)
            have hfe := progE_fit hfx
            clear hr hin3 hax
            obtain ⟨y, HY⟩ : ∃ y, Hid (y = progE x) := ⟨_, Lib.hid rfl⟩
            rw [← HY.out] at hfe
            unfold RetEn at hge
            simp only at hge
            rw [← HY.out] at hge
            obtain ⟨ym, yx, yc, yl⟩ := y
            simp only at hge
            go_wp2_with fail
            rw [← hW.out]
            refine hge.mono ?_
            rintro e w9 ⟨rfl, hb9⟩
            have b9 := hbx.below hb9
            have hbx0 := hbx
            have hb90 := hb9
            obtain ⟨z0, z1, z2, z3⟩ := b9.get4
            obtain ⟨zf0, zf1, zf2, zf3⟩ := b9.free4
            have hbz := below_set4 (hz.trans (hb9.mono hz.size)) (Nat.le_refl _) (.int .i64 ym) (.int .i64 yx) (.int .i64 yc) (.int .i64 yl)
            have hown9 := hown.keep hbz
            obtain ⟨d0, d1, d2, d3⟩ := (b9.all4 (.int .i64 ym) (.int .i64 yx) (.int .i64 yc) (.int .i64 yl)).get4
            have hml : (xs.map progE).length + 1 ≤ 1073741824 := by rw [List.length_map, HXL.out]; omega
            replace hml := Lib.hid hml
            clear hbx b9 hge hb9 hown hz
            clear d0 d1 d2 d3
            have b10 := (BoxL.below (hbx0) hb90).all4 (.int .i64 ym) (.int .i64 yx) (.int .i64 yc) (.int .i64 yl)
            clear hbx0 hb90
            go_upto_region 12 with fail
            clear z0 z1 z2 z3 zf0 zf1 zf2 zf3
            generalize ((((w9.setCell ⟨wr.heap.size, 0, none⟩ (.int .i64 ym)).setCell ⟨wr.heap.size, 1, none⟩ (.int .i64 yx)).setCell ⟨wr.heap.size, 2, none⟩ (.int .i64 yc)).setCell ⟨wr.heap.size, 3, none⟩ (.int .i64 yl)) = w10 at *
            obtain ⟨d0, d1, d2, d3⟩ := b10.get4
            go_wp2_with (at_builtin; (refine wpList_appE Tryz.underlying84 Tryz.infoE rfl (.tmp 41) (.tmp 43) rfl rfl rfl (hown9.alloc _) (RdE.one _ _ ⟨ym, yx, yc, yl⟩ hfe) hml.out ?_; intro v' w' hown2 _))
            go_roundw
            case rel =>
              refine ⟨xs ++ [x], a3, ha3, ?_, HR.out, by go_num, by rw [List.length_append, HXL.out]; go_num, ?_⟩
              · intro r hr
                rcases List.mem_append.1 hr with hr | hr
                · exact HXF.out r hr
                · rw [List.mem_singleton.1 hr]; exact hfx
              · rw [List.map_append]
                simp only [List.map_cons, List.map_nil]
                rw [← HY.out]
                exact hown2
            case measure => simp [intOf]; omega
        · have HR := Lib.hid (HAT.out.done hlt)
          have HM : Hid ((xs.map progE).length = xs.length) := Lib.hid (by simp)
          obtain ⟨A', c', rfl, _⟩ := hown.form
          obtain ⟨xl, HXL⟩ : ∃ xl, Hid (xs.length = xl) := ⟨_, Lib.hid rfl⟩
          rw [HM.out, HXL.out] at hown ⊢
          rw [HXL.out] at hlt hxl
          go_wp2_with fail
          go_ret3
          rw [HG.out, HR.out]
          refine ⟨A', c', by rw [HXL.out]; rfl, by rw [HXL.out]; exact hown⟩
  · have HG : Hid (getL bs a = .error k) := Lib.hid (by unfold getL; rw [uvE_bad hu hk])
    rw [errV_no hk]
    clear hu
    go_wp2_with fail
    go_ret3
    rw [HG.out]
    exact ⟨by rw [errV_no hk]; rfl, Below.refl _ _⟩


/-- what skipSum comes to -/
def RetSS (w : World) (r : Except Nat Nat) (e : Ending) (w' : World) : Prop :=
  (match r with
    | .ok a1 => e = .returned (.tuple #[.int .i64 (a1 : Int), .nilIface])
    | .error j => e = .returned (.tuple #[.int .i64 0, errV j])) ∧ Below w.heap.size w w'

set_option maxRecDepth 20000 in
set_option maxHeartbeats 1000000 in
theorem skipsum_any (A : Option Addr) (n c B a : Nat) (bs : List Nat) (w : World) (h : Rd w B A n c bs) (_hB : B ≤ w.heap.size) (hb : ∀ x ∈ bs, x < 256) (hn : n ≤ 140737488355328) (ha : a ≤ n) :
    Calls Tryz.prog 56 #[.slice A n c, .int .i64 (a : Int)] w (RetSS w (getS bs a)) := by
  have HL := Lib.hid h.len
  have hcap := h.cap
  by_cases h4 : n < a + 4
  · have HG : Hid (getS bs a = .error 2) := Lib.hid (by unfold getS; rw [if_pos (by rw [HL.out]; exact h4)])
    clear h hb
    go_enter Tryz.func56, Tryz.ntmps56
    go_wp2_with fail
    go_ret2
    rw [HG.out]
    exact ⟨rfl, Below.refl _ _⟩
  · have h4' : a + 4 ≤ n := by omega
    have hcut := h.cutTo (a := a) (n := 4) h4'
    have hhead := h.cutHead ha
    have hb4 : ∀ x ∈ (bs.drop a).take 4, x < 256 := fun x hx => hb x (List.mem_of_mem_drop (List.mem_of_mem_take hx))
    have hbh : ∀ x ∈ bs.take a, x < 256 := fun x hx => hb x (List.mem_of_mem_take hx)
    have hlt1 := numB_lt _ hb4
    rw [show ((bs.drop a).take 4).length = 4 by rw [List.length_take, List.length_drop, h.len]; omega] at hlt1
    have hlt2 := crcS_lt hbh
    have hnum := fun k => inumber_any _ _ _ B _ (w.drewN k) (hcut.drewN k) hb4 (by omega)
    have hsum := fun k => sum_any _ _ _ B _ (w.drewN k) (hhead.drewN k) hbh (by omega)
    have HG : Hid (getS bs a = if numB ((bs.drop a).take 4) = crcS (bs.take a) then .ok (a + 4) else .error 7) := Lib.hid (by
      unfold getS
      rw [if_neg (by rw [HL.out]; exact h4)])
    clear h hb hcut hhead hb4 hbh
    generalize numB ((bs.drop a).take 4) = x at *
    generalize crcS (bs.take a) = y at *
    have hyw : IntKind.u64.wrap (y : Int) = (y : Int) := wrap_le y (by omega)
    have hqn : ∀ k, Calls Tryz.prog 79 #[.slice (A.map (fun x => x.add a)) 4 (c - a)] (w.drewN k) fun e w' => e = .returned (.int .u64 (x : Int)) ∧ ∃ m, w' = w.drewN m := fun k => (hnum k).mono fun _ _ ⟨he, hw⟩ => ⟨he, k, hw.symm⟩
    have hqs : ∀ k, Calls Tryz.prog 65 #[.slice A a c] (w.drewN k) fun e w' => e = .returned (.int .u32 (y : Int)) ∧ ∃ m, w' = w.drewN m := fun k => (hsum k).mono fun _ _ ⟨he, hw⟩ => ⟨he, k, hw.symm⟩
    clear hnum hsum
    have hin0 : (0 : Int) ≤ (a : Int) := by omega
    have hin1 : (a : Int) ≤ (n : Int) := by omega
    by_cases hxy : x = y
    · subst hxy
      go_enter Tryz.func56, Tryz.ntmps56
      go_upto_region 4 with fail
      go_quiet (first
        | (go_at_call 79; exact hqn _)
        | (go_at_call 65; exact hqs _))
      all_goals
        go_wp2_with fail
        go_ret2
        rw [HG.out, if_pos trivial]
        exact ⟨rfl, below_drewN (Below.refl _ _) _⟩
    · have hne : ((x : Int) == (y : Int)) = false := by simp; omega
      rw [if_neg hxy] at HG
      go_enter Tryz.func56, Tryz.ntmps56
      go_upto_region 4 with fail
      go_quiet (first
        | (go_at_call 79; exact hqn _)
        | (go_at_call 65; exact hqs _))
      all_goals
        go_wp2_with fail
        go_ret2
        rw [HG.out]
        exact ⟨rfl, below_drewN (Below.refl _ _) _⟩

end Go.Proofs.YtaebljoacffghaaGreatDoor

/-
  The contracts of the library's bytes.Equal, HasPrefix and CutPrefix where the prefix is an index's first four bytes, and of the program's getKind.
-/
namespace Go.Proofs.YtaebljoacffghaaGreatDoor
open Go.RowKit

theorem strB_same (p : List Nat) : ((strB p).toList == (strB p).toList) = true := by simp

set_option maxRecDepth 20000 in
set_option maxHeartbeats 400000 in
theorem equal_any (A1 A2 : Option Addr) (n1 c1 n2 c2 B1 B2 : Nat) (p q : List Nat) (w : World) (h1 : Rd w B1 A1 n1 c1 p) (h2 : Rd w B2 A2 n2 c2 q) (hp : ∀ x ∈ p, x < 256) (hq : ∀ x ∈ q, x < 256) :
    Calls Tryz.prog 111 #[.slice A1 n1 c1, .slice A2 n2 c2] w fun e w' => e = .returned (.bool (decide (p = q))) ∧ w = w' := by
  have s1 := run_str h1
  have s2 := run_str h2
  by_cases he : p = q
  · subst he
    have hs := strB_same p
    rw [show decide (p = p) = true by simp]
    go_enter Tryz.func111, Tryz.ntmps111
    go_wp2
    go_ret
    exact ⟨rfl, rfl⟩
  · have hs := strB_other hp hq he
    have HD : Hid (decide (p = q) = false) := Lib.hid (by simp [he])
    clear he
    go_enter Tryz.func111, Tryz.ntmps111
    go_wp2
    go_ret
    rw [HD.out]
    exact ⟨rfl, rfl⟩

set_option maxRecDepth 20000 in
set_option maxHeartbeats 400000 in
theorem hasprefix_any (A1 A2 : Option Addr) (n c B1 B2 : Nat) (bs : List Nat) (w : World) (h1 : Rd w B1 A1 n c bs) (h2 : Rd w B2 A2 4 4 magB) (hb : ∀ x ∈ bs, x < 256) :
    Calls Tryz.prog 92 #[.slice A1 n c, .slice A2 4 4] w fun e w' => e = .returned (.bool (decide (bs.take 4 = magB))) ∧ w = w' := by
  have hmb : ∀ x ∈ magB, x < 256 := by decide
  by_cases h4 : 4 ≤ n
  · have hcap := h1.cap
    have heq := equal_any A1 A2 4 c 4 4 B1 B2 _ magB w (h1.cutHead h4) h2 (fun x hx => hb x (List.mem_of_mem_take hx)) hmb
    go_enter Tryz.func92, Tryz.ntmps92
    go_wp2_with fail
    refine heq.mono ?_
    rintro e w1 ⟨rfl, rfl⟩
    go_wp2_with fail
    go_ret
    exact ⟨rfl, rfl⟩
  · have HD : Hid (decide (bs.take 4 = magB) = false) := Lib.hid (by
      simp
      intro h
      have := congrArg List.length h
      rw [List.length_take] at this
      simp [magB] at this
      have := h1.len
      omega)
    have hlen := h1.len
    clear hlen
    go_enter Tryz.func92, Tryz.ntmps92
    go_wp2_with fail
    go_ret
    rw [HD.out]
    exact ⟨rfl, rfl⟩

set_option maxRecDepth 20000 in
set_option maxHeartbeats 400000 in
theorem cutprefix_any (A1 A2 : Option Addr) (n c B1 B2 : Nat) (bs : List Nat) (w : World) (h1 : Rd w B1 A1 n c bs) (h2 : Rd w B2 A2 4 4 magB) (hb : ∀ x ∈ bs, x < 256) (hn : n ≤ 140737488355328) :
    Calls Tryz.prog 75 #[.slice A1 n c, .slice A2 4 4] w fun e w' =>
      ((bs.take 4 = magB ∧ ∃ A' c', e = .returned (.tuple #[.slice A' (n - 4) c', .bool true]) ∧ (4 < n → Rd w B1 A' (n - 4) c' (bs.drop 4))) ∨ (bs.take 4 ≠ magB ∧ e = .returned (.tuple #[.slice A1 n c, .bool false]))) ∧ w = w' := by
  have hhp := hasprefix_any A1 A2 n c B1 B2 bs w h1 h2 hb
  have hcap := h1.cap
  by_cases he : bs.take 4 = magB
  · have h4 : 4 ≤ n := by
      have := congrArg List.length he
      rw [List.length_take] at this
      simp [magB] at this
      have := h1.len
      omega
    have HE := Lib.hid he
    have HR : Hid (4 < n → Rd w B1 (A1.map (fun x => ⟨x.block, x.off + 4, none⟩)) (n - 4) (c - 4) (bs.drop 4)) := Lib.hid (fun _ => by
      have := h1.cutFrom h4
      simpa [Addr.add] using this)
    rw [he] at hhp
    have hd : decide (magB = magB) = true := by simp
    rw [hd] at hhp
    clear he hd
    go_enter Tryz.func75, Tryz.ntmps75
    go_wp2_with fail
    refine hhp.mono ?_
    rintro e w1 ⟨rfl, rfl⟩
    go_wp2_with fail
    · go_ret2
      exact ⟨.inl ⟨HE.out, _, _, rfl, fun h => absurd h (by omega)⟩, rfl⟩
    · go_ret2
      exact ⟨.inl ⟨HE.out, _, _, rfl, HR.out⟩, rfl⟩
  · have hd : decide (bs.take 4 = magB) = false := by simp [he]
    rw [hd] at hhp
    have HE := Lib.hid he
    clear he hd
    go_enter Tryz.func75, Tryz.ntmps75
    go_wp2_with fail
    refine hhp.mono ?_
    rintro e w1 ⟨rfl, rfl⟩
    go_wp2_with fail
    go_ret2
    exact ⟨.inr ⟨HE.out, rfl⟩, rfl⟩


/-- what a function that reads from a place on comes to: a value, the place behind it, or an error -/
def RetK (w : World) (r : Except Nat (Nat × Nat)) (e : Ending) (w' : World) : Prop :=
  (match r with
    | .ok (k, a) => e = .returned (.tuple #[.int .i64 (k : Int), .int .i64 (a : Int), .nilIface])
    | .error j => e = .returned (.tuple #[.int .i64 0, .int .i64 0, errV j])) ∧ Below w.heap.size w w'

set_option maxRecDepth 20000 in
set_option maxHeartbeats 1000000 in
theorem getkind_any (A : Option Addr) (n c B : Nat) (bs : List Nat) (w : World) (h : Rd w B A n c bs) (hB : B ≤ w.heap.size) (hb : ∀ x ∈ bs, x < 256) (hn : n ≤ 140737488355328) :
    Calls Tryz.prog 54 #[.slice A n c] w (RetK w (getK bs)) := by
  have HL := Lib.hid h.len
  have hmag := mag_conv w
  have hmr := mag_rd w
  unfold magV at hmag hmr
  have hbm : Below w.heap.size w (w.alloc (.cells #[.int .u8 71, .int .u8 84, .int .u8 83, .int .u8 49] 5 (4, 5))) := (Below.refl _ _).alloc (Nat.le_refl _) _
  have hcp := cutprefix_any A _ n c B _ bs _ (h.below (hbm.mono hB)) hmr hb hn
  generalize hW : w.alloc (.cells #[.int .u8 71, .int .u8 84, .int .u8 83, .int .u8 49] 5 (4, 5)) = W at *
  go_enter Tryz.func54, Tryz.ntmps54
  go_wp2_with fail
  refine hcp.mono ?_
  rintro e w1 ⟨hr, rfl⟩
  rcases hr with ⟨hE, A', c', rfl, hR⟩ | ⟨hE, rfl⟩
  · have HE := Lib.hid hE
    clear hE
    by_cases h4 : n ≤ 4
    · have hn4 : n - 4 = 0 := by omega
      have HG : Hid (getK bs = .error 2) := Lib.hid (by
        unfold getK
        rw [if_neg (by simpa [magB] using HE.out), if_pos (by rw [HL.out]; exact h4)])
      rw [hn4] at hR ⊢
      clear hR
      go_wp2_with fail
      go_ret3
      rw [HG.out]
      exact ⟨rfl, hbm⟩
    · obtain ⟨ad, rfl, _, hc0⟩ := (hR (by omega)).at_ (k := 0) (by omega)
      rw [show ad.add 0 = ad by simp [Addr.add]] at hc0
      have hx : (bs.drop 4).getD 0 0 = bs.getD 4 0 := by simp [List.getD_eq_getElem?_getD]
      rw [hx] at hc0
      have hxb := byte_at hb 4
      have HG : Hid (getK bs = if bs.getD 4 0 = 1 ∨ bs.getD 4 0 = 2 then .ok (bs.getD 4 0, 5) else .error 6) := Lib.hid (by
        unfold getK
        rw [if_neg (by simpa [magB] using HE.out), if_neg (by rw [HL.out]; exact h4)])
      clear hx hR
      generalize bs.getD 4 0 = x at *
      by_cases hk : x = 1 ∨ x = 2
      · have hik := iskind_yes (k := (x : Int)) (by omega) W
        rw [if_pos hk] at HG
        clear hk
        go_wp2_with fail
        refine hik.mono ?_
        rintro e w2 ⟨rfl, rfl⟩
        go_wp2_with fail
        go_ret3
        rw [HG.out]
        exact ⟨rfl, hbm⟩
      · have hik := iskind_no (k := (x : Int)) (by omega) W
        rw [if_neg hk] at HG
        clear hk
        go_wp2_with fail
        refine hik.mono ?_
        rintro e w2 ⟨rfl, rfl⟩
        go_wp2_with fail
        go_ret3
        rw [HG.out]
        exact ⟨rfl, hbm⟩
  · have HG : Hid (getK bs = .error 5) := Lib.hid (by
      unfold getK
      rw [if_pos (by simpa [magB] using hE)])
    clear hE
    go_wp2_with fail
    go_ret3
    rw [HG.out]
    exact ⟨rfl, hbm⟩

end Go.Proofs.YtaebljoacffghaaGreatDoor

/-
  The contract of the program's Get: the index that bytes begin with, and how many bytes it has, or what is amiss first.
-/
namespace Go.Proofs.YtaebljoacffghaaGreatDoor
open Go.RowKit

theorem getK_err {bs : List Nat} {e : Nat} (h : getK bs = .error e) : e ≠ 0 ∧ e ≤ 9 := by
  unfold getK at h
  split at h
  · injection h with h; omega
  · split at h
    · injection h with h; omega
    · split at h
      · cases h
      · injection h with h; omega
theorem uvE_err9 {bs : List Nat} {a e : Nat} (h : uvE bs a = .error e) : e ≤ 9 := by
  have key : (ug bs a).2.2 ≤ 9 := by
    unfold ug
    split
    · rename_i hx
      have := (uat_le (Classical.choose_spec hx)).2.2
      omega
    · decide
  unfold uvE at h
  split at h
  · cases h
  · injection h with h
    omega
theorem rawE_err9 {bs : List Nat} {a e : Nat} (h : rawE bs a = .error e) : e ≤ 9 := by
  unfold rawE at h
  split at h
  · injection h with h; omega
  · cases hr : reps (uvE bs) 3 (a + 8) with
    | error e' =>
      rw [hr] at h
      injection h with h
      obtain ⟨a', ha⟩ := reps_err _ _ _ hr
      rw [← h]
      exact uvE_err9 ha
    | ok p => rw [hr] at h; cases h
theorem getL_err {bs : List Nat} {a e : Nat} (h : getL bs a = .error e) : e ≠ 0 ∧ e ≤ 9 := by
  unfold getL at h
  cases hu : uvE bs a with
  | error e' =>
    rw [hu] at h
    injection h with h
    subst h
    exact ⟨uvE_err hu, uvE_err9 hu⟩
  | ok p =>
    obtain ⟨N, v⟩ := p
    rw [hu] at h
    simp only at h
    split at h
    · injection h with h; omega
    · obtain ⟨a', ha⟩ := reps_err _ _ _ h
      exact ⟨rawE_err ha, rawE_err9 ha⟩
theorem getS_err {bs : List Nat} {a e : Nat} (h : getS bs a = .error e) : e ≠ 0 ∧ e ≤ 9 := by
  unfold getS at h
  split at h
  · injection h with h; omega
  · split at h
    · cases h
    · injection h with h; omega
theorem getS_ok {bs : List Nat} {a b : Nat} (h : getS bs a = .ok b) : b = a + 4 ∧ a + 4 ≤ bs.length := by
  unfold getS at h
  split at h
  · cases h
  · rename_i h4
    split at h
    · injection h with h; exact ⟨h.symm, by omega⟩
    · cases h

theorem getL_small {bs : List Nat} (hb : ∀ x ∈ bs, x < 256) {a : Nat} {rs : List (Nat × List Nat)} {a1 : Nat} (h : getL bs a = .ok (rs, a1)) : rs.length ≤ 65535 ∧ a1 ≤ bs.length := by
  obtain ⟨_, _, hr6, _, _, ha1, _⟩ := getL_fit hb h
  exact ⟨hr6, ha1⟩
theorem getK_small {bs : List Nat} {k a : Nat} (h : getK bs = .ok (k, a)) : (k = 1 ∨ k = 2) ∧ a = 5 ∧ 5 ≤ bs.length := by
  obtain ⟨h1, h2, _, h3⟩ := getK_ok h
  exact ⟨h1, h2, h3⟩
/-- what Get comes to -/
def RetI (w : World) (r : Except Nat (Nat × List Ent × Nat)) (e : Ending) (w' : World) : Prop :=
  match r with
  | .ok (k, es, n) => ∃ A c, e = .returned (.tuple #[.agg #[.int .i64 (k : Int), .slice A es.length c], .int .i64 (n : Int), .nilIface]) ∧ OwnE 103 w w' (.slice A es.length c) es
  | .error j => e = .returned (.tuple #[.agg #[.int .i64 0, .slice none 0 0], .int .i64 0, errV j]) ∧ Below w.heap.size w w'

theorem OwnE.past2 {t : TypeId} {w0 w1 w : World} {v : Value} {xs : List Ent} (h : OwnE t w1 w v xs) {p q : Addr} (h1 : p.block < w1.heap.size) (k1 : q.block < w1.heap.size) (hle : w0.heap.size ≤ w1.heap.size) (u u' : Value)
    (hb : Below w0.heap.size w0 ((w.setCell p u).setCell q u')) : OwnE t w0 ((w.setCell p u).setCell q u') v xs := by
  have := ownsRow_setCell_below (ownsRow_setCell_below h.row h1 u) k1 u'
  refine ⟨⟨this.1, ?_⟩, hb, h.fit⟩
  rcases this.2 with h2 | ⟨g, cap, cur, hv, hg, r⟩
  · exact .inl h2
  · exact .inr ⟨g, cap, cur, hv, Nat.le_trans hle hg, r⟩
theorem head_box (w : World) : BoxL (w.alloc (.cells #[.int .i64 0, .slice none 0 0] 86)) w.heap.size [.int .i64 0, .slice none 0 0] := BoxL.new w [.int .i64 0, .slice none 0 0] _

set_option maxRecDepth 20000 in
set_option maxHeartbeats 2000000 in
theorem iget_any (A : Option Addr) (n c B : Nat) (bs : List Nat) (w : World) (h : Rd w B A n c bs) (hB : B ≤ w.heap.size) (hb : ∀ x ∈ bs, x < 256) (hn : n ≤ 140737488355328) :
    Calls Tryz.prog 34 #[.slice A n c] w (RetI w (getI bs)) := by
  have HL := Lib.hid h.len
  have HB := Lib.hid hB
  have HBB := Lib.hid hb
  obtain ⟨W, hW⟩ : ∃ W, W = w.alloc (.cells #[.int .i64 0, .slice none 0 0] 86) := ⟨_, rfl⟩
  have hbW : Below w.heap.size w W := by rw [hW]; exact (Below.refl _ _).alloc (Nat.le_refl _) _
  have hbx : BoxL W w.heap.size [.int .i64 0, .slice none 0 0] := by rw [hW]; exact head_box w
  have HH : Hid (∀ w', Below w.heap.size w w' → Rd w' B A n c bs) := Lib.hid (fun w' hb => h.below (hb.mono hB))
  have hgk := getkind_any A n c B bs W (HH.out W hbW) (Nat.le_trans hB hbW.size) hb hn
  replace hW := Lib.hid hW
  clear h hB hb
  go_enter Tryz.func34, Tryz.ntmps34
  go_wp2_with fail
  rw [← hW.out]
  cases hk : getK bs with
  | error j =>
    have HJ := Lib.hid (getK_err hk).1
    have HG : Hid (getI bs = .error j) := Lib.hid (by unfold getI; rw [hk])
    rw [hk] at hgk
    clear hk
    refine hgk.mono ?_
    rintro e w1 ⟨he, hb1⟩
    simp only at he
    subst he
    rw [errV_no HJ.out]
    have b1 := hbx.below hb1
    obtain ⟨z0, z1⟩ := b1.get2
    obtain ⟨zf0, zf1⟩ := b1.free2
    have hv := (b1.all2 (.int .i64 0) (.slice none 0 0)).get2
    have hbz := below_set2 (hbW.trans (hb1.mono hbW.size)) (Nat.le_refl _) (.int .i64 0) (.slice none 0 0)
    go_wp2_with fail
    obtain ⟨u0, u1⟩ := hv
    refine bodyPost_ret (by simp [results, Tryz.results34, go_sem, u0, u1]; try rfl) rfl ?_
    rw [HG.out]
    exact ⟨by rw [errV_no HJ.out], hbz⟩
  | ok p =>
    obtain ⟨k, a⟩ := p
    obtain ⟨hk12, rfl, hl5⟩ := getK_small hk
    have HK := Lib.hid hk
    have HK12 := Lib.hid hk12
    rw [hk] at hgk
    clear hk hk12
    refine hgk.mono ?_
    rintro e w1 ⟨he, hb1⟩
    simp only at he
    subst he
    have hbw1 := hbW.trans (hb1.mono hbW.size)
    have b1 := hbx.below hb1
    have HLT1 := Lib.hid b1.lt
    have hgl := getlist_any A n c B 5 bs w1 (HH.out w1 hbw1) (Nat.le_trans HB.out hbw1.size) HBB.out hn (by rw [← HL.out]; exact hl5)
    clear hb1 hbx hbW hl5
    cases hl : getL bs 5 with
    | error j =>
      have HJ := Lib.hid (getL_err hl).1
      have HG : Hid (getI bs = .error j) := Lib.hid (by unfold getI; rw [HK.out]; simp only; rw [hl])
      rw [hl] at hgl
      clear hl
      go_wp2_with fail
      refine hgl.mono ?_
      rintro e w2 ⟨rfl, hb2⟩
      rw [errV_no HJ.out]
      have b2 := b1.below hb2
      obtain ⟨z0, z1⟩ := b2.get2
      obtain ⟨zf0, zf1⟩ := b2.free2
      have hv := (b2.all2 (.int .i64 0) (.slice none 0 0)).get2
      have hbz := below_set2 (hbw1.trans (hb2.mono hbw1.size)) (Nat.le_refl _) (.int .i64 0) (.slice none 0 0)
      go_wp2_with fail
      obtain ⟨u0, u1⟩ := hv
      refine bodyPost_ret (by simp [results, Tryz.results34, go_sem, u0, u1]; try rfl) rfl ?_
      rw [HG.out]
      exact ⟨by rw [errV_no HJ.out], hbz⟩
    | ok q =>
      obtain ⟨rs, a1⟩ := q
      obtain ⟨hr6, ha1⟩ := getL_small HBB.out hl
      have HLL := Lib.hid hl
      rw [hl] at hgl
      clear hl
      go_wp2_with fail
      refine hgl.mono ?_
      rintro e w2 ⟨A2, c2, rfl, hown⟩
      obtain ⟨es, HES⟩ : ∃ es, Hid (es = rs.map progE) := ⟨_, Lib.hid rfl⟩
      have HEL : Hid (rs.length = es.length) := Lib.hid (by rw [HES.out, List.length_map])
      have HLN : Hid (∀ e ∈ es, 0 ≤ e.ln ∧ e.ln ≤ 2147483647) := Lib.hid (by
        rw [HES.out]
        intro e he
        obtain ⟨r, _, rfl⟩ := List.mem_map.1 he
        exact progE_len r)
      rw [← HES.out, HEL.out] at hown
      rw [HEL.out] at hr6 ⊢
      obtain ⟨m, HM⟩ : ∃ m, Hid (m = es.length) := ⟨_, Lib.hid rfl⟩
      rw [← HM.out] at hown hr6 ⊢
      have b2 := b1.below hown.bel
      have hbw2 := hbw1.trans (hown.bel.mono hbw1.size)
      have hss := skipsum_any A n c B a1 bs w2 (HH.out w2 hbw2) (Nat.le_trans HB.out hbw2.size) HBB.out hn (by rw [← HL.out]; exact ha1)
      clear hgk hgl b1
      cases hs : getS bs a1 with
      | error j =>
        have HJ := Lib.hid (getS_err hs).1
        have HG : Hid (getI bs = .error j) := Lib.hid (by unfold getI; rw [HK.out]; simp only; rw [HLL.out]; simp only; rw [hs])
        rw [hs] at hss
        clear hs
        go_wp2_with fail
        refine hss.mono ?_
        rintro e w3 ⟨he, hb3⟩
        simp only at he
        subst he
        rw [errV_no HJ.out]
        have b3 := b2.below hb3
        obtain ⟨z0, z1⟩ := b3.get2
        obtain ⟨zf0, zf1⟩ := b3.free2
        have hv := (b3.all2 (.int .i64 0) (.slice none 0 0)).get2
        have hbz := below_set2 (hbw2.trans (hb3.mono hbw2.size)) (Nat.le_refl _) (.int .i64 0) (.slice none 0 0)
        go_wp2_with fail
        obtain ⟨u0, u1⟩ := hv
        refine bodyPost_ret (by simp [results, Tryz.results34, go_sem, u0, u1]; try rfl) rfl ?_
        rw [HG.out]
        exact ⟨by rw [errV_no HJ.out], hbz⟩
      | ok a2 =>
        obtain ⟨hae, ha4⟩ := getS_ok hs
        have ha2 : a2 ≤ n := by rw [← HL.out, hae]; exact ha4
        have HGy : Hid (May k es → lensN es = bs.length - a2 → getI bs = .ok (k, es, a2)) := Lib.hid (by
          unfold getI; rw [HK.out]; simp only; rw [HLL.out]; simp only; rw [hs, HES.out]
          exact fun h1 h2 => if_pos ⟨h1, h2⟩)
        have HGn : Hid (¬ (May k es ∧ lensN es = bs.length - a2) → getI bs = .error 8) := Lib.hid (by
          unfold getI; rw [HK.out]; simp only; rw [HLL.out]; simp only; rw [hs, HES.out]
          exact fun h => if_neg h)
        rw [hs] at hss
        clear hs hae ha4
        go_wp2_with fail
        refine hss.mono ?_
        rintro e w3 ⟨he, hb3⟩
        simp only at he
        subst he
        have b3 := b2.below hb3
        have hown3 := hown.keep hb3
        have hbw3 := hbw2.trans (hb3.mono hbw2.size)
        clear hss b2 hown hbw2 hb3
        have hrd := hown3.rd
        have hle : IntKind.u64.wrap ((n : Int) - (a2 : Int)) = ((n - a2 : Nat) : Int) := by
          rw [show (n : Int) - (a2 : Int) = ((n - a2 : Nat) : Int) by omega]
          exact wrap_le _ (by omega)
        obtain ⟨V, hV⟩ : ∃ V, V = w3.alloc (.cells #[.int .i64 (k : Int), .slice A2 m c2] 86) := ⟨_, rfl⟩
        have hbV : Below w3.heap.size w3 V := by rw [hV]; exact (Below.refl _ _).alloc (Nat.le_refl _) _
        have bV := BoxL.new w3 [.int .i64 (k : Int), .slice A2 m c2] 86
        rw [show w3.alloc (.cells ([.int .i64 (k : Int), .slice A2 m c2] : List Value).toArray 86) = V by rw [hV]] at bV
        have b4 := b3.below hbV
        have hownV := hown3.keep hbV
        have hmb := maybe_any (k : Int) A2 m c2 _ es V (hrd.below hbV) hbV.size (by omega)
        have hbwV := hbw3.trans (hbV.mono hbw3.size)
        replace hV := Lib.hid hV
        clear b3 hown3 hrd hbV hbw3
        go_wp2_with fail
        rw [← hV.out]
        refine hmb.mono ?_
        rintro e w5 ⟨b, hbm, rfl, hb5⟩
        replace hbm := Lib.hid hbm
        have b5 := b4.below hb5
        have c5 := bV.below hb5
        have hown5 := hownV.keep hb5
        have hbw5 := hbwV.trans (hb5.mono hbwV.size)
        clear b4 bV hownV hbwV hb5 hmb
        cases b with
        | false =>
          have HNM : Hid (¬ May k es) := Lib.hid (fun h => by have := hbm.out.2 h; cases this)
          obtain ⟨z0, z1⟩ := b5.get2
          obtain ⟨zf0, zf1⟩ := b5.free2
          have hv := (b5.all2 (.int .i64 0) (.slice none 0 0)).get2
          have hbz := below_set2 hbw5 (Nat.le_refl _) (.int .i64 0) (.slice none 0 0)
          go_wp2_with fail
          obtain ⟨u0, u1⟩ := hv
          refine bodyPost_ret (by simp [results, Tryz.results34, go_sem, u0, u1]; try rfl) rfl ?_
          rw [HGn.out (fun h => HNM.out h.1)]
          exact ⟨rfl, hbz⟩
        | true =>
          have HYM : Hid (May k es) := Lib.hid (hbm.out.1 rfl)
          have hrd5 := hown5.rd
          have hls := lens_any A2 m c2 _ es w5 hrd5 (Nat.le_refl _) hr6 HLN.out
          clear hrd5
          obtain ⟨L, HLE⟩ : ∃ L, Hid (L = lensN es) := ⟨_, Lib.hid rfl⟩
          rw [← HLE.out] at hls
          obtain ⟨D, HD⟩ : ∃ D, Hid (D = n - a2) := ⟨_, Lib.hid rfl⟩
          rw [← HD.out] at hle
          go_wp2_with fail
          refine hls.mono ?_
          rintro e w6 ⟨rfl, hb6⟩
          have b6 := b5.below hb6
          have c6 := c5.below hb6
          have hown6 := hown5.keep hb6
          have hbw6 := hbw5.trans (hb6.mono hbw5.size)
          clear b5 c5 hown5 hbw5 hb6 hls
          obtain ⟨z0, z1⟩ := b6.get2
          obtain ⟨zf0, zf1⟩ := b6.free2
          obtain ⟨y0, y1⟩ := c6.get2
          by_cases hLD : L = D
          · have hne : ((L : Int) == (D : Int)) = true := by simp; omega
            have hv := (b6.all2 (.int .i64 (k : Int)) (.slice A2 m c2)).get2
            have hbz := below_set2 hbw6 (Nat.le_refl _) (.int .i64 (k : Int)) (.slice A2 m c2)
            replace hLD := Lib.hid hLD
            go_wp2_with fail
            obtain ⟨u0, u1⟩ := hv
            refine bodyPost_ret (by simp [results, Tryz.results34, go_sem, u0, u1]; try rfl) rfl ?_
            rw [HGy.out HYM.out (by rw [← HLE.out, hLD.out, HD.out, HL.out])]
            refine ⟨A2, c2, by rw [HM.out], ?_⟩
            rw [← HM.out]
            exact hown6.past2 (p := ⟨w.heap.size, 0, none⟩) (q := ⟨w.heap.size, 1, none⟩) HLT1.out HLT1.out hbw1.size _ _ hbz
          · have hne : ((L : Int) == (D : Int)) = false := by simp; omega
            have hv := (b6.all2 (.int .i64 0) (.slice none 0 0)).get2
            have hbz := below_set2 hbw6 (Nat.le_refl _) (.int .i64 0) (.slice none 0 0)
            replace hLD := Lib.hid hLD
            go_wp2_with fail
            obtain ⟨u0, u1⟩ := hv
            refine bodyPost_ret (by simp [results, Tryz.results34, go_sem, u0, u1]; try rfl) rfl ?_
            rw [HGn.out (fun h => hLD.out (by rw [HLE.out, h.2, HD.out, HL.out]))]
            exact ⟨rfl, hbz⟩

end Go.Proofs.YtaebljoacffghaaGreatDoor

/-
  What may be amiss with an index is told by a number of 1 to 9.
-/
namespace Go.Proofs.YtaebljoacffghaaGreatDoor

theorem getI_err {bs : List Nat} {e : Nat} (h : getI bs = .error e) : e ≠ 0 ∧ e ≤ 9 := by
  unfold getI at h
  cases hk : getK bs with
  | error j => rw [hk] at h; injection h with h; rw [← h]; exact getK_err hk
  | ok p =>
    obtain ⟨k, a⟩ := p
    rw [hk] at h
    simp only at h
    cases hl : getL bs a with
    | error j => rw [hl] at h; injection h with h; rw [← h]; exact getL_err hl
    | ok q =>
      obtain ⟨rs, a1⟩ := q
      rw [hl] at h
      simp only at h
      cases hs : getS bs a1 with
      | error j => rw [hs] at h; injection h with h; rw [← h]; exact getS_err hs
      | ok a2 =>
        rw [hs] at h
        simp only at h
        split at h
        · cases h
        · injection h with h; omega

end Go.Proofs.YtaebljoacffghaaGreatDoor
