/-
  The contract of the program's getEntry: an entry from a place on.
-/
import Derived.Test.YtgmnhfkmneohcaaIdxNum
import Derived.Test.YtgmnhfkmneohcaaEnts
import Derived.Test.YtgmnhfkmneohcaaBoxL
import Derived.Test.YtgmnhfkmneohcaaUvGet
import Derived.Deep.RegionWith
import Derived.Deep.RegionHeld3
import Derived.Deep.CutBlock
import Derived.Handy
namespace Go.Proofs.Ytgmnhfkmneohcaa
open Go.RowKit

/-- what getEntry comes to -/
def RetEn (w : World) (r : Except Nat ((Nat × List Nat) × Nat)) (e : Ending) (w' : World) : Prop :=
  (match r with
    | .ok (x, a) => e = .returned (.tuple #[.agg #[.int .i64 (progE x).mn, .int .i64 (progE x).mx, .int .i64 (progE x).ct, .int .i64 (progE x).ln], .int .i64 (a : Int), .nilIface])
    | .error j => e = .returned (.tuple #[.agg #[.int .i64 0, .int .i64 0, .int .i64 0, .int .i64 0], .int .i64 0, errV j])) ∧ Below w.heap.size w w'

/-- the cells of three numbers of which some are read -/
def threeV (vs : List Nat) : List Value := [.int .u64 ((vs.getD 0 0 : Nat) : Int), .int .u64 ((vs.getD 1 0 : Nat) : Int), .int .u64 ((vs.getD 2 0 : Nat) : Int)]
/-- a loop's relation: some of three numbers are read -/
def AtThree (bs : List Nat) (w : World) (a0 g : Nat) (at_ i : Value) (wr : World) : Prop :=
  ∃ (vs : List Nat) (a : Nat), vs.length ≤ 3 ∧ a ≤ bs.length ∧ (∀ x ∈ vs, x ≤ 18446744073709551615) ∧ AtReps (uvE bs) 3 a0 vs a ∧ at_ = .int .i64 (a : Int) ∧ i = .int .i64 (vs.length : Int) ∧ BoxL wr (g + 1) (threeV vs) ∧
    BoxL wr g [.int .i64 0, .int .i64 0, .int .i64 0, .int .i64 0] ∧ Below w.heap.size w wr

theorem wrap_s64 {n : Nat} (h : n ≤ 18446744073709551615) : IntKind.i64.wrap (n : Int) = s64n n := by
  rw [IntKind.wrap_i64]
  unfold s64n
  split <;> omega
theorem wrap_add (f x : Nat) : IntKind.u64.wrap ((f : Int) + (x : Int)) = (((f + x) % 18446744073709551616 : Nat) : Int) := by
  simp [IntKind.wrap, IntKind.bits, IntKind.signed]
theorem ent_box (w : World) : BoxL (w.alloc (.cells #[.int .i64 0, .int .i64 0, .int .i64 0, .int .i64 0] 48)) w.heap.size [.int .i64 0, .int .i64 0, .int .i64 0, .int .i64 0] := BoxL.new w [.int .i64 0, .int .i64 0, .int .i64 0, .int .i64 0] _
theorem BoxL.get4 {w : World} {g : Nat} {a b c d : Value} (h : BoxL w g [a, b, c, d]) : w.cell? ⟨g, 0, none⟩ = some a ∧ w.cell? ⟨g, 1, none⟩ = some b ∧ w.cell? ⟨g, 2, none⟩ = some c ∧ w.cell? ⟨g, 3, none⟩ = some d := ⟨h.cell 0 _ rfl, h.cell 1 _ rfl, h.cell 2 _ rfl, h.cell 3 _ rfl⟩
theorem BoxL.free4 {w : World} {g : Nat} {a b c d : Value} (h : BoxL w g [a, b, c, d]) : w.frozen? ⟨g, 0, none⟩ = false ∧ w.frozen? ⟨g, 1, none⟩ = false ∧ w.frozen? ⟨g, 2, none⟩ = false ∧ w.frozen? ⟨g, 3, none⟩ = false := ⟨h.free 0 _ rfl, h.free 1 _ rfl, h.free 2 _ rfl, h.free 3 _ rfl⟩
theorem BoxL.all4 {w : World} {g : Nat} {a0 a1 a2 a3 : Value} (h : BoxL w g [a0, a1, a2, a3]) (u0 u1 u2 u3 : Value) : BoxL ((((w.setCell ⟨g, 0, none⟩ u0).setCell ⟨g, 1, none⟩ u1).setCell ⟨g, 2, none⟩ u2).setCell ⟨g, 3, none⟩ u3) g [u0, u1, u2, u3] := (((h.put 0 u0).put 1 u1).put 2 u2).put 3 u3
theorem BoxL.oth4 {w : World} {g : Nat} {l : List Value} (h : BoxL w g l) {d : Nat} (hd : g ≠ d) (u0 u1 u2 u3 : Value) : BoxL ((((w.setCell ⟨d, 0, none⟩ u0).setCell ⟨d, 1, none⟩ u1).setCell ⟨d, 2, none⟩ u2).setCell ⟨d, 3, none⟩ u3) g l := (((h.oth hd 0 u0).oth hd 1 u1).oth hd 2 u2).oth hd 3 u3
theorem below_set4 {B : Nat} {a w : World} (h : Below B a w) {d : Nat} (hd : B ≤ d) (u0 u1 u2 u3 : Value) : Below B a ((((w.setCell ⟨d, 0, none⟩ u0).setCell ⟨d, 1, none⟩ u1).setCell ⟨d, 2, none⟩ u2).setCell ⟨d, 3, none⟩ u3) :=
  below_set (below_set (below_set (below_set h hd 0 u0) hd 1 u1) hd 2 u2) hd 3 u3

set_option maxRecDepth 20000 in
set_option maxHeartbeats 1000000 in
theorem getentry_any (A : Option Addr) (n c B a : Nat) (bs : List Nat) (w : World) (h : Rd w B A n c bs) (hB : B ≤ w.heap.size) (hb : ∀ x ∈ bs, x < 256) (hn : n ≤ 100000000) (ha : a ≤ n) :
    Calls Try.prog 35 #[.slice A n c, .int .i64 (a : Int)] w (RetEn w (rawE bs a)) := by
  have HL := Lib.hid h.len
  have HH := Lib.hid h
  have HB := Lib.hid hB
  have HBB := Lib.hid hb
  have hcap := h.cap
  by_cases h8 : n < a + 8
  · have HG : Hid (rawE bs a = .error 2) := Lib.hid (by unfold rawE; rw [if_pos (by rw [HL.out]; exact h8)])
    clear h hB hb
    go_enter Try.func35, Try.ntmps35
    go_wp2_with fail
    go_returns
    rw [HG.out]
    exact ⟨rfl, (Below.refl _ _).alloc (Nat.le_refl _) _⟩
  · have h8' : a + 8 ≤ n := by omega
    have hcut := h.cutTo (a := a) (n := 8) h8'
    have hlt8 : ∀ x ∈ (bs.drop a).take 8, x < 256 := fun x hx => hb x (List.mem_of_mem_drop (List.mem_of_mem_take hx))
    have hb8 := numB_lt _ hlt8
    rw [show ((bs.drop a).take 8).length = 8 by rw [List.length_take, List.length_drop, h.len]; omega] at hb8
    have HF : Hid (numB ((bs.drop a).take 8) = numB ((bs.drop a).take 8)) := Lib.hid rfl
    have hnum := fun w' (hbl : Below w.heap.size w w') => inumber_any _ _ _ B _ w' (hcut.below (hbl.mono hB)) hlt8 (by omega)
    have HG : Hid (rawE bs a = match reps (uvE bs) 3 (a + 8) with | .error e => .error e | .ok (vs, a1) => .ok ((numB ((bs.drop a).take 8), vs), a1)) := Lib.hid (by
      unfold rawE
      rw [if_neg (by rw [HL.out]; exact h8)]
      rfl)
    clear HF hcut
    generalize numB ((bs.drop a).take 8) = f at *
    have hf : f ≤ 18446744073709551615 := by omega
    have hbx := ent_box w
    have hbl : Below w.heap.size w (w.alloc (.cells #[.int .i64 0, .int .i64 0, .int .i64 0, .int .i64 0] 48)) := (Below.refl _ _).alloc (Nat.le_refl _) _
    have hnu := hnum _ hbl
    clear h hB hb hb8 hnum hlt8
    go_enter Try.func35, Try.ntmps35
    go_wp2_with fail
    refine hnu.mono ?_
    rintro e w1 ⟨rfl, rfl⟩
    have hb3 := BoxL.new (w.alloc (.cells #[.int .i64 0, .int .i64 0, .int .i64 0, .int .i64 0] 48)) (threeV []) 78
    unfold threeV at hb3
    rw [show (w.alloc (.cells #[.int .i64 0, .int .i64 0, .int .i64 0, .int .i64 0] 48)).heap.size = w.heap.size + 1 by simp] at hb3
    have hbx2 := hbx.onA (.cells #[.int .u64 0, .int .u64 0, .int .u64 0] 78)
    have hbl2 := hbl.alloc hbl.size (.cells #[.int .u64 0, .int .u64 0, .int .u64 0] 78)
    clear hnu
    go_wp2_with fail
    go_loopw [1, 29] (fun x i wr => AtThree bs w (a + 8) w.heap.size x i wr) (fun _ i _ => 3 - (intOf i).toNat)
    case atStart => exact ⟨[], a + 8, by simp, by rw [HL.out]; exact h8', by simp, AtReps.zero _ _, rfl, rfl, hb3, hbx2, hbl2⟩
    case round =>
      obtain ⟨vs, at2, hv3, ha2, hvb, hat, rfl, rfl, b8, b4, hbw⟩ := hrel
      have ha2n : at2 ≤ n := by rw [← HL.out]; exact ha2
      clear hb3 hbx2 hbl2 hbx hbl ha2
      by_cases hlt : vs.length < 3
      · have hug := uget_all A n c B bs (at2 : Int) wr (HH.out.below (hbw.mono HB.out)) HBB.out hn (by omega)
        have HAT := Lib.hid hat
        have HVB := Lib.hid hvb
        have HLT := Lib.hid hlt
        clear hat hvb hv3
        obtain ⟨z0, z1, z2, z3⟩ := b4.get4
        obtain ⟨zf0, zf1, zf2, zf3⟩ := b4.free4
        obtain ⟨y0, y1, y2⟩ := BoxL.get3 b8
        obtain ⟨yf0, yf1, yf2⟩ := BoxL.free3 b8
        rcases vs with _ | ⟨x0, _ | ⟨x1, _ | ⟨x2, r⟩⟩⟩
        · clear hlt
          go_wp2_with fail
          refine hug.mono ?_
          rintro e w9 ⟨v, m, k', hu, rfl, rfl⟩
          have hvl := (uat_le hu).1
          have hum := (uat_le hu).2.1
          have HU := Lib.hid hu
          rcases (uat_le hu).2.2 with rfl | rfl | rfl
          · have hin := (uat_in HBB.out hu).2.1
            clear hu
            rw [show errV 0 = .nilIface from rfl]
            go_wp2_with fail
            go_roundw
            case rel => exact ⟨[v], at2 + m, by simp, hin, (by have := HVB.out; simp at this ⊢; simp [*]), HAT.out.succ HLT.out (uvE_ok HU.out), by go_num, by go_num, b8.put 0 _, b4.oth (by omega) 0 _, below_set hbw (by omega) 0 _⟩
            case measure => simp [intOf]
          · clear hu
            rw [show errV 2 = .iface 50 (.int .i64 2) from rfl]
            go_wp2_with fail
            obtain ⟨u0, u1, u2, u3⟩ := (b4.all4 (.int .i64 0) (.int .i64 0) (.int .i64 0) (.int .i64 0)).get4
            have hbz := below_set4 hbw (Nat.le_refl _) (.int .i64 0) (.int .i64 0) (.int .i64 0) (.int .i64 0)
            refine bodyPost_ret (by simp [results, Try.results35, go_sem, u0, u1, u2, u3]; try rfl) rfl ?_
            rw [HG.out, HAT.out.bad HLT.out (uvE_bad HU.out (by decide))]
            exact ⟨rfl, hbz⟩
          · clear hu
            rw [show errV 3 = .iface 50 (.int .i64 3) from rfl]
            go_wp2_with fail
            obtain ⟨u0, u1, u2, u3⟩ := (b4.all4 (.int .i64 0) (.int .i64 0) (.int .i64 0) (.int .i64 0)).get4
            have hbz := below_set4 hbw (Nat.le_refl _) (.int .i64 0) (.int .i64 0) (.int .i64 0) (.int .i64 0)
            refine bodyPost_ret (by simp [results, Try.results35, go_sem, u0, u1, u2, u3]; try rfl) rfl ?_
            rw [HG.out, HAT.out.bad HLT.out (uvE_bad HU.out (by decide))]
            exact ⟨rfl, hbz⟩
        · clear hlt
          go_wp2_with fail
          refine hug.mono ?_
          rintro e w9 ⟨v, m, k', hu, rfl, rfl⟩
          have hvl := (uat_le hu).1
          have hum := (uat_le hu).2.1
          have HU := Lib.hid hu
          rcases (uat_le hu).2.2 with rfl | rfl | rfl
          · have hin := (uat_in HBB.out hu).2.1
            clear hu
            rw [show errV 0 = .nilIface from rfl]
            go_wp2_with fail
            go_roundw
            case rel => exact ⟨[x0, v], at2 + m, by simp, hin, (by have := HVB.out; simp at this ⊢; simp [*]), HAT.out.succ HLT.out (uvE_ok HU.out), by go_num, by go_num, b8.put 1 _, b4.oth (by omega) 1 _, below_set hbw (by omega) 1 _⟩
            case measure => simp [intOf]
          · clear hu
            rw [show errV 2 = .iface 50 (.int .i64 2) from rfl]
            go_wp2_with fail
            obtain ⟨u0, u1, u2, u3⟩ := (b4.all4 (.int .i64 0) (.int .i64 0) (.int .i64 0) (.int .i64 0)).get4
            have hbz := below_set4 hbw (Nat.le_refl _) (.int .i64 0) (.int .i64 0) (.int .i64 0) (.int .i64 0)
            refine bodyPost_ret (by simp [results, Try.results35, go_sem, u0, u1, u2, u3]; try rfl) rfl ?_
            rw [HG.out, HAT.out.bad HLT.out (uvE_bad HU.out (by decide))]
            exact ⟨rfl, hbz⟩
          · clear hu
            rw [show errV 3 = .iface 50 (.int .i64 3) from rfl]
            go_wp2_with fail
            obtain ⟨u0, u1, u2, u3⟩ := (b4.all4 (.int .i64 0) (.int .i64 0) (.int .i64 0) (.int .i64 0)).get4
            have hbz := below_set4 hbw (Nat.le_refl _) (.int .i64 0) (.int .i64 0) (.int .i64 0) (.int .i64 0)
            refine bodyPost_ret (by simp [results, Try.results35, go_sem, u0, u1, u2, u3]; try rfl) rfl ?_
            rw [HG.out, HAT.out.bad HLT.out (uvE_bad HU.out (by decide))]
            exact ⟨rfl, hbz⟩
        · clear hlt
          go_wp2_with fail
          refine hug.mono ?_
          rintro e w9 ⟨v, m, k', hu, rfl, rfl⟩
          have hvl := (uat_le hu).1
          have hum := (uat_le hu).2.1
          have HU := Lib.hid hu
          rcases (uat_le hu).2.2 with rfl | rfl | rfl
          · have hin := (uat_in HBB.out hu).2.1
            clear hu
            rw [show errV 0 = .nilIface from rfl]
            go_wp2_with fail
            go_roundw
            case rel => exact ⟨[x0, x1, v], at2 + m, by simp, hin, (by have := HVB.out; simp at this ⊢; simp [*]), HAT.out.succ HLT.out (uvE_ok HU.out), by go_num, by go_num, b8.put 2 _, b4.oth (by omega) 2 _, below_set hbw (by omega) 2 _⟩
            case measure => simp [intOf]
          · clear hu
            rw [show errV 2 = .iface 50 (.int .i64 2) from rfl]
            go_wp2_with fail
            obtain ⟨u0, u1, u2, u3⟩ := (b4.all4 (.int .i64 0) (.int .i64 0) (.int .i64 0) (.int .i64 0)).get4
            have hbz := below_set4 hbw (Nat.le_refl _) (.int .i64 0) (.int .i64 0) (.int .i64 0) (.int .i64 0)
            refine bodyPost_ret (by simp [results, Try.results35, go_sem, u0, u1, u2, u3]; try rfl) rfl ?_
            rw [HG.out, HAT.out.bad HLT.out (uvE_bad HU.out (by decide))]
            exact ⟨rfl, hbz⟩
          · clear hu
            rw [show errV 3 = .iface 50 (.int .i64 3) from rfl]
            go_wp2_with fail
            obtain ⟨u0, u1, u2, u3⟩ := (b4.all4 (.int .i64 0) (.int .i64 0) (.int .i64 0) (.int .i64 0)).get4
            have hbz := below_set4 hbw (Nat.le_refl _) (.int .i64 0) (.int .i64 0) (.int .i64 0) (.int .i64 0)
            refine bodyPost_ret (by simp [results, Try.results35, go_sem, u0, u1, u2, u3]; try rfl) rfl ?_
            rw [HG.out, HAT.out.bad HLT.out (uvE_bad HU.out (by decide))]
            exact ⟨rfl, hbz⟩
        · simp at hlt
          omega
      · obtain ⟨x, y, z, rfl⟩ : ∃ x y z, vs = [x, y, z] := by
          match vs, hv3, hlt with
          | [x, y, z], _, _ => exact ⟨x, y, z, rfl⟩
          | [], _, h => exact absurd (show ([] : List Nat).length < 3 by simp) h
          | [_], _, h => exact absurd (show 1 < 3 by omega) h
          | [_, _], _, h => exact absurd (show 2 < 3 by omega) h
          | _ :: _ :: _ :: _ :: _, h, _ => exact absurd h (by simp)
        have hx : x ≤ 18446744073709551615 := hvb x (by simp)
        have hy : y ≤ 18446744073709551615 := hvb y (by simp)
        have hz : z ≤ 18446744073709551615 := hvb z (by simp)
        have HR : Hid (rawE bs a = .ok ((f, [x, y, z]), at2)) := Lib.hid (by rw [HG.out, hat.done hlt])
        have HP : Hid (progE (f, [x, y, z]) = ⟨s64n f, s64n ((f + x) % 18446744073709551616), smallN y, smallN z⟩) := Lib.hid rfl
        have hs1 : IntKind.i64.wrap (f : Int) = s64n f := wrap_s64 hf
        have hadd : IntKind.u64.wrap ((f : Int) + (x : Int)) = (((f + x) % 18446744073709551616 : Nat) : Int) := wrap_add f x
        have hs2 : IntKind.i64.wrap (((f + x) % 18446744073709551616 : Nat) : Int) = s64n ((f + x) % 18446744073709551616) := wrap_s64 (by omega)
        have hsy := fun w => small_any y w hy
        have hsz := fun w => small_any z w hz
        have fy := smallN_le y
        have fz := smallN_le z
        have hgl : ((f + x) % 18446744073709551616) ≤ 18446744073709551615 := by omega
        have fm := s64n_fit hf
        have fx := s64n_fit hgl
        clear hat hvb hv3 hlt
        generalize (f + x) % 18446744073709551616 = G at *
        generalize s64n f = mn at *
        generalize s64n G = mx at *
        generalize smallN y = cy at *
        generalize smallN z = lz at *
        replace hx := Lib.hid hx
        obtain ⟨y0, y1, y2⟩ := BoxL.get3 b8
        simp only [List.getD_cons_zero, List.getD_cons_succ] at y0 y1 y2
        obtain ⟨z0, z1, z2, z3⟩ := b4.get4
        obtain ⟨zf0, zf1, zf2, zf3⟩ := b4.free4
        go_wp2_with fail
        have b8d := b8.drew
        have b4d := b4.drew
        clear y0 y1 y2
        have hs' := (BoxL.get3 ((b8.oth4 (d := w.heap.size) (by omega) (.int .i64 mn) (.int .i64 mx) (.int .i64 cy) (.int .i64 lz)).drew)).2
        unfold threeV at hs'
        simp only [List.getD_cons_zero, List.getD_cons_succ] at hs'
        have hv := (b4.all4 (.int .i64 mn) (.int .i64 mx) (.int .i64 cy) (.int .i64 lz)).drew.get4
        have hbz := (below_set4 hbw (Nat.le_refl _) (.int .i64 mn) (.int .i64 mx) (.int .i64 cy) (.int .i64 lz)).drew
        clear b8 b4
        unfold threeV at b8d
        simp only [List.getD_cons_zero, List.getD_cons_succ] at b8d
        obtain ⟨y0, y1, y2⟩ := BoxL.get3 b8d
        obtain ⟨d0, d1, d2, d3⟩ := b4d.get4
        obtain ⟨df0, df1, df2, df3⟩ := b4d.free4
        have hs := (BoxL.get3 (b8d.oth4 (d := w.heap.size) (by omega) (.int .i64 mn) (.int .i64 mx) (.int .i64 cy) (.int .i64 lz))).2
        clear y0
        go_region_held3 (fun w' => w'.cell? ⟨w.heap.size + 1, 1, none⟩ = some (.int .u64 (y : Int)) ∧ w'.cell? ⟨w.heap.size + 1, 2, none⟩ = some (.int .u64 (z : Int)))
          (first | exact ⟨y1, y2⟩ | exact hs' | exact hs) (first
          | (go_at_call_of 38 y; refine (hsy _).mono ?_; rintro e w9 ⟨rfl, rfl⟩)
          | (go_at_call_of 38 z; refine (hsz _).mono ?_; rintro e w9 ⟨rfl, rfl⟩))
        all_goals
          go_wp2_with fail
          obtain ⟨u0, u1, u2, u3⟩ := hv
          refine bodyPost_ret (by simp [results, Try.results35, go_sem, u0, u1, u2, u3]; try rfl) rfl ?_
          rw [HR.out]
          refine ⟨?_, hbz⟩
          simp only
          rw [HP.out]

end Go.Proofs.Ytgmnhfkmneohcaa
