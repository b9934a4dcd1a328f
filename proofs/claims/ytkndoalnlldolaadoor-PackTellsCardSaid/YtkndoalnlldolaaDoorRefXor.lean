/-
  The contract of the reference's Code: a value's code in a state, bit by bit, in new memory, and the state behind it.
-/
import Derived.Test.YtkndoalnlldolaaDoorPlain
import Derived.Test.YtkndoalnlldolaaDoorRefs
import Derived.Test.YtkndoalnlldolaaDoorWords
import Derived.Deep.DeepCutAuto
import Derived.Deep.CutBlock
import Derived.Deep.RegionWith
import Derived.BigRegion
import Derived.Deep.RegionHeld3
import Derived.Laws.Bits64
namespace Go.Proofs.YtkndoalnlldolaaDoor
open Go.RowKit

/-- what the reference's Code comes to -/
def RetRX (w : World) (cd : List Bool) (v l k : Nat) (e : Ending) (w' : World) : Prop :=
  ∃ A c, e = .returned (.tuple #[.slice A cd.length c, .agg #[.int .u64 (v : Int), .int .i64 (l : Int), .int .i64 (k : Int)]]) ∧ Own w w' (.slice A cd.length c) (enc cd)

/-- a part of a slice of bits, by its address -/
theorem Rd.win {w : World} {B m c g a n : Nat} {q : List Bool} (h : Rd w B (some ⟨g, 0, none⟩) m c (enc q)) (han : a + n ≤ m) : Rd w B (some ⟨g, a, none⟩) (a + n - a) (c - a) (enc (cut q a n)) := by
  have hr := h.cutTo (a := a) (n := n) han
  have hadd : Option.map (fun x => x.add a) (some (⟨g, 0, none⟩ : Addr)) = some ⟨g, a, none⟩ := by
    show some (Addr.add _ a) = _
    unfold Addr.add
    split
    · rename_i e; subst e; rfl
    · simp
  rw [enc_cut, hadd] at hr
  rw [Nat.add_sub_cancel_left]
  exact hr
theorem Box3.set12 {w : World} {b : Nat} {s n t : Value} (h : Box3 w b s n t) (n' t' : Value) : Box3 ((w.setCell ⟨b, 1, none⟩ n').setCell ⟨b, 2, none⟩ t') b s n' t' := by
  have c0 := h.c0
  have c1 := h.c1
  have c2 := h.c2
  have f0 := h.f0
  have f1 := h.f1
  have f2 := h.f2
  refine ⟨by simpa using h.lt, ?_, ?_, ?_, ?_, ?_, ?_⟩ <;> go_simp
theorem Rd.oth {w : World} {B m c g : Nat} {A : Option Addr} {q : List Nat} (h : Rd w B A m c q) (hg : B ≤ g) (k : Nat) (u : Value) : Rd (w.setCell ⟨g, k, none⟩ u) B A m c q :=
  h.below ((Below.refl B w).setCell (p := ⟨g, k, none⟩) hg u)
theorem refset3 {w0 w : World} (h : Below w0.heap.size w0 w) {g : Nat} (hg : w0.heap.size ≤ g) (x y z : Value) : Below w0.heap.size w0 (((w.setCell ⟨g, 0, none⟩ x).setCell ⟨g, 1, none⟩ y).setCell ⟨g, 2, none⟩ z) :=
  ((h.setCell hg x).setCell hg y).setCell hg z

set_option maxRecDepth 20000 in
set_option maxHeartbeats 2000000 in
theorem rcode_loop (p a n v x : Nat) (w : World) (hs : XS.May ⟨p, a, n⟩) (hv : v ≤ 18446744073709551615) (hxe : p ^^^ v = x) :
    Calls Tryd.prog 39 #[.agg #[.int .u64 (p : Int), .int .i64 (a : Int), .int .i64 (n : Int)], .int .u64 (v : Int)] w (RetRX w (codeX ⟨p, a, n⟩ v) v (nextX ⟨p, a, n⟩ v).lead (nextX ⟨p, a, n⟩ v).len) := by
  have hp : p ≤ 18446744073709551615 := hs.p
  have han : a + n ≤ 64 := hs.b
  have hcx : codeX ⟨p, a, n⟩ v = codeOf ⟨p, a, n⟩ x := by unfold codeX; rw [hxe]
  have hnx : nextX ⟨p, a, n⟩ v = nextOf ⟨p, a, n⟩ x v := by unfold nextX; rw [hxe]
  rw [hcx, hnx]
  clear hcx hnx
  obtain ⟨cd, HC⟩ : ∃ cd, Hid (codeOf ⟨p, a, n⟩ x = cd) := ⟨_, Lib.hid rfl⟩
  obtain ⟨nx, HN⟩ : ∃ nx, Hid (nextOf ⟨p, a, n⟩ x v = nx) := ⟨_, Lib.hid rfl⟩
  rw [HC.out, HN.out]
  have hx : x ≤ 18446744073709551615 := by rw [← hxe]; exact xor_lt hp hv
  have hxor := u64_xor_nat v p (by omega) (by omega)
  rw [Nat.xor_comm, hxe] at hxor
  have hLow := fun w => low_any x 64 w hx (by omega)
  have b5 := Box3.new (w.alloc (.cells #[.int .u64 (p : Int), .int .i64 (a : Int), .int .i64 (n : Int)] 63)) (.int .u64 0) (.int .i64 0) (.int .i64 0) 63
  have b2 := (Box3.new w (.int .u64 (p : Int)) (.int .i64 (a : Int)) (.int .i64 (n : Int)) 63).onA (.cells #[.int .u64 0, .int .i64 0, .int .i64 0] 63)
  simp only [World.size_alloc] at b5
  have hb0 : Below w.heap.size w ((w.alloc (.cells #[.int .u64 (p : Int), .int .i64 (a : Int), .int .i64 (n : Int)] 63)).alloc (.cells #[.int .u64 0, .int .i64 0, .int .i64 0] 63)) := ((Below.refl _ _).alloc (Nat.le_refl _) _).alloc (by simp) _
  have HLL : Hid ((enc (low x 64)).length = 64) := Lib.hid (by rw [enc_length, low_length])
  have HBIT : Hid (∀ k, k < 64 → (enc (low x 64)).getD k 0 = (x.testBit (63 - k)).toNat) := Lib.hid (fun k hk => by rw [enc_getD, low_bit _ _ hk])
  go_enter Tryd.func39, Tryd.ntmps39
  go_wp2_with fail
  refine (hLow _).mono ?_
  rintro e w1 ⟨A1, c1, rfl, hown⟩
  rw [HLL.out] at hown ⊢
  obtain ⟨g, c, hgc⟩ := hown.lenform (m := 63) HLL.out
  injection hgc with e1 e2 e3
  subst e1 e3
  clear hLow hxor
  replace b2 := b2.below hown.bel
  replace b5 := b5.below hown.bel
  replace hown := hown.weak hb0
  clear hb0
  go_upto_block 0 with fail
  go_cut [7, 8] (fun f l wx => f = .int .i64 (firstN x 64) ∧ l = .int .i64 (lastN x 64) ∧ w1 = wx)
  case first =>
    go_wp2_with fail
    go_loop [7, 8, 9] (fun f l i => ∃ k : Nat, k ≤ 64 ∧ i = .int .i64 (k : Int) ∧ f = .int .i64 (firstN x k) ∧ l = .int .i64 (lastN x k)) (fun _ _ i => 64 - (intOf i).toNat)
    case atStart => exact ⟨0, by omega, rfl, by unfold firstN; rw [if_pos (by omega)], rfl⟩
    case round =>
      obtain ⟨k, hk, rfl, rfl, rfl⟩ := hrel
      by_cases hlt : k < 64
      · have hc := hown.cell k hlt
        rw [HBIT.out k hlt] at hc
        cases hbit : x.testBit (63 - k)
        · rw [hbit] at hc
          replace hc : w1.cell? ⟨g, k, none⟩ = some (.int .u8 0) := hc
          have HF := Lib.hid (first_skip hx hlt hbit)
          have HL2 : Hid (lastN x (k + 1) = lastN x k) := Lib.hid (by show (if x.testBit (63 - k) then (k : Int) else lastN x k) = _; rw [hbit]; rfl)
          clear hbit
          generalize firstN x k = f0 at *
          generalize lastN x k = l0 at *
          go_wp2
          go_round
          case rel => exact ⟨k + 1, by omega, by go_num, by rw [HF.out], by rw [HL2.out]⟩
          case measure => simp [intOf]; omega
        · rw [hbit] at hc
          replace hc : w1.cell? ⟨g, k, none⟩ = some (.int .u8 1) := hc
          have HF := Lib.hid (first_step hx hbit)
          have HL2 : Hid (lastN x (k + 1) = (k : Int)) := Lib.hid (by show (if x.testBit (63 - k) then (k : Int) else lastN x k) = _; rw [hbit]; rfl)
          clear hbit
          generalize firstN x k = f0 at *
          generalize lastN x k = l0 at *
          by_cases hneg : f0 < 0
          · replace HF : Hid (firstN x (k + 1) = (k : Int)) := Lib.hid (by rw [HF.out, if_pos hneg])
            go_wp2
            go_round
            case rel => exact ⟨k + 1, by omega, by go_num, by rw [HF.out], by rw [HL2.out]⟩
            case measure => simp [intOf]; omega
          · replace HF : Hid (firstN x (k + 1) = f0) := Lib.hid (by rw [HF.out, if_neg hneg])
            go_wp2
            go_round
            case rel => exact ⟨k + 1, by omega, by go_num, by rw [HF.out], by rw [HL2.out]⟩
            case measure => simp [intOf]; omega
      · obtain rfl : k = 64 := by omega
        go_wp2_with fail
        go_meet
        exact ⟨rfl, rfl, rfl⟩
  case rest =>
    obtain ⟨rfl, rfl, rfl⟩ := hcut
    clear HBIT HLL e2
    have b2t := b2
    obtain ⟨_, q0, q1, q2, _, _, _⟩ := b2t
    by_cases h0 : x = 0
    · have HF : Hid (firstN x 64 = -1) := Lib.hid (by rw [h0]; rfl)
      rw [HF.out]
      generalize lastN x 64 = l0 at *
      go_upto_region 13 with fail
      have b10 := Box3.new w1 (.int .u64 (v : Int)) (.int .i64 (a : Int)) (.int .i64 (n : Int)) 63
      have hlt := b5.lt
      replace b5 := b5.onA (.cells #[.int .u64 (v : Int), .int .i64 (a : Int), .int .i64 (n : Int)] 63)
      have hbW := (hown.alloc (.cells #[.int .u64 (v : Int), .int .i64 (a : Int), .int .i64 (n : Int)] 63)).bel
      clear b2 q0 q1 q2 hown
      generalize w1.alloc (.cells #[.int .u64 (v : Int), .int .i64 (a : Int), .int .i64 (n : Int)] 63) = W at *
      generalize w1.heap.size = g10 at *
      have hcd : cd = [false] := by rw [← HC.out]; unfold codeOf; rw [if_pos h0]
      have hnx : nx = ⟨v, a, n⟩ := by rw [← HN.out]; unfold nextOf; rw [if_pos (.inl h0)]
      clear HC HN h0
      have b5' := b5.onA (.cells #[.int .u8 0] 5)
      have b10' := b10.onA (.cells #[.int .u8 0] 5)
      have bz := ((b5.set (.int .u64 (v : Int)) (.int .i64 (a : Int)) (.int .i64 (n : Int))).onA (.cells #[.int .u8 0] 5)).drew
      have ho := (Own.litOne (refset3 hbW (g := w.heap.size + 1) (by omega) (.int .u64 (v : Int)) (.int .i64 (a : Int)) (.int .i64 (n : Int))) 0).drew
      simp only [World.size_setCell] at ho
      obtain ⟨_, z0, z1, z2, zf0, zf1, zf2⟩ := b5
      obtain ⟨_, y0, y1, y2, yf0, yf1, yf2⟩ := b5'
      obtain ⟨_, r0, r1, r2, _, _, _⟩ := b10
      obtain ⟨_, s0, s1, s2, _, _, _⟩ := b10'
      go_region
      all_goals
        go_wp2
        subst hcd hnx
        refine bodyPost_ret (v := .tuple #[.slice (some ⟨W.heap.size, 0, none⟩) 1 1, .agg #[.int .u64 (v : Int), .int .i64 (a : Int), .int .i64 (n : Int)]]) ?_ rfl ⟨_, _, rfl, ho⟩
        simp [results, Tryd.results39, go_sem, bz.c0, bz.c1, bz.c2]
    · obtain ⟨hs1, hs2, hs3⟩ := sz_pos hx h0
      have hl63 := lz_lt h0
      have ht63 := (tz_is hx h0).1
      have HF : Hid (firstN x 64 = ((lzN x : Nat) : Int)) := Lib.hid (by unfold firstN; rw [if_neg (by omega)])
      have HLA : Hid (lastN x 64 = ((63 - tzN x : Nat) : Int)) := Lib.hid (last_is hx h0 64 (by omega) (by omega))
      rw [HF.out, HLA.out]
      clear HF HLA
      have b10 := Box3.new w1 (.int .u64 (v : Int)) (.int .i64 (a : Int)) (.int .i64 (n : Int)) 63
      have hlt := b5.lt
      replace b5 := b5.onA (.cells #[.int .u64 (v : Int), .int .i64 (a : Int), .int .i64 (n : Int)] 63)
      have b2' := b2.onA (.cells #[.int .u64 (v : Int), .int .i64 (a : Int), .int .i64 (n : Int)] 63)
      have hr1 := hown.rd.below ((Below.refl _ _).alloc (Nat.le_refl _) (.cells #[.int .u64 (v : Int), .int .i64 (a : Int), .int .i64 (n : Int)] 63))
      replace hown := hown.alloc (.cells #[.int .u64 (v : Int), .int .i64 (a : Int), .int .i64 (n : Int)] 63)
      have hcap : 64 ≤ c1 := hown.rd.cap
      by_cases hf : fitsX ⟨p, a, n⟩ x
      · obtain ⟨f1, f2, f3⟩ := hf
        simp only at f1 f2 f3
        have hcd : cd = oldX ⟨p, a, n⟩ x := by rw [← HC.out]; unfold codeOf; rw [if_neg h0, if_pos ⟨f1, f2, f3⟩]
        have hnx : nx = ⟨v, a, n⟩ := by rw [← HN.out]; unfold nextOf; rw [if_pos (.inr ⟨f1, f2, f3⟩)]
        clear HC HN h0
        generalize lzN x = lx at *
        have hl1 : 63 - tzN x < a + n := by omega
        generalize 63 - tzN x = tx at *
        go_upto_region 15 with fail
        have hbW := hown.bel
        have hr := hown.rd.win (a := a) (n := n) han
        have hca : a < c1 := by omega
        have hsum : IntKind.i64.wrap ((a : Int) + (n : Int)) = (a : Int) + (n : Int) := by rw [IntKind.wrap_i64]; omega
        have hac : (a : Int) + (n : Int) ≤ (c1 : Int) := by omega
        have hac2 : (0 : Int) ≤ (a : Int) := by omega
        have hac3 : (a : Int) ≤ (a : Int) + (n : Int) := by omega
        have hac4 : (0 : Int) ≤ (a : Int) + (n : Int) := by omega
        have hca2 : (c1 = a) = False := eq_false (by omega)
        clear hown b2 q0 q1 q2 f2 f3 hl1
        generalize w1.alloc (.cells #[.int .u64 (v : Int), .int .i64 (a : Int), .int .i64 (n : Int)] 63) = W at *
        generalize w1.heap.size = g10 at *
        obtain ⟨_, q0, q1, q2, _, _, _⟩ := b2'.drew
        obtain ⟨_, r0, r1, r2, _, _, _⟩ := b10.drew
        have m1 := (b2'.onA (.cells #[.int .u8 1, .int .u8 0] 5)).drew
        have m2 := (b10.onA (.cells #[.int .u8 1, .int .u8 0] 5)).drew
        have hoW := (Own.litTwo (Below.refl _ W) 1 0).drew
        have hrW := (hr.below ((Below.refl _ W).alloc (Nat.le_refl _) (.cells #[.int .u8 1, .int .u8 0] 5))).drew
        have hn1 : w.heap.size ≠ w.heap.size + 1 := by omega
        have hn2 : g10 ≠ w.heap.size + 1 := by omega
        have HS : Hid ([1, 0] ++ enc (cut (low x 64) a n) = enc cd) := Lib.hid (by rw [hcd]; unfold oldX; rw [enc_app]; rfl)
        clear hcd
        go_region_held3 (fun w' => w'.cell? ⟨w.heap.size, 1, none⟩ = some (.int .i64 (a : Int)) ∧ w'.cell? ⟨w.heap.size, 2, none⟩ = some (.int .i64 (n : Int)) ∧ w'.cell? ⟨g10, 0, none⟩ = some (.int .u64 (v : Int)) ∧ w'.cell? ⟨g10, 1, none⟩ = some (.int .i64 (a : Int)) ∧ w'.cell? ⟨g10, 2, none⟩ = some (.int .i64 (n : Int)))
          (first | exact ⟨q1, q2, r0, r1, r2⟩ | exact ⟨m1.c1, m1.c2, m2.c0, m2.c1, m2.c2⟩ | exact ⟨(((m1.other hn1 0 _).other hn1 1 _).other hn1 2 _).c1, (((m1.other hn1 0 _).other hn1 1 _).other hn1 2 _).c2, (((m2.other hn2 0 _).other hn2 1 _).other hn2 2 _).c0, (((m2.other hn2 0 _).other hn2 1 _).other hn2 2 _).c1, (((m2.other hn2 0 _).other hn2 1 _).other hn2 2 _).c2⟩) (first
          | (refine step_app (by rfl) (.tmp 58) (.tmp 67) (by rfl) (by rfl) (by rfl) hoW hrW (by simp; omega) ?_; intro v6 w6 ho6 _; clear q1 q2 r0 r1 r2 m1 m2; have m1 := b2'.below ho6.bel; have m2 := b10.below ho6.bel; obtain ⟨_, z0, z1, z2, zf0, zf1, zf2⟩ := b5.below ho6.bel))
        all_goals
          rw [HS.out] at ho6
          have hb5 := b5.lt
          have bz := (b5.below ho6.bel).set (.int .u64 (v : Int)) (.int .i64 (a : Int)) (.int .i64 (n : Int))
          have hmid := (((Mid.of ho6 hbW).set ⟨w.heap.size + 1, 0, none⟩ (.int .u64 (v : Int)) (Nat.le_succ _) hb5).set ⟨w.heap.size + 1, 1, none⟩ (.int .i64 (a : Int)) (Nat.le_succ _) hb5).set ⟨w.heap.size + 1, 2, none⟩ (.int .i64 (n : Int)) (Nat.le_succ _) hb5
          obtain ⟨A6, c6, rfl, _⟩ := ho6.form
          rw [enc_length] at hmid ⊢
          clear m1 m2 z0 z1 z2 zf0 zf1 zf2
          subst hnx
          go_wp2
          refine bodyPost_ret (v := .tuple #[.slice A6 cd.length c6, .agg #[.int .u64 (v : Int), .int .i64 (a : Int), .int .i64 (n : Int)]]) ?_ rfl ⟨_, _, rfl, hmid.own⟩
          simp [results, Tryd.results39, go_sem, bz.c0, bz.c1, bz.c2]
      · have hcd : cd = newX x := by rw [← HC.out]; unfold codeOf; rw [if_neg h0, if_neg hf]
        have hnx : nx = ⟨v, lzN x, szN x⟩ := by rw [← HN.out]; unfold nextOf; rw [if_neg (by simp [h0, hf])]
        clear HC HN h0
        have hf' : ¬ (0 < n ∧ a ≤ lzN x ∧ 64 - a - n ≤ tzN x) := hf
        clear hf
        obtain ⟨tx, htx⟩ : ∃ tx, 63 - tzN x = tx := ⟨_, rfl⟩
        obtain ⟨kx, hkx⟩ : ∃ kx, szN x = kx := ⟨_, rfl⟩
        obtain ⟨lx, hlx⟩ : ∃ lx, lzN x = lx := ⟨_, rfl⟩
        have htl : tx + 1 = lx + kx := by unfold szN at hkx; omega
        have hnf : 0 < n → a ≤ lx → a + n ≤ tx := fun h1 h2 => by omega
        have HS1 : Hid ([1, 1] ++ enc (low lx 6) ++ enc (low (kx - 1) 6) ++ enc (cut (low x 64) lx kx) = enc cd) := Lib.hid (by
          rw [hcd]; unfold newX; rw [enc_app, enc_app, enc_app, hlx, hkx]; rfl)
        rw [hlx, hkx] at hnx
        rw [hkx] at hs1 hs2
        rw [hlx] at hs2 hl63
        rw [htx, hlx]
        clear hf' hcd hkx hlx htx hs3 ht63
        replace hr1 := hr1.win (a := lx) (n := kx) hs2
        rw [show lx + kx - lx = tx + 1 - lx by omega] at hr1
        have hbW := hown.bel
        have HTL := Lib.hid htl
        have HNF := Lib.hid hnf
        clear htl hnf
        go_upto_region 14 with fail
        clear hown b2 q0 q1 q2
        obtain ⟨_, q0, q1, q2, _, _, _⟩ := b2'
        generalize w1.alloc (.cells #[.int .u64 (v : Int), .int .i64 (a : Int), .int .i64 (n : Int)] 63) = W at *
        generalize w1.heap.size = g10 at *
        go_cut [57] (fun b wx => b = .bool false ∧ W = wx)
        case first =>
          by_cases h1 : 0 < n
          · by_cases h2 : a ≤ lx
            · have h3 := HNF.out h1 h2
              go_wp2_with fail
              go_meet
              exact ⟨by simp; omega, rfl⟩
            · go_wp2_with fail
              go_meet
              exact ⟨rfl, rfl⟩
          · go_wp2_with fail
            go_meet
            exact ⟨rfl, rfl⟩
        case rest =>
          obtain ⟨rfl, rfl⟩ := hcut
          clear HNF q0 q1 q2
          subst hnx
          have b10t := b10
          obtain ⟨_, r0, r1, r2, rf0, rf1, rf2⟩ := b10t
          have hsz : IntKind.i64.wrap ((tx : Int) - (lx : Int)) = (tx : Int) - (lx : Int) := by have := HTL.out; rw [IntKind.wrap_i64]; omega
          have hsz2 : (tx : Int) - (lx : Int) + 1 = (kx : Int) := by have := HTL.out; omega
          go_upto_region 18 with fail
          replace b10 := b10.set12 (.int .i64 (lx : Int)) (.int .i64 (kx : Int))
          replace b5 := (b5.other (d := g10) (by omega) 1 (.int .i64 (lx : Int))).other (d := g10) (by omega) 2 (.int .i64 (kx : Int))
          replace hbW := (hbW.setCell (p := ⟨g10, 1, none⟩) (by dsimp only; omega) (.int .i64 (lx : Int))).setCell (p := ⟨g10, 2, none⟩) (by dsimp only; omega) (.int .i64 (kx : Int))
          replace hr1 := (hr1.oth (Nat.le_refl _) 1 (.int .i64 (lx : Int))).oth (Nat.le_refl _) 2 (.int .i64 (kx : Int))
          clear r0 r1 r2 rf0 rf1 rf2 hsz hsz2
          generalize (W.setCell ⟨g10, 1, none⟩ (.int .i64 (lx : Int))).setCell ⟨g10, 2, none⟩ (.int .i64 (kx : Int)) = W2 at *
          have h64 : lx ≤ 18446744073709551615 := by omega
          go_wp2_with fail
          refine (low_any lx 6 _ (by omega) (by omega)).mono ?_
          rintro e w3 ⟨A3, c3, rfl, hlo⟩
          have hoT := (Own.litTwo (Below.refl _ W2) 1 1).keep hlo.bel
          obtain ⟨L1, HL1⟩ : ∃ L1, Hid (enc (low lx 6) = L1) := ⟨_, Lib.hid rfl⟩
          have HL1L : Hid (L1.length = 6) := Lib.hid (by rw [← HL1.out, enc_length, low_length])
          rw [HL1.out] at hlo HS1 ⊢
          have hlr := hlo.rd
          rw [HL1L.out] at hlr ⊢
          obtain ⟨L2, HL2⟩ : ∃ L2, Hid ([1, 1] ++ L1 = L2) := ⟨_, Lib.hid rfl⟩
          have HL2L : Hid (L2.length = 8) := Lib.hid (by rw [← HL2.out, List.length_append, HL1L.out]; rfl)
          clear hlo
          go_wp2_with (at_builtin; (refine wpList_app rfl (.tmp 77) (.tmp 80) rfl rfl rfl hoT hlr (by simp) ?_; intro v5 w5 ho5; rw [HL2.out] at ho5; obtain ⟨_, r0, r1, r2, _, _, _⟩ := b10.below ho5.bel))
          rw [show (kx : Int) - 1 = ((kx - 1 : Nat) : Int) by omega]
          refine (low_any (kx - 1) 6 _ (by omega) (by omega)).mono ?_
          rintro e w6 ⟨A6, c6, rfl, hlo⟩
          have hoT2 := ho5.keep hlo.bel
          obtain ⟨L3, HL3⟩ : ∃ L3, Hid (enc (low (kx - 1) 6) = L3) := ⟨_, Lib.hid rfl⟩
          have HL3L : Hid (L3.length = 6) := Lib.hid (by rw [← HL3.out, enc_length, low_length])
          rw [HL3.out] at hlo HS1 ⊢
          have hlr := hlo.rd
          rw [HL3L.out] at hlr ⊢
          obtain ⟨L4, HL4⟩ : ∃ L4, Hid (L2 ++ L3 = L4) := ⟨_, Lib.hid rfl⟩
          have HL4L : Hid (L4.length = 14) := Lib.hid (by rw [← HL4.out, List.length_append, HL3L.out, HL2L.out])
          clear hlo r0 r1 r2 ho5
          go_wp2_with (at_builtin; (refine wpList_app rfl (.tmp 82) (.tmp 87) rfl rfl rfl hoT2 hlr (by rw [HL2L.out]; omega) ?_; intro v7 w7 ho7; rw [HL4.out] at ho7))
          have htx := HTL.out
          have hlt2 := b10.lt
          have hsum : IntKind.i64.wrap ((tx : Int) + 1) = (tx : Int) + 1 := by rw [IntKind.wrap_i64]; omega
          have i1 : (0 : Int) ≤ (lx : Int) := by omega
          have i2 : (lx : Int) ≤ (tx : Int) + 1 := by omega
          have i3 : (tx : Int) + 1 ≤ (c1 : Int) := by omega
          have i4 : (0 : Int) ≤ (tx : Int) + 1 := by omega
          have i5 : (c1 = lx) = False := eq_false (by omega)
          have htl6 : tx + 1 - lx = kx := by omega
          have HTX := Lib.hid htl6
          have hn2 : g10 ≠ w.heap.size + 1 := by omega
          clear htx htl6 HTL hoT2 hlr hoT
          have hrW := (hr1.below (ho7.bel.mono (Nat.le_of_lt hlt2))).drew
          have hoW := ho7.drew
          have m2 := b10.below ho7.bel
          obtain ⟨_, r0, r1, r2, _, _, _⟩ := m2.drew
          have HS : Hid (L4 ++ enc (cut (low x 64) lx kx) = enc cd) := Lib.hid (by rw [← HL4.out, ← HL2.out, HS1.out])
          go_region_held3 (fun w' => w'.cell? ⟨g10, 0, none⟩ = some (.int .u64 (v : Int)) ∧ w'.cell? ⟨g10, 1, none⟩ = some (.int .i64 (lx : Int)) ∧ w'.cell? ⟨g10, 2, none⟩ = some (.int .i64 (kx : Int)))
            (first | exact ⟨r0, r1, r2⟩ | exact ⟨m2.c0, m2.c1, m2.c2⟩ | exact ⟨(((m2.other hn2 0 _).other hn2 1 _).other hn2 2 _).c0, (((m2.other hn2 0 _).other hn2 1 _).other hn2 2 _).c1, (((m2.other hn2 0 _).other hn2 1 _).other hn2 2 _).c2⟩) (first
            | (refine step_app (by rfl) (.tmp 89) (.tmp 94) (by rfl) (by rfl) (by rfl) hoW hrW (by rw [HL4L.out, HTX.out]; omega) ?_; intro v8 w8 ho8 _; clear r0 r1 r2 m2; have m2 := b10.below ho8.bel; obtain ⟨_, z0, z1, z2, zf0, zf1, zf2⟩ := b5.below ho8.bel))
          all_goals
            rw [HS.out] at ho8
            have hb5 := b5.lt
            have bz := (b5.below ho8.bel).set (.int .u64 (v : Int)) (.int .i64 (lx : Int)) (.int .i64 (kx : Int))
            have hmid := (((Mid.of ho8 hbW).set ⟨w.heap.size + 1, 0, none⟩ (.int .u64 (v : Int)) (Nat.le_succ _) hb5).set ⟨w.heap.size + 1, 1, none⟩ (.int .i64 (lx : Int)) (Nat.le_succ _) hb5).set ⟨w.heap.size + 1, 2, none⟩ (.int .i64 (kx : Int)) (Nat.le_succ _) hb5
            obtain ⟨A9, c9, rfl, _⟩ := ho8.form
            rw [enc_length] at hmid ⊢
            clear m2 z0 z1 z2 zf0 zf1 zf2
            go_wp2
            refine bodyPost_ret (v := .tuple #[.slice A9 cd.length c9, .agg #[.int .u64 (v : Int), .int .i64 (lx : Int), .int .i64 (kx : Int)]]) ?_ rfl ⟨_, _, rfl, hmid.own⟩
            simp [results, Tryd.results39, go_sem, bz.c0, bz.c1, bz.c2]

end Go.Proofs.YtkndoalnlldolaaDoor
