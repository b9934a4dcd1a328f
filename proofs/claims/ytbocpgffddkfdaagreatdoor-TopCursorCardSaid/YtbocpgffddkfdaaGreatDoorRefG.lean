/-
  Texts of this proof, one behind the other: RefXor, RefGetX.
-/
import Derived.Test.YtbocpgffddkfdaaGreatDoorPlain
import Derived.Test.YtbocpgffddkfdaaGreatDoorRefs
import Derived.Test.YtbocpgffddkfdaaGreatDoorWords
import Derived.Test.YtbocpgffddkfdaaGreatDoorRGets
import Derived.Deep.DeepCutAuto
import Derived.Deep.CutBlock
import Derived.Deep.RegionWith
import Derived.BigRegion
import Derived.Deep.RegionHeld3
import Derived.Laws.Bits64
import Derived.Handy
import Derived.Deep.QuietTactic
import Derived.BigQuiet

namespace Go.Proofs.YtbocpgffddkfdaaGreatDoor
open Go.RowKit

def RetRX (w : World) (cd : List Bool) (v l k : Nat) (e : Ending) (w' : World) : Prop :=
  ∃ A c, e = .returned (.tuple #[.slice A cd.length c, .agg #[.int .u64 (v : Int), .int .i64 (l : Int), .int .i64 (k : Int)]]) ∧ Own w w' (.slice A cd.length c) (enc cd)
theorem Rd.win {w : World} {B m c g a n : Nat} {q : List Bool} (h : Rd w B (some ⟨g, 0, none⟩) m c (enc q)) (han : a + n ≤ m) : Rd w B (some ⟨g, a, none⟩) (a + n - a) (c - a) (enc (cut q a n)) := by
  have hr := h.cutTo (a := a) (n := n) han
  have hadd : Option.map (fun x => x.add a) (some (⟨g, 0, none⟩ : Addr)) = some ⟨g, a, none⟩ := by
    show some (Addr.add _ a) = _
    unfold Addr.add
    split
    · rename_i e; subst e; rfl
    · simp
  rw [enc_cut, hadd] at hr
  rw [Nat.add_sub_cancel_left]
  exact hr
theorem Box3.set12 {w : World} {b : Nat} {s n t : Value} (h : Box3 w b s n t) (n' t' : Value) : Box3 ((w.setCell ⟨b, 1, none⟩ n').setCell ⟨b, 2, none⟩ t') b s n' t' := by
  have c0 := h.c0
  have c1 := h.c1
  have c2 := h.c2
  have f0 := h.f0
  have f1 := h.f1
  have f2 := h.f2
  refine ⟨by simpa using h.lt, ?_, ?_, ?_, ?_, ?_, ?_⟩ <;> go_simp
theorem Rd.oth {w : World} {B m c g : Nat} {A : Option Addr} {q : List Nat} (h : Rd w B A m c q) (hg : B ≤ g) (k : Nat) (u : Value) : Rd (w.setCell ⟨g, k, none⟩ u) B A m c q :=
  h.below ((Below.refl B w).setCell (p := ⟨g, k, none⟩) hg u)
theorem refset3 {w0 w : World} (h : Below w0.heap.size w0 w) {g : Nat} (hg : w0.heap.size ≤ g) (x y z : Value) : Below w0.heap.size w0 (((w.setCell ⟨g, 0, none⟩ x).setCell ⟨g, 1, none⟩ y).setCell ⟨g, 2, none⟩ z) :=
  ((h.setCell hg x).setCell hg y).setCell hg z
set_option maxRecDepth 20000 in
set_option maxHeartbeats 2000000 in
theorem rcode_loop (p a n v x : Nat) (w : World) (hs : XS.May ⟨p, a, n⟩) (hv : v ≤ 18446744073709551615) (hxe : p ^^^ v = x) :
    Calls Tryz.prog 112 #[.agg #[.int .u64 (p : Int), .int .i64 (a : Int), .int .i64 (n : Int)], .int .u64 (v : Int)] w (RetRX w (codeX ⟨p, a, n⟩ v) v (nextX ⟨p, a, n⟩ v).lead (nextX ⟨p, a, n⟩ v).len) := by
  have hp : p ≤ 18446744073709551615 := hs.p
  have han : a + n ≤ 64 := hs.b
  have hcx : codeX ⟨p, a, n⟩ v = codeOf ⟨p, a, n⟩ x := by unfold codeX; rw [hxe]
  have hnx : nextX ⟨p, a, n⟩ v = nextOf ⟨p, a, n⟩ x v := by unfold nextX; rw [hxe]
  rw [hcx, hnx]
  clear hcx hnx
  obtain ⟨cd, HC⟩ : ∃ cd, Hid (codeOf ⟨p, a, n⟩ x = cd) := ⟨_, Lib.hid rfl⟩
  obtain ⟨nx, HN⟩ : ∃ nx, Hid (nextOf ⟨p, a, n⟩ x v = nx) := ⟨_, Lib.hid rfl⟩
  rw [HC.out, HN.out]
  have hx : x ≤ 18446744073709551615 := by rw [← hxe]; exact xor_lt hp hv
  have hxor := u64_xor_nat v p (by omega) (by omega)
  rw [Nat.xor_comm, hxe] at hxor
  have hLow := fun w => low_any x 64 w hx (by omega)
  have b5 := Box3.new (w.alloc (.cells #[.int .u64 (p : Int), .int .i64 (a : Int), .int .i64 (n : Int)] 127)) (.int .u64 0) (.int .i64 0) (.int .i64 0) 127
  have b2 := (Box3.new w (.int .u64 (p : Int)) (.int .i64 (a : Int)) (.int .i64 (n : Int)) 127).onA (.cells #[.int .u64 0, .int .i64 0, .int .i64 0] 127)
  simp only [World.size_alloc] at b5
  have hb0 : Below w.heap.size w ((w.alloc (.cells #[.int .u64 (p : Int), .int .i64 (a : Int), .int .i64 (n : Int)] 127)).alloc (.cells #[.int .u64 0, .int .i64 0, .int .i64 0] 127)) := ((Below.refl _ _).alloc (Nat.le_refl _) _).alloc (by simp) _
  have HLL : Hid ((enc (low x 64)).length = 64) := Lib.hid (by rw [enc_length, low_length])
  have HBIT : Hid (∀ k, k < 64 → (enc (low x 64)).getD k 0 = (x.testBit (63 - k)).toNat) := Lib.hid (fun k hk => by rw [enc_getD, low_bit _ _ hk])
  go_enter Tryz.func112, Tryz.ntmps112
  go_wp2_with fail
  refine (hLow _).mono ?_
  rintro e w1 ⟨A1, c1, rfl, hown⟩
  rw [HLL.out] at hown ⊢
  obtain ⟨g, c, hgc⟩ := hown.lenform (m := 63) HLL.out
  injection hgc with e1 e2 e3
  subst e1 e3
  clear hLow hxor
  replace b2 := b2.below hown.bel
  replace b5 := b5.below hown.bel
  replace hown := hown.weak hb0
  clear hb0
  go_upto_block 0 with fail
  go_cut [7, 8] (fun f l wx => f = .int .i64 (firstN x 64) ∧ l = .int .i64 (lastN x 64) ∧ w1 = wx)
  case first =>
    go_wp2_with fail
    go_loop [7, 8, 9] (fun f l i => ∃ k : Nat, k ≤ 64 ∧ i = .int .i64 (k : Int) ∧ f = .int .i64 (firstN x k) ∧ l = .int .i64 (lastN x k)) (fun _ _ i => 64 - (intOf i).toNat)
    case atStart => exact ⟨0, by omega, rfl, by unfold firstN; rw [if_pos (by omega)], rfl⟩
    case round =>
      obtain ⟨k, hk, rfl, rfl, rfl⟩ := hrel
      by_cases hlt : k < 64
      · have hc := hown.cell k hlt
        rw [HBIT.out k hlt] at hc
        cases hbit : x.testBit (63 - k)
        · rw [hbit] at hc
          replace hc : w1.cell? ⟨g, k, none⟩ = some (.int .u8 0) := hc
          have HF := Lib.hid (first_skip hx hlt hbit)
          have HL2 : Hid (lastN x (k + 1) = lastN x k) := Lib.hid (by show (if x.testBit (63 - k) then (k : Int) else lastN x k) = _; rw [hbit]; rfl)
          clear hbit
          generalize firstN x k = f0 at *
          generalize lastN x k = l0 at *
          go_wp2
          go_round
          case rel => exact ⟨k + 1, by omega, by go_num, by rw [HF.out], by rw [HL2.out]⟩
          case measure => simp [intOf]; omega
        · rw [hbit] at hc
          replace hc : w1.cell? ⟨g, k, none⟩ = some (.int .u8 1) := hc
          have HF := Lib.hid (first_step hx hbit)
          have HL2 : Hid (lastN x (k + 1) = (k : Int)) := Lib.hid (by show (if x.testBit (63 - k) then (k : Int) else lastN x k) = _; rw [hbit]; rfl)
          clear hbit
          generalize firstN x k = f0 at *
          generalize lastN x k = l0 at *
          by_cases hneg : f0 < 0
          · replace HF : Hid (firstN x (k + 1) = (k : Int)) := Lib.hid (by rw [HF.out, if_pos hneg])
            go_wp2
            go_round
            case rel => exact ⟨k + 1, by omega, by go_num, by rw [HF.out], by rw [HL2.out]⟩
            case measure => simp [intOf]; omega
          · replace HF : Hid (firstN x (k + 1) = f0) := Lib.hid (by rw [HF.out, if_neg hneg])
            go_wp2
            go_round
            case rel => exact ⟨k + 1, by omega, by go_num, by rw [HF.out], by rw [HL2.out]⟩
            case measure => simp [intOf]; omega
      · obtain rfl : k = 64 := by omega
        go_wp2_with fail
        go_meet
        exact ⟨rfl, rfl, rfl⟩
  case rest =>
    obtain ⟨rfl, rfl, rfl⟩ := hcut
    clear HBIT HLL e2
    have b2t := b2
    obtain ⟨_, q0, q1, q2, _, _, _⟩ := b2t
    by_cases h0 : x = 0
    · have HF : Hid (firstN x 64 = -1) := Lib.hid (by rw [h0]; rfl)
      rw [HF.out]
      generalize lastN x 64 = l0 at *
      go_upto_region 13 with fail
      have b10 := Box3.new w1 (.int .u64 (v : Int)) (.int .i64 (a : Int)) (.int .i64 (n : Int)) 127
      have hlt := b5.lt
      replace b5 := b5.onA (.cells #[.int .u64 (v : Int), .int .i64 (a : Int), .int .i64 (n : Int)] 127)
      have hbW := (hown.alloc (.cells #[.int .u64 (v : Int), .int .i64 (a : Int), .int .i64 (n : Int)] 127)).bel
      clear b2 q0 q1 q2 hown
      generalize w1.alloc (.cells #[.int .u64 (v : Int), .int .i64 (a : Int), .int .i64 (n : Int)] 127) = W at *
      generalize w1.heap.size = g10 at *
      have hcd : cd = [false] := by rw [← HC.out]; unfold codeOf; rw [if_pos h0]
      have hnx : nx = ⟨v, a, n⟩ := by rw [← HN.out]; unfold nextOf; rw [if_pos (.inl h0)]
      clear HC HN h0
      have b5' := b5.onA (.cells #[.int .u8 0] 5)
      have b10' := b10.onA (.cells #[.int .u8 0] 5)
      have bz := ((b5.set (.int .u64 (v : Int)) (.int .i64 (a : Int)) (.int .i64 (n : Int))).onA (.cells #[.int .u8 0] 5)).drew
      have ho := (Own.litOne (refset3 hbW (g := w.heap.size + 1) (by omega) (.int .u64 (v : Int)) (.int .i64 (a : Int)) (.int .i64 (n : Int))) 0).drew
      simp only [World.size_setCell] at ho
      obtain ⟨_, z0, z1, z2, zf0, zf1, zf2⟩ := b5
      obtain ⟨_, y0, y1, y2, yf0, yf1, yf2⟩ := b5'
      obtain ⟨_, r0, r1, r2, _, _, _⟩ := b10
      obtain ⟨_, s0, s1, s2, _, _, _⟩ := b10'
      go_region
      all_goals
        go_wp2
        subst hcd hnx
        refine bodyPost_ret (v := .tuple #[.slice (some ⟨W.heap.size, 0, none⟩) 1 1, .agg #[.int .u64 (v : Int), .int .i64 (a : Int), .int .i64 (n : Int)]]) ?_ rfl ⟨_, _, rfl, ho⟩
        simp [results, Tryz.results112, go_sem, bz.c0, bz.c1, bz.c2]
    · obtain ⟨hs1, hs2, hs3⟩ := sz_pos hx h0
      have hl63 := lz_lt h0
      have ht63 := (tz_is hx h0).1
      have HF : Hid (firstN x 64 = ((lzN x : Nat) : Int)) := Lib.hid (by unfold firstN; rw [if_neg (by omega)])
      have HLA : Hid (lastN x 64 = ((63 - tzN x : Nat) : Int)) := Lib.hid (last_is hx h0 64 (by omega) (by omega))
      rw [HF.out, HLA.out]
      clear HF HLA
      have b10 := Box3.new w1 (.int .u64 (v : Int)) (.int .i64 (a : Int)) (.int .i64 (n : Int)) 127
      have hlt := b5.lt
      replace b5 := b5.onA (.cells #[.int .u64 (v : Int), .int .i64 (a : Int), .int .i64 (n : Int)] 127)
      have b2' := b2.onA (.cells #[.int .u64 (v : Int), .int .i64 (a : Int), .int .i64 (n : Int)] 127)
      have hr1 := hown.rd.below ((Below.refl _ _).alloc (Nat.le_refl _) (.cells #[.int .u64 (v : Int), .int .i64 (a : Int), .int .i64 (n : Int)] 127))
      replace hown := hown.alloc (.cells #[.int .u64 (v : Int), .int .i64 (a : Int), .int .i64 (n : Int)] 127)
      have hcap : 64 ≤ c1 := hown.rd.cap
      by_cases hf : fitsX ⟨p, a, n⟩ x
      · obtain ⟨f1, f2, f3⟩ := hf
        simp only at f1 f2 f3
        have hcd : cd = oldX ⟨p, a, n⟩ x := by rw [← HC.out]; unfold codeOf; rw [if_neg h0, if_pos ⟨f1, f2, f3⟩]
        have hnx : nx = ⟨v, a, n⟩ := by rw [← HN.out]; unfold nextOf; rw [if_pos (.inr ⟨f1, f2, f3⟩)]
        clear HC HN h0
        generalize lzN x = lx at *
        have hl1 : 63 - tzN x < a + n := by omega
        generalize 63 - tzN x = tx at *
        go_upto_region 15 with fail
        have hbW := hown.bel
        have hr := hown.rd.win (a := a) (n := n) han
        have hca : a < c1 := by omega
        have hsum : IntKind.i64.wrap ((a : Int) + (n : Int)) = (a : Int) + (n : Int) := by rw [IntKind.wrap_i64]; omega
        have hac : (a : Int) + (n : Int) ≤ (c1 : Int) := by omega
        have hac2 : (0 : Int) ≤ (a : Int) := by omega
        have hac3 : (a : Int) ≤ (a : Int) + (n : Int) := by omega
        have hac4 : (0 : Int) ≤ (a : Int) + (n : Int) := by omega
        have hca2 : (c1 = a) = False := eq_false (by omega)
        clear hown b2 q0 q1 q2 f2 f3 hl1
        generalize w1.alloc (.cells #[.int .u64 (v : Int), .int .i64 (a : Int), .int .i64 (n : Int)] 127) = W at *
        generalize w1.heap.size = g10 at *
        obtain ⟨_, q0, q1, q2, _, _, _⟩ := b2'.drew
        obtain ⟨_, r0, r1, r2, _, _, _⟩ := b10.drew
        have m1 := (b2'.onA (.cells #[.int .u8 1, .int .u8 0] 5)).drew
        have m2 := (b10.onA (.cells #[.int .u8 1, .int .u8 0] 5)).drew
        have hoW := (Own.litTwo (Below.refl _ W) 1 0).drew
        have hrW := (hr.below ((Below.refl _ W).alloc (Nat.le_refl _) (.cells #[.int .u8 1, .int .u8 0] 5))).drew
        have hn1 : w.heap.size ≠ w.heap.size + 1 := by omega
        have hn2 : g10 ≠ w.heap.size + 1 := by omega
        have HS : Hid ([1, 0] ++ enc (cut (low x 64) a n) = enc cd) := Lib.hid (by rw [hcd]; unfold oldX; rw [enc_app]; rfl)
        clear hcd
        go_region_held3 (fun w' => w'.cell? ⟨w.heap.size, 1, none⟩ = some (.int .i64 (a : Int)) ∧ w'.cell? ⟨w.heap.size, 2, none⟩ = some (.int .i64 (n : Int)) ∧ w'.cell? ⟨g10, 0, none⟩ = some (.int .u64 (v : Int)) ∧ w'.cell? ⟨g10, 1, none⟩ = some (.int .i64 (a : Int)) ∧ w'.cell? ⟨g10, 2, none⟩ = some (.int .i64 (n : Int)))
          (first | exact ⟨q1, q2, r0, r1, r2⟩ | exact ⟨m1.c1, m1.c2, m2.c0, m2.c1, m2.c2⟩ | exact ⟨(((m1.other hn1 0 _).other hn1 1 _).other hn1 2 _).c1, (((m1.other hn1 0 _).other hn1 1 _).other hn1 2 _).c2, (((m2.other hn2 0 _).other hn2 1 _).other hn2 2 _).c0, (((m2.other hn2 0 _).other hn2 1 _).other hn2 2 _).c1, (((m2.other hn2 0 _).other hn2 1 _).other hn2 2 _).c2⟩) (first
          | (refine step_app (by rfl) (.tmp 58) (.tmp 67) (by rfl) (by rfl) (by rfl) hoW hrW (by simp; omega) ?_; intro v6 w6 ho6 _; clear q1 q2 r0 r1 r2 m1 m2; have m1 := b2'.below ho6.bel; have m2 := b10.below ho6.bel; obtain ⟨_, z0, z1, z2, zf0, zf1, zf2⟩ := b5.below ho6.bel))
        all_goals
          rw [HS.out] at ho6
          have hb5 := b5.lt
          have bz := (b5.below ho6.bel).set (.int .u64 (v : Int)) (.int .i64 (a : Int)) (.int .i64 (n : Int))
          have hmid := (((Mid.of ho6 hbW).set ⟨w.heap.size + 1, 0, none⟩ (.int .u64 (v : Int)) (Nat.le_succ _) hb5).set ⟨w.heap.size + 1, 1, none⟩ (.int .i64 (a : Int)) (Nat.le_succ _) hb5).set ⟨w.heap.size + 1, 2, none⟩ (.int .i64 (n : Int)) (Nat.le_succ _) hb5
          obtain ⟨A6, c6, rfl, _⟩ := ho6.form
          rw [enc_length] at hmid ⊢
          clear m1 m2 z0 z1 z2 zf0 zf1 zf2
          subst hnx
          go_wp2
          refine bodyPost_ret (v := .tuple #[.slice A6 cd.length c6, .agg #[.int .u64 (v : Int), .int .i64 (a : Int), .int .i64 (n : Int)]]) ?_ rfl ⟨_, _, rfl, hmid.own⟩
          simp [results, Tryz.results112, go_sem, bz.c0, bz.c1, bz.c2]
      · have hcd : cd = newX x := by rw [← HC.out]; unfold codeOf; rw [if_neg h0, if_neg hf]
        have hnx : nx = ⟨v, lzN x, szN x⟩ := by rw [← HN.out]; unfold nextOf; rw [if_neg (by simp [h0, hf])]
        clear HC HN h0
        have hf' : ¬ (0 < n ∧ a ≤ lzN x ∧ 64 - a - n ≤ tzN x) := hf
        clear hf
        obtain ⟨tx, htx⟩ : ∃ tx, 63 - tzN x = tx := ⟨_, rfl⟩
        obtain ⟨kx, hkx⟩ : ∃ kx, szN x = kx := ⟨_, rfl⟩
        obtain ⟨lx, hlx⟩ : ∃ lx, lzN x = lx := ⟨_, rfl⟩
        have htl : tx + 1 = lx + kx := by unfold szN at hkx; omega
        have hnf : 0 < n → a ≤ lx → a + n ≤ tx := fun h1 h2 => by omega
        have HS1 : Hid ([1, 1] ++ enc (low lx 6) ++ enc (low (kx - 1) 6) ++ enc (cut (low x 64) lx kx) = enc cd) := Lib.hid (by
          rw [hcd]; unfold newX; rw [enc_app, enc_app, enc_app, hlx, hkx]; rfl)
        rw [hlx, hkx] at hnx
        rw [hkx] at hs1 hs2
        rw [hlx] at hs2 hl63
        rw [htx, hlx]
        clear hf' hcd hkx hlx htx hs3 ht63
        replace hr1 := hr1.win (a := lx) (n := kx) hs2
        rw [show lx + kx - lx = tx + 1 - lx by omega] at hr1
        have hbW := hown.bel
        have HTL := Lib.hid htl
        have HNF := Lib.hid hnf
        clear htl hnf
        go_upto_region 14 with fail
        clear hown b2 q0 q1 q2
        obtain ⟨_, q0, q1, q2, _, _, _⟩ := b2'
        generalize w1.alloc (.cells #[.int .u64 (v : Int), .int .i64 (a : Int), .int .i64 (n : Int)] 127) = W at *
        generalize w1.heap.size = g10 at *
        go_cut [57] (fun b wx => b = .bool false ∧ W = wx)
        case first =>
          by_cases h1 : 0 < n
          · by_cases h2 : a ≤ lx
            · have h3 := HNF.out h1 h2
              go_wp2_with fail
              go_meet
              exact ⟨by simp; omega, rfl⟩
            · go_wp2_with fail
              go_meet
              exact ⟨rfl, rfl⟩
          · go_wp2_with fail
            go_meet
            exact ⟨rfl, rfl⟩
        case rest =>
          obtain ⟨rfl, rfl⟩ := hcut
          clear HNF q0 q1 q2
          subst hnx
          have b10t := b10
          obtain ⟨_, r0, r1, r2, rf0, rf1, rf2⟩ := b10t
          have hsz : IntKind.i64.wrap ((tx : Int) - (lx : Int)) = (tx : Int) - (lx : Int) := by have := HTL.out; rw [IntKind.wrap_i64]; omega
          have hsz2 : (tx : Int) - (lx : Int) + 1 = (kx : Int) := by have := HTL.out; omega
          go_upto_region 18 with fail
          replace b10 := b10.set12 (.int .i64 (lx : Int)) (.int .i64 (kx : Int))
          replace b5 := (b5.other (d := g10) (by omega) 1 (.int .i64 (lx : Int))).other (d := g10) (by omega) 2 (.int .i64 (kx : Int))
          replace hbW := (hbW.setCell (p := ⟨g10, 1, none⟩) (by dsimp only; omega) (.int .i64 (lx : Int))).setCell (p := ⟨g10, 2, none⟩) (by dsimp only; omega) (.int .i64 (kx : Int))
          replace hr1 := (hr1.oth (Nat.le_refl _) 1 (.int .i64 (lx : Int))).oth (Nat.le_refl _) 2 (.int .i64 (kx : Int))
          clear r0 r1 r2 rf0 rf1 rf2 hsz hsz2
          generalize (W.setCell ⟨g10, 1, none⟩ (.int .i64 (lx : Int))).setCell ⟨g10, 2, none⟩ (.int .i64 (kx : Int)) = W2 at *
          have h64 : lx ≤ 18446744073709551615 := by omega
          go_wp2_with fail
          refine (low_any lx 6 _ (by omega) (by omega)).mono ?_
          rintro e w3 ⟨A3, c3, rfl, hlo⟩
          have hoT := (Own.litTwo (Below.refl _ W2) 1 1).keep hlo.bel
          obtain ⟨L1, HL1⟩ : ∃ L1, Hid (enc (low lx 6) = L1) := ⟨_, Lib.hid rfl⟩
          have HL1L : Hid (L1.length = 6) := Lib.hid (by rw [← HL1.out, enc_length, low_length])
          rw [HL1.out] at hlo HS1 ⊢
          have hlr := hlo.rd
          rw [HL1L.out] at hlr ⊢
          obtain ⟨L2, HL2⟩ : ∃ L2, Hid ([1, 1] ++ L1 = L2) := ⟨_, Lib.hid rfl⟩
          have HL2L : Hid (L2.length = 8) := Lib.hid (by rw [← HL2.out, List.length_append, HL1L.out]; rfl)
          clear hlo
          go_wp2_with (at_builtin; (refine wpList_app rfl (.tmp 77) (.tmp 80) rfl rfl rfl hoT hlr (by simp) ?_; intro v5 w5 ho5; rw [HL2.out] at ho5; obtain ⟨_, r0, r1, r2, _, _, _⟩ := b10.below ho5.bel))
          rw [show (kx : Int) - 1 = ((kx - 1 : Nat) : Int) by omega]
          refine (low_any (kx - 1) 6 _ (by omega) (by omega)).mono ?_
          rintro e w6 ⟨A6, c6, rfl, hlo⟩
          have hoT2 := ho5.keep hlo.bel
          obtain ⟨L3, HL3⟩ : ∃ L3, Hid (enc (low (kx - 1) 6) = L3) := ⟨_, Lib.hid rfl⟩
          have HL3L : Hid (L3.length = 6) := Lib.hid (by rw [← HL3.out, enc_length, low_length])
          rw [HL3.out] at hlo HS1 ⊢
          have hlr := hlo.rd
          rw [HL3L.out] at hlr ⊢
          obtain ⟨L4, HL4⟩ : ∃ L4, Hid (L2 ++ L3 = L4) := ⟨_, Lib.hid rfl⟩
          have HL4L : Hid (L4.length = 14) := Lib.hid (by rw [← HL4.out, List.length_append, HL3L.out, HL2L.out])
          clear hlo r0 r1 r2 ho5
          go_wp2_with (at_builtin; (refine wpList_app rfl (.tmp 82) (.tmp 87) rfl rfl rfl hoT2 hlr (by rw [HL2L.out]; omega) ?_; intro v7 w7 ho7; rw [HL4.out] at ho7))
          have htx := HTL.out
          have hlt2 := b10.lt
          have hsum : IntKind.i64.wrap ((tx : Int) + 1) = (tx : Int) + 1 := by rw [IntKind.wrap_i64]; omega
          have i1 : (0 : Int) ≤ (lx : Int) := by omega
          have i2 : (lx : Int) ≤ (tx : Int) + 1 := by omega
          have i3 : (tx : Int) + 1 ≤ (c1 : Int) := by omega
          have i4 : (0 : Int) ≤ (tx : Int) + 1 := by omega
          have i5 : (c1 = lx) = False := eq_false (by omega)
          have htl6 : tx + 1 - lx = kx := by omega
          have HTX := Lib.hid htl6
          have hn2 : g10 ≠ w.heap.size + 1 := by omega
          clear htx htl6 HTL hoT2 hlr hoT
          have hrW := (hr1.below (ho7.bel.mono (Nat.le_of_lt hlt2))).drew
          have hoW := ho7.drew
          have m2 := b10.below ho7.bel
          obtain ⟨_, r0, r1, r2, _, _, _⟩ := m2.drew
          have HS : Hid (L4 ++ enc (cut (low x 64) lx kx) = enc cd) := Lib.hid (by rw [← HL4.out, ← HL2.out, HS1.out])
          go_region_held3 (fun w' => w'.cell? ⟨g10, 0, none⟩ = some (.int .u64 (v : Int)) ∧ w'.cell? ⟨g10, 1, none⟩ = some (.int .i64 (lx : Int)) ∧ w'.cell? ⟨g10, 2, none⟩ = some (.int .i64 (kx : Int)))
            (first | exact ⟨r0, r1, r2⟩ | exact ⟨m2.c0, m2.c1, m2.c2⟩ | exact ⟨(((m2.other hn2 0 _).other hn2 1 _).other hn2 2 _).c0, (((m2.other hn2 0 _).other hn2 1 _).other hn2 2 _).c1, (((m2.other hn2 0 _).other hn2 1 _).other hn2 2 _).c2⟩) (first
            | (refine step_app (by rfl) (.tmp 89) (.tmp 94) (by rfl) (by rfl) (by rfl) hoW hrW (by rw [HL4L.out, HTX.out]; omega) ?_; intro v8 w8 ho8 _; clear r0 r1 r2 m2; have m2 := b10.below ho8.bel; obtain ⟨_, z0, z1, z2, zf0, zf1, zf2⟩ := b5.below ho8.bel))
          all_goals
            rw [HS.out] at ho8
            have hb5 := b5.lt
            have bz := (b5.below ho8.bel).set (.int .u64 (v : Int)) (.int .i64 (lx : Int)) (.int .i64 (kx : Int))
            have hmid := (((Mid.of ho8 hbW).set ⟨w.heap.size + 1, 0, none⟩ (.int .u64 (v : Int)) (Nat.le_succ _) hb5).set ⟨w.heap.size + 1, 1, none⟩ (.int .i64 (lx : Int)) (Nat.le_succ _) hb5).set ⟨w.heap.size + 1, 2, none⟩ (.int .i64 (kx : Int)) (Nat.le_succ _) hb5
            obtain ⟨A9, c9, rfl, _⟩ := ho8.form
            rw [enc_length] at hmid ⊢
            clear m2 z0 z1 z2 zf0 zf1 zf2
            go_wp2
            refine bodyPost_ret (v := .tuple #[.slice A9 cd.length c9, .agg #[.int .u64 (v : Int), .int .i64 (lx : Int), .int .i64 (kx : Int)]]) ?_ rfl ⟨_, _, rfl, hmid.own⟩
            simp [results, Tryz.results112, go_sem, bz.c0, bz.c1, bz.c2]
end Go.Proofs.YtbocpgffddkfdaaGreatDoor

namespace Go.Proofs.YtbocpgffddkfdaaGreatDoor
open Go.RowKit

def RetRG (w : World) (r : XA) (e : Ending) (w' : World) : Prop :=
  e = .returned (.tuple #[.int .u64 (r.v : Int), .agg #[.int .u64 (r.s.prev : Int), .int .i64 (r.s.lead : Int), .int .i64 (r.s.len : Int)], .int .i64 (r.n : Int), .int .i64 (r.e : Int)]) ∧ Below w.heap.size w w'
theorem refTwo_below (w : World) (a b : Obj) : Below w.heap.size w ((w.alloc a).alloc b) := ((Below.refl _ _).alloc (Nat.le_refl _) _).alloc (by simp) _
theorem strB_enc {p q : List Bool} (h : strB (enc p) = strB (enc q)) : p = q := by
  unfold strB at h
  injection h with h
  have h2 := congrArg Array.toList h
  simp only at h2
  unfold enc at h2
  rw [List.map_map, List.map_map] at h2
  refine (List.map_inj_right ?_).1 h2
  intro a b hab
  cases a <;> cases b <;> first | rfl | (exfalso; revert hab; decide)
theorem Rd.winA {w : World} {B m c a n : Nat} {ad : Addr} {q : List Bool} (h : Rd w B (some ad) m c (enc q)) (ha : 0 < a) (han : a + n ≤ m) : Rd w B (some ⟨ad.block, ad.off + a, none⟩) n (c - a) (enc (cut q a n)) := by
  have hr := h.cutTo (a := a) (n := n) han
  have hadd : Option.map (fun x => x.add a) (some ad) = some ⟨ad.block, ad.off + a, none⟩ := by
    show some (Addr.add _ a) = _
    unfold Addr.add
    rw [if_neg (by omega)]
  rw [enc_cut, hadd] at hr
  exact hr
theorem num_zeros_front (a : Nat) (c : List Bool) : num (List.replicate a false ++ c) = num c := by
  rw [num_app]
  have : num (List.replicate a false) = 0 := by
    induction a with
    | zero => rfl
    | succ a ih => rw [List.replicate_succ', num_snoc, ih]; rfl
  rw [this, Nat.zero_mul, Nat.zero_add]
theorem num_zeros_back (c : List Bool) (z : Nat) : num (c ++ List.replicate z false) = num c * 2 ^ z := by
  rw [num_app, List.length_replicate]
  have : num (List.replicate z false) = 0 := by
    have := num_zeros_front z []
    rwa [List.append_nil] at this
  rw [this, Nat.add_zero]
theorem enc_falses (n : Nat) : List.replicate n 0 = enc (List.replicate n false) := by simp [enc]
set_option maxRecDepth 20000 in
set_option maxHeartbeats 1000000 in
theorem rgetx_none (A : Option Addr) (c : Nat) (q : List Bool) (p a k : Nat) (w : World) (hq : q.length = 0) :
    Calls Tryz.prog 93 #[.agg #[.int .u64 (p : Int), .int .i64 (a : Int), .int .i64 (k : Int)], .slice A 0 c] w (RetRG w (getX ⟨p, a, k⟩ q)) := by
  have e : getX ⟨p, a, k⟩ q = badX 2 := by unfold getX; rw [if_pos hq]
  rw [e]
  go_enter Tryz.func93, Tryz.ntmps93
  go_wp2
  go_returns
  exact ⟨rfl, refTwo_below _ _ _⟩
set_option maxRecDepth 20000 in
set_option maxHeartbeats 1000000 in
theorem rgetx_same (ad : Addr) (m c : Nat) (q : List Bool) (p a k : Nat) (w : World) (h : Rd w w.heap.size (some ad) m c (enc q)) (hm : 0 < m) (h0 : q.getD 0 false = false) :
    Calls Tryz.prog 93 #[.agg #[.int .u64 (p : Int), .int .i64 (a : Int), .int .i64 (k : Int)], .slice (some ad) m c] w (RetRG w (getX ⟨p, a, k⟩ q)) := by
  have hl : q.length = m := by have := h.len; rwa [enc_length] at this
  have e : getX ⟨p, a, k⟩ q = ⟨p, ⟨p, a, k⟩, 1, 0⟩ := by unfold getX; rw [if_neg (by omega), if_pos h0]
  rw [e]
  have hb0 := refTwo_below w (.cells #[.int .u64 (p : Int), .int .i64 (a : Int), .int .i64 (k : Int)] 127) (.cells #[.int .u64 0, .int .i64 0, .int .i64 0] 127)
  obtain ⟨ad', e', _, hc⟩ := (h.below hb0).at_ hm
  injection e' with e'
  subst e'
  rw [enc_getD, h0, show ad.add 0 = ad by simp [Addr.add], show ((false.toNat : Nat) : Int) = 0 from rfl] at hc
  have b5 := Box3.new (w.alloc (.cells #[.int .u64 (p : Int), .int .i64 (a : Int), .int .i64 (k : Int)] 127)) (.int .u64 0) (.int .i64 0) (.int .i64 0) 127
  have b2 := (Box3.new w (.int .u64 (p : Int)) (.int .i64 (a : Int)) (.int .i64 (k : Int)) 127).onA (.cells #[.int .u64 0, .int .i64 0, .int .i64 0] 127)
  simp only [World.size_alloc] at b5
  clear h hl e
  go_enter Tryz.func93, Tryz.ntmps93
  go_upto_region 4 with fail
  generalize (w.alloc (.cells #[.int .u64 (p : Int), .int .i64 (a : Int), .int .i64 (k : Int)] 127)).alloc (.cells #[.int .u64 0, .int .i64 0, .int .i64 0] 127) = W at *
  have bz := (b5.set (.int .u64 (p : Int)) (.int .i64 (a : Int)) (.int .i64 (k : Int))).drew
  have hz := (refset3 hb0 (g := w.heap.size + 1) (by omega) (.int .u64 (p : Int)) (.int .i64 (a : Int)) (.int .i64 (k : Int))).drew
  obtain ⟨_, y0, y1, y2, yf0, yf1, yf2⟩ := b5.drew
  obtain ⟨_, z0, z1, z2, zf0, zf1, zf2⟩ := b5
  obtain ⟨_, r0, r1, r2, _, _, _⟩ := b2.drew
  obtain ⟨_, s0, s1, s2, _, _, _⟩ := b2
  go_region
  all_goals
    go_wp2
    refine bodyPost_ret (v := .tuple #[.int .u64 (p : Int), .agg #[.int .u64 (p : Int), .int .i64 (a : Int), .int .i64 (k : Int)], .int .i64 1, .int .i64 0]) ?_ rfl ⟨rfl, hz⟩
    simp [results, Tryz.results93, go_sem, bz.c0, bz.c1, bz.c2]
set_option maxRecDepth 20000 in
set_option maxHeartbeats 1000000 in
theorem rgetx_one (ad : Addr) (c : Nat) (q : List Bool) (p a k : Nat) (w : World) (h : Rd w w.heap.size (some ad) 1 c (enc q)) (h0 : q.getD 0 false = true) :
    Calls Tryz.prog 93 #[.agg #[.int .u64 (p : Int), .int .i64 (a : Int), .int .i64 (k : Int)], .slice (some ad) 1 c] w (RetRG w (getX ⟨p, a, k⟩ q)) := by
  have hl : q.length = 1 := by have := h.len; rwa [enc_length] at this
  have e : getX ⟨p, a, k⟩ q = badX 2 := by unfold getX; rw [if_neg (by omega), if_neg (by rw [h0]; simp), if_pos hl]
  rw [e]
  have hb0 := refTwo_below w (.cells #[.int .u64 (p : Int), .int .i64 (a : Int), .int .i64 (k : Int)] 127) (.cells #[.int .u64 0, .int .i64 0, .int .i64 0] 127)
  obtain ⟨ad', e', _, hc⟩ := (h.below hb0).at_ (k := 0) (by omega)
  injection e' with e'
  subst e'
  rw [enc_getD, h0, show ad.add 0 = ad by simp [Addr.add], show ((true.toNat : Nat) : Int) = 1 from rfl] at hc
  clear h hl e
  go_enter Tryz.func93, Tryz.ntmps93
  go_wp2
  go_returns
  exact ⟨rfl, refTwo_below _ _ _⟩
theorem number_quiet (A : Option Addr) (n c B : Nat) (p : List Bool) (w : World) (k : Nat) (h : Rd w B A n c (enc p)) (hn : n ≤ 64) :
    Calls Tryz.prog 76 #[.slice A n c] (w.drewN k) fun e w' => e = .returned (.int .u64 ((num p : Nat) : Int)) ∧ ∃ m, w' = w.drewN m :=
  (number_any A n c B p (w.drewN k) (h.drewN k) hn).mono fun _ _ ⟨he, hw⟩ => ⟨he, k, hw.symm⟩
set_option maxRecDepth 20000 in
set_option maxHeartbeats 2000000 in
theorem rgetx_two (ad : Addr) (m c : Nat) (q : List Bool) (p a k : Nat) (w : World) (h : Rd w w.heap.size (some ad) m c (enc q)) (hm : 2 ≤ m) (hm2 : m ≤ 100000) (hs : XS.May ⟨p, a, k⟩) (h0 : q.getD 0 false = true) :
    Calls Tryz.prog 93 #[.agg #[.int .u64 (p : Int), .int .i64 (a : Int), .int .i64 (k : Int)], .slice (some ad) m c] w (RetRG w (getX ⟨p, a, k⟩ q)) := by
  have hl : q.length = m := by have := h.len; rwa [enc_length] at this
  have hmc := h.cap
  have hp : p ≤ 18446744073709551615 := hs.p
  have ha63 : a ≤ 63 := hs.a
  have hak : a + k ≤ 64 := hs.b
  have HG : Hid (getX ⟨p, a, k⟩ q = if q.getD 1 false = false then tailX ⟨p, a, k⟩ q 2 a k else if m < 14 then badX 2 else tailX ⟨p, a, k⟩ q 14 (num (cut q 2 6)) (num (cut q 8 6) + 1)) := Lib.hid (by
    unfold getX; rw [if_neg (by omega), if_neg (by rw [h0]; simp), if_neg (by omega), hl])
  obtain ⟨R, HR⟩ : ∃ R, Hid (getX ⟨p, a, k⟩ q = R) := ⟨_, Lib.hid rfl⟩
  rw [HR.out] at HG ⊢
  clear HR
  obtain ⟨b1, HB⟩ : ∃ b1, Hid (q.getD 1 false = b1) := ⟨_, Lib.hid rfl⟩
  rw [HB.out] at HG
  have hb0 := refTwo_below w (.cells #[.int .u64 (p : Int), .int .i64 (a : Int), .int .i64 (k : Int)] 127) (.cells #[.int .u64 0, .int .i64 0, .int .i64 0] 127)
  have hW := (h.below hb0).more hb0.size
  obtain ⟨ad', e', _, hc0⟩ := hW.at_ (k := 0) (by omega)
  injection e' with e'
  subst e'
  obtain ⟨ad', e', _, hc1⟩ := hW.at_ (k := 1) (by omega)
  injection e' with e'
  subst e'
  rw [enc_getD, h0, show ad.add 0 = ad by simp [Addr.add], show ((true.toNat : Nat) : Int) = 1 from rfl] at hc0
  rw [enc_getD, HB.out, show ad.add 1 = ⟨ad.block, ad.off + 1, none⟩ by simp [Addr.add]] at hc1
  have b5 := Box3.new (w.alloc (.cells #[.int .u64 (p : Int), .int .i64 (a : Int), .int .i64 (k : Int)] 127)) (.int .u64 0) (.int .i64 0) (.int .i64 0) 127
  have b2 := (Box3.new w (.int .u64 (p : Int)) (.int .i64 (a : Int)) (.int .i64 (k : Int)) 127).onA (.cells #[.int .u64 0, .int .i64 0, .int .i64 0] 127)
  simp only [World.size_alloc] at b5
  clear h h0
  have HL := Lib.hid hl
  clear hl
  go_enter Tryz.func93, Tryz.ntmps93
  go_upto_if 37 with fail
  generalize (w.alloc (.cells #[.int .u64 (p : Int), .int .i64 (a : Int), .int .i64 (k : Int)] 127)).alloc (.cells #[.int .u64 0, .int .i64 0, .int .i64 0] 127) = W at *
  go_cut [8, 9, 10] (fun x8 x9 x10 wx => ∃ l n hd : Nat, x8 = .int .i64 (l : Int) ∧ x9 = .int .i64 (n : Int) ∧ x10 = .int .i64 (hd : Int) ∧ R = tailX ⟨p, a, k⟩ q hd l n ∧ l ≤ 63 ∧ n ≤ 64 ∧ 2 ≤ hd ∧ hd ≤ 14 ∧ W = wx)
  case first =>
    cases b1
    · replace hc1 : W.cell? ⟨ad.block, ad.off + 1, none⟩ = some (.int .u8 0) := hc1
      go_wp2_with fail
      go_meet
      exact ⟨a, k, 2, rfl, rfl, rfl, HG.out.trans (if_pos (by first | rfl | trivial)), ha63, by omega, by omega, by omega, rfl⟩
    · replace hc1 : W.cell? ⟨ad.block, ad.off + 1, none⟩ = some (.int .u8 1) := hc1
      by_cases h14 : m < 14
      · have hRe : R = badX 2 := by rw [HG.out, if_neg (by simp), if_pos h14]
        clear HG
        subst hRe
        have bz := b5.set (.int .u64 0) (.int .i64 0) (.int .i64 0)
        have hz := refset3 hb0 (g := w.heap.size + 1) (by omega) (.int .u64 0) (.int .i64 0) (.int .i64 0)
        obtain ⟨_, z0, z1, z2, zf0, zf1, zf2⟩ := b5
        go_wp2
        refine bodyPost_ret (v := .tuple #[.int .u64 0, .agg #[.int .u64 0, .int .i64 0, .int .i64 0], .int .i64 0, .int .i64 2]) ?_ rfl ⟨rfl, hz⟩
        simp [results, Tryz.results93, go_sem, bz.c0, bz.c1, bz.c2]
      · have hRe : R = tailX ⟨p, a, k⟩ q 14 (num (cut q 2 6)) (num (cut q 8 6) + 1) := by rw [HG.out, if_neg (by simp), if_neg h14]
        have n1 := num_cut_lt q 2 6
        have n2 := num_cut_lt q 8 6
        have w1 := hW.winA (a := 2) (n := 6) (by omega) (by omega)
        have w2 := hW.winA (a := 8) (n := 6) (by omega) (by omega)
        have hN1 := fun (X : World) (h : Rd X W.heap.size (some ⟨ad.block, ad.off + 2, none⟩) 6 (c - 2) (enc (cut q 2 6))) => number_any _ 6 (c - 2) _ _ X h (by omega)
        have hN2 := fun (X : World) (h : Rd X W.heap.size (some ⟨ad.block, ad.off + 8, none⟩) 6 (c - 8) (enc (cut q 8 6))) => number_any _ 6 (c - 8) _ _ X h (by omega)
        have HRe := Lib.hid hRe
        clear hRe HG
        generalize num (cut q 2 6) = l at *
        generalize num (cut q 8 6) = b at *
        go_wp2_with fail
        refine (hN1 _ w1).mono ?_
        rintro e w3 ⟨rfl, rfl⟩
        go_wp2_with fail
        refine (hN2 _ w2).mono ?_
        rintro e w3 ⟨rfl, rfl⟩
        go_wp2_with fail
        go_meet
        exact ⟨l, b + 1, 14, by go_num, by go_num, rfl, HRe.out, by omega, by omega, by omega, by omega, rfl⟩
  case rest =>
    obtain ⟨l, n, hd, rfl, rfl, rfl, hRe, hl63, hn64, hd2, hd14, rfl⟩ := hcut
    have HRe := Lib.hid hRe
    clear hRe HG HB hc0 hc1
    have b5t := b5
    have bz := b5.set (.int .u64 0) (.int .i64 0) (.int .i64 0)
    have hz := refset3 hb0 (g := w.heap.size + 1) (by omega) (.int .u64 0) (.int .i64 0) (.int .i64 0)
    by_cases hn0 : n = 0
    · have hRe : R = badX 3 := by rw [HRe.out]; unfold tailX; rw [if_pos (.inl hn0)]
      clear HRe
      subst hRe hn0
      obtain ⟨_, z0, z1, z2, zf0, zf1, zf2⟩ := b5t
      go_wp2
      refine bodyPost_ret (v := .tuple #[.int .u64 0, .agg #[.int .u64 0, .int .i64 0, .int .i64 0], .int .i64 0, .int .i64 3]) ?_ rfl ⟨rfl, hz⟩
      simp [results, Tryz.results93, go_sem, bz.c0, bz.c1, bz.c2]
    · have hnz : ((n : Int) == 0) = false := by simp; omega
      by_cases hw : 64 < l + n
      · have hRe : R = badX 3 := by rw [HRe.out]; unfold tailX; rw [if_pos (.inr hw)]
        clear HRe
        subst hRe
        obtain ⟨_, z0, z1, z2, zf0, zf1, zf2⟩ := b5t
        go_wp2
        refine bodyPost_ret (v := .tuple #[.int .u64 0, .agg #[.int .u64 0, .int .i64 0, .int .i64 0], .int .i64 0, .int .i64 3]) ?_ rfl ⟨rfl, hz⟩
        simp [results, Tryz.results93, go_sem, bz.c0, bz.c1, bz.c2]
      · by_cases hml : m < hd + n
        · have hRe : R = badX 2 := by rw [HRe.out]; unfold tailX; rw [if_neg (by omega), HL.out, if_pos hml]
          clear HRe
          subst hRe
          obtain ⟨_, z0, z1, z2, zf0, zf1, zf2⟩ := b5t
          go_wp2
          refine bodyPost_ret (v := .tuple #[.int .u64 0, .agg #[.int .u64 0, .int .i64 0, .int .i64 0], .int .i64 0, .int .i64 2]) ?_ rfl ⟨rfl, hz⟩
          simp [results, Tryz.results93, go_sem, bz.c0, bz.c1, bz.c2]
        · have hRe : R = testX ⟨p, a, k⟩ q hd n (wordX q hd l n) := by rw [HRe.out]; unfold tailX; rw [if_neg (by omega), HL.out, if_neg hml]
          replace HRe := Lib.hid hRe
          clear hRe b5t hz bz
          have i1 : (0 : Int) ≤ (hd : Int) := by omega
          have i2 : (hd : Int) ≤ (hd : Int) + (n : Int) := by omega
          have i3 : (hd : Int) + (n : Int) ≤ (c : Int) := by omega
          have i4 : (0 : Int) ≤ (hd : Int) + (n : Int) := by omega
          have i5 : (c = hd) = False := eq_false (by omega)
          have hsum : IntKind.i64.wrap ((hd : Int) + (n : Int)) = (hd : Int) + (n : Int) := by rw [IntKind.wrap_i64]; omega
          have hcu : Rd W W.heap.size (some (ad.add hd)) (hd + n - hd) (c - hd) (enc (cut q hd n)) := by
            have := hW.cutTo (a := hd) (n := n) (by omega)
            rw [enc_cut] at this
            rw [Nat.add_sub_cancel_left]
            exact this
          go_upto_region 20 with fail
          obtain ⟨w3, hmk, ho3, hb3⟩ := run_mk (Below.refl _ W).drew l (by omega)
          have hcu3 := hcu.below ((Below.refl _ W).drew.trans hb3)
          have s0 := b2.drew.c0
          have s1 := (b2.below ho3.bel).c0
          go_region_held3 (fun w' => w'.cell? ⟨w.heap.size, 0, none⟩ = some (.int .u64 (p : Int))) (first | exact s0 | exact s1 | exact s2) (first
            | (refine step_app (by rfl) (.tmp 68) (.tmp 74) (by rfl) (by rfl) (by rfl) ho3 hcu3 (by simp; omega) ?_; intro v4 w4 ho4 _; have s2 := (b2.below ho4.bel).c0))
          all_goals
            clear hmk hcu hcu3 ho3 hb3 s0 s1 s2 i2 i5
            obtain ⟨z, hz⟩ : ∃ z, 64 - l - n = z := ⟨_, rfl⟩
            have hzz : 64 - (l : Int) - (n : Int) = (z : Int) := by omega
            have hz64 : z ≤ 64 := by omega
            obtain ⟨xb, hxb⟩ : ∃ xb, xb = List.replicate l false ++ cut q hd n ++ List.replicate z false := ⟨_, rfl⟩
            have hql : hd + n ≤ q.length := by rw [HL.out]; omega
            have HX : Hid (List.replicate l 0 ++ enc (cut q hd n) ++ List.replicate z 0 = enc xb) := Lib.hid (by rw [hxb, enc_app, enc_app, ← enc_falses, ← enc_falses])
            have HXL : Hid (xb.length = 64) := Lib.hid (by
              rw [hxb, List.length_append, List.length_append, List.length_replicate, List.length_replicate, cut_length _ _ _ hql]; omega)
            have HXN : Hid (num xb = wordX q hd l n) := Lib.hid (by rw [hxb, List.append_assoc, num_zeros_front, num_zeros_back, ← hz]; rfl)
            have HL1 : Hid ((List.replicate l 0 ++ enc (cut q hd n)).length = l + n) := Lib.hid (by rw [List.length_append, List.length_replicate, enc_length, cut_length _ _ _ hql])
            have hx64 := wordX_le q (h := hd) (a := l) (n := n) (by omega)
            clear hz hxb
            go_wp2_with (at_builtin; (refine wpList_zeros rfl (.tmp 76) (.tmp 80) rfl z rfl rfl (by first | rfl | exact hzz) ho4 (by rw [HL1.out]; omega) ?_; intro v5 w5 ho5 _; rw [HX.out] at ho5))
            obtain ⟨A5, c5, rfl, hr5⟩ := ho5.form
            have HX5 : Hid ((enc xb).length = 64) := Lib.hid (by rw [enc_length, HXL.out])
            rw [HX5.out] at hr5 ⊢
            have hbw := ho5.bel
            clear ho4 ho5
            have hNq := fun (nn : Nat) => number_quiet A5 64 c5 _ xb w5 nn hr5 (by omega)
            rw [HXN.out] at hNq
            have hxor := u64_xor_nat p (wordX q hd l n) (by omega) (by omega)
            generalize wordX q hd l n = x at *
            have hv := xor_lt hp hx64
            have hxe : p ^^^ (p ^^^ x) = x := xor_back p x
            have HXE := Lib.hid hxe
            have hRT : R = if codeX ⟨p, a, k⟩ (p ^^^ x) = q.take (hd + n) then ⟨p ^^^ x, nextX ⟨p, a, k⟩ (p ^^^ x), hd + n, 0⟩ else badX 3 := by
              rw [HRe.out]; unfold testX codeX nextX; simp only [xor_back]
            have hnp := nextX_prev ⟨p, a, k⟩ (p ^^^ x)
            have hcl := (codeX_pos hs hv).2
            have hC := fun X => rcode_loop p a k (p ^^^ x) x X hs hv hxe
            unfold RetRX at hC
            generalize codeX ⟨p, a, k⟩ (p ^^^ x) = cd at *
            generalize nextX ⟨p, a, k⟩ (p ^^^ x) = nx at *
            have HRT := Lib.hid hRT
            have HNP := Lib.hid hnp
            clear hxe hRT hnp HRe
            generalize p ^^^ x = v at *
            go_upto_region 22 with fail
            have q0 := fun nn : Nat => ((b2.below hbw).drewN nn).c0
            go_quiet ((go_at_call 76; exact hNq _))
            have hb6 := below_drewN hbw nq
            clear hNq q0 hr5 HX5 HX HXL HXN HL1 hxor hzz hbw
            generalize w5.drewN nq = W6 at *
            obtain ⟨_, q0, q1, q2, _, _, _⟩ := b2.below hb6
            go_wp2_with fail
            refine (hC _).mono ?_
            rintro e w7 ⟨A7, c7, rfl, ho7⟩
            replace hb6 := hb6.trans (ho7.bel.mono hb6.size)
            obtain ⟨CL, HCL⟩ : ∃ CL, Hid (cd.length = CL) := ⟨_, Lib.hid rfl⟩
            rw [HCL.out] at ho7 hcl ⊢
            have hr7 := ho7.rd
            clear ho7 hC q0 q1 q2
            go_upto_region 24 with fail
            have b14 := Box3.new w7 (.int .u64 (v : Int)) (.int .i64 (nx.lead : Int)) (.int .i64 (nx.len : Int)) 127
            have hlt := hb6.size
            have hal := (Below.refl w7.heap.size w7).alloc (Nat.le_refl _) (.cells #[.int .u64 (v : Int), .int .i64 (nx.lead : Int), .int .i64 (nx.len : Int)] 127)
            replace hr7 := hr7.below hal
            replace hb6 := hb6.alloc hb6.size (.cells #[.int .u64 (v : Int), .int .i64 (nx.lead : Int), .int .i64 (nx.len : Int)] 127)
            clear hal
            generalize w7.alloc (.cells #[.int .u64 (v : Int), .int .i64 (nx.lead : Int), .int .i64 (nx.len : Int)] 127) = W8 at *
            generalize w7.heap.size = g at *
            have hq8 := (hW.below hb6).cutHead (n := hd + n) (by omega)
            rw [enc_take] at hq8
            have hb8 := hb0.trans (hb6.mono hb0.size)
            have b8 := b5.below hb6
            obtain ⟨S1, HS1⟩ : ∃ S1, Hid (strB (enc cd) = S1) := ⟨_, Lib.hid rfl⟩
            obtain ⟨S2, HS2⟩ : ∃ S2, Hid (strB (enc (q.take (hd + n))) = S2) := ⟨_, Lib.hid rfl⟩
            have hq1 := fun nn => run_str (hr7.drewN nn)
            have hq2 := fun nn => run_str (hq8.drewN nn)
            rw [HS1.out] at hq1
            rw [HS2.out] at hq2
            clear hr7 hq8
            by_cases hcn : CL = hd + n
            · have d1 : ((CL : Int) != (hd : Int) + (n : Int)) = false := by simp; omega
              have HCN := Lib.hid hcn
              clear hcn
              by_cases hct : cd = q.take (hd + n)
              · have hss : S1 = S2 := by rw [← HS1.out, ← HS2.out, hct]
                have hRe : R = ⟨v, nx, hd + n, 0⟩ := by rw [HRT.out, if_pos hct]
                clear HS1 HS2 HRT hct
                subst hss hRe
                go_quiet (fail)
                clear hq1 hq2
                have hb9 := below_drewN hb8 nq
                have b9 := b8.drewN nq
                have b14' := b14.drewN nq
                generalize W8.drewN nq = W9 at *
                have hnv : nx.prev = v := HNP.out
                go_upto_region 26 with fail
                have bz := (b9.set (.int .u64 (v : Int)) (.int .i64 (nx.lead : Int)) (.int .i64 (nx.len : Int))).drew
                have hz := (refset3 hb9 (g := w.heap.size + 1) (by omega) (.int .u64 (v : Int)) (.int .i64 (nx.lead : Int)) (.int .i64 (nx.len : Int))).drew
                obtain ⟨_, y0, y1, y2, yf0, yf1, yf2⟩ := b9.drew
                obtain ⟨_, z0, z1, z2, zf0, zf1, zf2⟩ := b9
                obtain ⟨_, r0, r1, r2, _, _, _⟩ := b14'.drew
                obtain ⟨_, s0, s1, s2, _, _, _⟩ := b14'
                go_region
                all_goals
                  go_wp2
                  have hcn' := HCN.out
                  refine bodyPost_ret (v := .tuple #[.int .u64 (v : Int), .agg #[.int .u64 (nx.prev : Int), .int .i64 (nx.lead : Int), .int .i64 (nx.len : Int)], .int .i64 ((hd + n : Nat) : Int), .int .i64 0]) ?_ rfl ⟨rfl, hz⟩
                  rw [← hcn', hnv]
                  simp [results, Tryz.results93, go_sem, bz.c0, bz.c1, bz.c2]
              · have hss : S1 ≠ S2 := fun e => hct (strB_enc (HS1.out.trans (e.trans HS2.out.symm)))
                have hss1 : (S1.toList == S2.toList) = false := str_other hss
                have hRe : R = badX 3 := by rw [HRT.out, if_neg hct]
                clear HS1 HS2 HRT hct
                subst hRe
                go_quiet (fail)
                have bz := (b8.drewN nq).set (.int .u64 0) (.int .i64 0) (.int .i64 0)
                have hz := refset3 (below_drewN hb8 nq) (g := w.heap.size + 1) (by omega) (.int .u64 0) (.int .i64 0) (.int .i64 0)
                obtain ⟨_, z0, z1, z2, zf0, zf1, zf2⟩ := b8.drewN nq
                clear hq1 hq2
                generalize W8.drewN nq = W9 at *
                go_wp2
                refine bodyPost_ret (v := .tuple #[.int .u64 0, .agg #[.int .u64 0, .int .i64 0, .int .i64 0], .int .i64 0, .int .i64 3]) ?_ rfl ⟨rfl, hz⟩
                simp [results, Tryz.results93, go_sem, bz.c0, bz.c1, bz.c2]
            · have d1 : ((CL : Int) != (hd : Int) + (n : Int)) = true := by simp; omega
              have hRe : R = badX 3 := by
                rw [HRT.out, if_neg]
                intro e
                have := congrArg List.length e
                rw [List.length_take, HCL.out, HL.out] at this
                omega
              clear HS1 HS2 HRT hcn hq1 hq2
              subst hRe
              go_quiet (fail)
              have bz := (b8.drewN nq).set (.int .u64 0) (.int .i64 0) (.int .i64 0)
              have hz := refset3 (below_drewN hb8 nq) (g := w.heap.size + 1) (by omega) (.int .u64 0) (.int .i64 0) (.int .i64 0)
              obtain ⟨_, z0, z1, z2, zf0, zf1, zf2⟩ := b8.drewN nq
              generalize W8.drewN nq = W9 at *
              go_wp2
              refine bodyPost_ret (v := .tuple #[.int .u64 0, .agg #[.int .u64 0, .int .i64 0, .int .i64 0], .int .i64 0, .int .i64 3]) ?_ rfl ⟨rfl, hz⟩
              simp [results, Tryz.results93, go_sem, bz.c0, bz.c1, bz.c2]
theorem rgetx_any (A : Option Addr) (m c : Nat) (q : List Bool) (p a k : Nat) (w : World) (h : Rd w w.heap.size A m c (enc q)) (hm : m ≤ 100000) (hs : XS.May ⟨p, a, k⟩) :
    Calls Tryz.prog 93 #[.agg #[.int .u64 (p : Int), .int .i64 (a : Int), .int .i64 (k : Int)], .slice A m c] w (RetRG w (getX ⟨p, a, k⟩ q)) := by
  have hl : q.length = m := by have := h.len; rwa [enc_length] at this
  by_cases hm0 : m = 0
  · subst hm0
    exact rgetx_none A c q p a k w hl
  · obtain ⟨ad, rfl, _, _⟩ := h.cell (by omega)
    cases h0 : q.getD 0 false
    · exact rgetx_same ad m c q p a k w h (by omega) h0
    · by_cases hm1 : m = 1
      · subst hm1
        exact rgetx_one ad c q p a k w h h0
      · exact rgetx_two ad m c q p a k w h (by omega) hm hs h0
end Go.Proofs.YtbocpgffddkfdaaGreatDoor
