/-
  Texts of this proof, one behind the other: Load, Fill, QuickFill.
-/
import Derived.Test.YtaebljoacffghaaGreatDoorGets
import Derived.Test.YtaebljoacffghaaGreatDoorSlowP
import Derived.IntWalk

/-
  The contract of fill's load: of any bytes it returns the number of the first eight, those behind the last one being 0, and changes nothing.
-/
namespace Go.Proofs.YtaebljoacffghaaGreatDoor
open Go.RowKit

theorem shift_lt (x s : Nat) (hx : x < 256) (hs : s ≤ 56) : x * 2 ^ s ≤ 18446744073709551615 := by
  have h1 : 2 ^ s ≤ 2 ^ 56 := Nat.pow_le_pow_right (by omega) hs
  have h2 : x * 2 ^ s ≤ 255 * 2 ^ 56 := Nat.mul_le_mul (by omega) h1
  omega
theorem or_shift (y x s : Nat) (hy : y ≤ 18446744073709551615) (hx : x < 256) (hs : s ≤ 56) :
    bits .or .u64 (y : Int) (IntKind.u64.wrap ((x : Int) * 2 ^ s)) = ((y ||| x * 2 ^ s : Nat) : Int) := by
  have h := shift_lt x s hx hs
  have e : (x : Int) * 2 ^ s = ((x * 2 ^ s : Nat) : Int) := by simp
  rw [e, wrap_u64 _ h, u64_or_nat _ _ (by omega) (by omega)]

set_option maxRecDepth 20000 in
set_option maxHeartbeats 400000 in
theorem load_few (A : Option Addr) (n c B : Nat) (bs : List Nat) (w : World) (h : Rd w B A n c bs) (hb : ∀ x ∈ bs, x < 256) (hn : n < 8) :
    Calls Tryz.prog 133 #[.slice A n c] w fun e w' => e = .returned (.int .u64 ((word bs : Nat) : Int)) ∧ w = w' := by
  have HB := Lib.hid hb
  clear hb
  have HL := Lib.hid h.len
  go_enter Tryz.func133, Tryz.ntmps133
  go_wp2
  go_loop [3, 57] (fun v i => ∃ k : Nat, k ≤ n ∧ i = .int .i64 k ∧ v = .int .u64 ((word (bs.take k) : Nat) : Int)) (fun _ i => n - (intOf i).toNat)
  case atStart => exact ⟨0, Nat.zero_le _, rfl, by rw [List.take_zero, word_nil]; rfl⟩
  case round =>
    obtain ⟨k, hk, rfl, rfl⟩ := hrel
    by_cases hlt : k < n
    · obtain ⟨ad, rfl, hbl, hc⟩ := h.at_ hlt
      have hx := getD_lt HB.out k
      have hy := word_lt (bs.take k)
      have H3 := Lib.hid (word_step bs k (by omega) HB.out)
      generalize bs.getD k 0 = x at *
      generalize word (bs.take k) = y at *
      go_wp2
      go_round
      case rel => exact ⟨k + 1, by omega, by go_num, by rw [H3.out, or_shift _ _ _ hy hx (by omega)]⟩
      case measure => simp [intOf]; omega
    · go_wp2
      go_ret
      have e : bs.take k = bs := List.take_of_length_le (by have := HL.out; omega)
      rw [e]
      exact ⟨rfl, rfl⟩

theorem or_two (y x s : Nat) (hy : y < 18446744073709551616) (hx : x < 256) (k : Nat) (hk : k = 2 ^ s) (hs : s ≤ 56) : bits .or .u64 (y : Int) ((x : Int) * (k : Int)) = ((y ||| x * 2 ^ s : Nat) : Int) ∧ y ||| x * 2 ^ s < 18446744073709551616 := by
  have h := shift_lt x s hx hs
  have e : (x : Int) * (k : Int) = ((x * 2 ^ s : Nat) : Int) := by rw [hk]; simp
  refine ⟨by rw [e, u64_or_nat _ _ (by omega) (by omega)], ?_⟩
  exact Nat.or_lt_two_pow (n := 64) (by omega) (by omega)
theorem or_eight (b0 b1 b2 b3 b4 b5 b6 b7 : Nat) (x0 : b0 < 256) (x1 : b1 < 256) (x2 : b2 < 256) (x3 : b3 < 256) (x4 : b4 < 256) (x5 : b5 < 256) (x6 : b6 < 256) (x7 : b7 < 256) :
    bits .or .u64 (bits .or .u64 (bits .or .u64 (bits .or .u64 (bits .or .u64 (bits .or .u64 (bits .or .u64 ((b0 : Int) * 72057594037927936) ((b1 : Int) * 281474976710656)) ((b2 : Int) * 1099511627776)) ((b3 : Int) * 4294967296)) ((b4 : Int) * 16777216)) ((b5 : Int) * 65536)) ((b6 : Int) * 256)) (b7 : Int) =
      ((b0 * 2 ^ 56 ||| b1 * 2 ^ 48 ||| b2 * 2 ^ 40 ||| b3 * 2 ^ 32 ||| b4 * 2 ^ 24 ||| b5 * 2 ^ 16 ||| b6 * 2 ^ 8 ||| b7 : Nat) : Int) := by
  have e0 : (b0 : Int) * 72057594037927936 = ((b0 * 2 ^ 56 : Nat) : Int) := by simp
  obtain ⟨e1, h1⟩ := or_two (b0 * 2 ^ 56) b1 48 (by omega) x1 281474976710656 (by decide) (by omega)
  obtain ⟨e2, h2⟩ := or_two _ b2 40 h1 x2 1099511627776 (by decide) (by omega)
  obtain ⟨e3, h3⟩ := or_two _ b3 32 h2 x3 4294967296 (by decide) (by omega)
  obtain ⟨e4, h4⟩ := or_two _ b4 24 h3 x4 16777216 (by decide) (by omega)
  obtain ⟨e5, h5⟩ := or_two _ b5 16 h4 x5 65536 (by decide) (by omega)
  obtain ⟨e6, h6⟩ := or_two _ b6 8 h5 x6 256 (by decide) (by omega)
  rw [e0]
  simp only [show (281474976710656 : Int) = ((281474976710656 : Nat) : Int) from rfl, show (1099511627776 : Int) = ((1099511627776 : Nat) : Int) from rfl, show (4294967296 : Int) = ((4294967296 : Nat) : Int) from rfl, show (16777216 : Int) = ((16777216 : Nat) : Int) from rfl, show (65536 : Int) = ((65536 : Nat) : Int) from rfl, show (256 : Int) = ((256 : Nat) : Int) from rfl]
  rw [e1, e2, e3, e4, e5, e6, u64_or_nat _ _ (by omega) (by omega)]
theorem ret_u64 {a b : Int} (h : a = b) : Ending.returned (.int .u64 a) = .returned (.int .u64 b) := by rw [h]

set_option maxRecDepth 20000 in
set_option maxHeartbeats 400000 in
theorem load_eight (ad : Addr) (n c B : Nat) (bs : List Nat) (w : World) (h : Rd w B (some ad) n c bs) (hb : ∀ x ∈ bs, x < 256) (hn : 8 ≤ n) (hn2 : n ≤ 1000000000) :
    Calls Tryz.prog 133 #[.slice (some ad) n c] w fun e w' => e = .returned (.int .u64 ((word bs : Nat) : Int)) ∧ ∃ m, w' = w.drewN m := by
  have H8 := Lib.hid (word_eight bs hb)
  obtain ⟨ad', e, _, hcell⟩ := h.cell (by omega)
  injection e with e
  subst e
  have c0 : w.cell? ad = some (.int .u8 ((bs.getD 0 0 : Nat) : Int)) := by have := hcell 0 (by omega); rwa [show ad.add 0 = ad by simp [Addr.add]] at this
  have c1 : w.cell? ⟨ad.block, ad.off + 1, none⟩ = some (.int .u8 ((bs.getD 1 0 : Nat) : Int)) := by simpa [Addr.add] using hcell 1 (by omega)
  have c2 : w.cell? ⟨ad.block, ad.off + 2, none⟩ = some (.int .u8 ((bs.getD 2 0 : Nat) : Int)) := by simpa [Addr.add] using hcell 2 (by omega)
  have c3 : w.cell? ⟨ad.block, ad.off + 3, none⟩ = some (.int .u8 ((bs.getD 3 0 : Nat) : Int)) := by simpa [Addr.add] using hcell 3 (by omega)
  have c4 : w.cell? ⟨ad.block, ad.off + 4, none⟩ = some (.int .u8 ((bs.getD 4 0 : Nat) : Int)) := by simpa [Addr.add] using hcell 4 (by omega)
  have c5 : w.cell? ⟨ad.block, ad.off + 5, none⟩ = some (.int .u8 ((bs.getD 5 0 : Nat) : Int)) := by simpa [Addr.add] using hcell 5 (by omega)
  have c6 : w.cell? ⟨ad.block, ad.off + 6, none⟩ = some (.int .u8 ((bs.getD 6 0 : Nat) : Int)) := by simpa [Addr.add] using hcell 6 (by omega)
  have c7 : w.cell? ⟨ad.block, ad.off + 7, none⟩ = some (.int .u8 ((bs.getD 7 0 : Nat) : Int)) := by simpa [Addr.add] using hcell 7 (by omega)
  have i0 : 0 < n := by omega
  have j0 : (0 : Int) < n := by omega
  have i1 : 1 < n := by omega
  have j1 : (1 : Int) < n := by omega
  have i2 : 2 < n := by omega
  have j2 : (2 : Int) < n := by omega
  have i3 : 3 < n := by omega
  have j3 : (3 : Int) < n := by omega
  have i4 : 4 < n := by omega
  have j4 : (4 : Int) < n := by omega
  have i5 : 5 < n := by omega
  have j5 : (5 : Int) < n := by omega
  have i6 : 6 < n := by omega
  have j6 : (6 : Int) < n := by omega
  have i7 : 7 < n := by omega
  have j7 : (7 : Int) < n := by omega
  have x0 := getD_lt hb 0
  have x1 := getD_lt hb 1
  have x2 := getD_lt hb 2
  have x3 := getD_lt hb 3
  have x4 := getD_lt hb 4
  have x5 := getD_lt hb 5
  have x6 := getD_lt hb 6
  have x7 := getD_lt hb 7
  clear hcell h hb
  generalize word bs = y at *
  generalize bs.getD 0 0 = b0 at *
  generalize bs.getD 1 0 = b1 at *
  generalize bs.getD 2 0 = b2 at *
  generalize bs.getD 3 0 = b3 at *
  generalize bs.getD 4 0 = b4 at *
  generalize bs.getD 5 0 = b5 at *
  generalize bs.getD 6 0 = b6 at *
  generalize bs.getD 7 0 = b7 at *
  go_enter Tryz.func133, Tryz.ntmps133
  go_wp2
  go_quiet (fail)
  go_wp2
  go_ret
  refine ⟨?_, nq, rfl⟩
  rw [← H8.out]
  exact ret_u64 (or_eight b0 b1 b2 b3 b4 b5 b6 b7 x0 x1 x2 x3 x4 x5 x6 x7)

theorem load_any (A : Option Addr) (n c B : Nat) (bs : List Nat) (w : World) (h : Rd w B A n c bs) (hb : ∀ x ∈ bs, x < 256) (hn : n ≤ 1000000000) :
    Calls Tryz.prog 133 #[.slice A n c] w fun e w' => e = .returned (.int .u64 ((word bs : Nat) : Int)) ∧ ∃ m, w' = w.drewN m := by
  by_cases h8 : n < 8
  · exact (load_few A n c B bs w h hb h8).mono fun _ _ ⟨he, hw⟩ => ⟨he, 0, hw.symm⟩
  · obtain ⟨ad, rfl, _⟩ := h.cell (by omega)
    exact load_eight ad n c B bs w h hb (by omega) hn

end Go.Proofs.YtaebljoacffghaaGreatDoor

/-
  The contracts of fill's Reader: Left, Peek, Skip, next, Read, New.
-/
namespace Go.Proofs.YtaebljoacffghaaGreatDoor
open Go.RowKit

/-- block g is a reader of bs, which lies below it; a bits are behind it -/
structure Rdr (w : World) (g : Nat) (A : Option Addr) (n c : Nat) (bs : List Nat) (a : Nat) : Prop where
  c0 : w.cell? ⟨g, 0, none⟩ = some (.slice A n c)
  c1 : w.cell? ⟨g, 1, none⟩ = some (.int .i64 (a : Int))
  f1 : w.frozen? ⟨g, 1, none⟩ = false
  rd : Rd w g A n c bs
  byte : ∀ x ∈ bs, x < 256
  at_ : a ≤ 8 * n
  few : n ≤ 100000000

section
variable {w w' : World} {g n c a : Nat} {A : Option Addr} {bs : List Nat}
theorem Rdr.lt (h : Rdr w g A n c bs a) : g < w.heap.size := World.block_lt_of_cell? w _ h.c0
theorem Rdr.keep (h : Rdr w g A n c bs a) (hk : ∀ k, k ≤ g → w'.heap[k]? = w.heap[k]?) : Rdr w' g A n c bs a :=
  ⟨(World.cell?_of_block (hk g (Nat.le_refl _))).trans h.c0, (World.cell?_of_block (hk g (Nat.le_refl _))).trans h.c1, (World.frozen?_of_block (hk g (Nat.le_refl _))).trans h.f1,
    h.rd.keep fun p hp => World.cell?_of_block (hk p.block (by omega)), h.byte, h.at_, h.few⟩
theorem Rdr.below (h : Rdr w g A n c bs a) (hb : Below w.heap.size w w') : Rdr w' g A n c bs a := h.keep fun k hk => hb.block k (by have := h.lt; omega)
theorem Rdr.drewN (h : Rdr w g A n c bs a) (k : Nat) : Rdr (w.drewN k) g A n c bs a := ⟨h.c0, h.c1, h.f1, h.rd.drewN k, h.byte, h.at_, h.few⟩
theorem Rdr.len (h : Rdr w g A n c bs a) : bs.length = n := h.rd.len
/-- a bits more -/
theorem Rdr.go (h : Rdr w g A n c bs a) {b : Nat} (hb : b ≤ 8 * n) : Rdr (w.setCell ⟨g, 1, none⟩ (.int .i64 (b : Int))) g A n c bs b := by
  have e0 := h.c0
  have e1 := h.c1
  have e2 := h.f1
  refine ⟨?_, ?_, ?_, ?_, h.byte, hb, h.few⟩
  · simp [go_sem, e0]
  · simp [go_sem, e1]
  · simp [go_sem, e2]
  · exact h.rd.keep fun p hp => World.cell?_of_block (Below.heap_setCell _ _ _ _ (by show p.block ≠ g; omega))
end

/-- what a call that goes on with the reader comes to: it alone has turned -/
structure Went (w : World) (g : Nat) (A : Option Addr) (n c : Nat) (bs : List Nat) (a : Nat) (w' : World) : Prop where
  rdr : Rdr w' g A n c bs a
  only : w.grownBy w' (some g)
  size : w'.heap.size = w.heap.size
theorem only_drewN {a w : World} {row : Option Nat} (h : a.grownBy w row) (n : Nat) : a.grownBy (w.drewN n) row := ⟨h.os, h.tape, h.output, h.size, h.block⟩
theorem only_set (w : World) (g j : Nat) (u : Value) : w.grownBy (w.setCell ⟨g, j, none⟩ u) (some g) :=
  ⟨rfl, rfl, rfl, by simp [World.setCell], fun i _ hne => Below.heap_setCell w _ u i (by rintro rfl; exact hne rfl)⟩
theorem Went.stay {w : World} {g n c a : Nat} {A : Option Addr} {bs : List Nat} (h : Rdr w g A n c bs a) (k : Nat) : Went w g A n c bs a (w.drewN k) :=
  ⟨h.drewN k, only_drewN (World.grownBy.refl w _) k, rfl⟩
theorem Went.set {w : World} {g n c a : Nat} {A : Option Addr} {bs : List Nat} (h : Rdr w g A n c bs a) (k : Nat) {b : Nat} (hb : b ≤ 8 * n) : Went w g A n c bs b ((w.drewN k).setCell ⟨g, 1, none⟩ (.int .i64 (b : Int))) :=
  ⟨(h.drewN k).go hb, (only_drewN (World.grownBy.refl w _) k).trans (only_set _ _ _ _), by simp [World.setCell]⟩
theorem Went.trans {w w1 w2 : World} {g n c a b : Nat} {A : Option Addr} {bs : List Nat} (h : Went w g A n c bs a w1) (k : Went w1 g A n c bs b w2) : Went w g A n c bs b w2 :=
  ⟨k.rdr, h.only.trans k.only, k.size.trans h.size⟩

set_option maxRecDepth 20000 in
set_option maxHeartbeats 400000 in
theorem left_any (g : Nat) (A : Option Addr) (n c : Nat) (bs : List Nat) (a : Nat) (w : World) (h : Rdr w g A n c bs a) :
    Calls Tryz.prog 119 #[.pointer (some ⟨g, 0, none⟩)] w fun e w' => e = .returned (.int .i64 ((8 * n - a : Nat) : Int)) ∧ ∃ m, w' = w.drewN m := by
  have h0 := h.c0
  have h1 := h.c1
  have h2 := h.at_
  have h3 := h.few
  go_enter Tryz.func119, Tryz.ntmps119
  go_wp2
  go_quiet (fail)
  go_wp2
  go_ret
  exact ⟨by go_num, nq, rfl⟩

set_option maxRecDepth 20000 in
set_option maxHeartbeats 400000 in
theorem peek_no (g : Nat) (n : Int) (w : World) (hno : n < 0 ∨ (0 ≤ n ∧ 56 < n)) :
    Calls Tryz.prog 120 #[.pointer (some ⟨g, 0, none⟩), .int .i64 n] w fun e w' => e = .returned (.int .u64 0) ∧ w = w' := by
  rcases hno with h1 | h1
  all_goals
    go_enter Tryz.func120, Tryz.ntmps120
    go_wp2
    go_ret
    exact ⟨rfl, rfl⟩

theorem shl_shr (y r k : Nat) : IntKind.u64.wrap ((y : Int) * 2 ^ r) / 2 ^ k = ((y * 2 ^ r % 18446744073709551616 / 2 ^ k : Nat) : Int) := by
  have e : IntKind.u64.wrap ((y : Int) * 2 ^ r) = ((y * 2 ^ r % 18446744073709551616 : Nat) : Int) := by
    have e1 : IntKind.u64.wrap ((y : Int) * 2 ^ r) = ((y : Int) * 2 ^ r) % 18446744073709551616 := by simp [IntKind.wrap, IntKind.bits, IntKind.signed]
    rw [e1]
    simp
  rw [e]
  simp

set_option maxRecDepth 20000 in
set_option maxHeartbeats 400000 in
theorem peek_yes (g : Nat) (A : Option Addr) (n c : Nat) (bs : List Nat) (a k : Nat) (w : World) (h : Rdr w g A n c bs a) (hk : k ≤ 56) :
    Calls Tryz.prog 120 #[.pointer (some ⟨g, 0, none⟩), .int .i64 (k : Int)] w fun e w' => e = .returned (.int .u64 ((num (ext (flat bs) a k) : Nat) : Int)) ∧ ∃ m, w' = w.drewN m := by
  have h0 := h.c0
  have h1 := h.c1
  have h2 := h.at_
  have h3 := h.few
  have h4 := h.rd.cap
  have HL := Lib.hid h.len
  have HW := Lib.hid (word_peek bs a k hk)
  have hy := word_lt (bs.drop (a / 8))
  obtain ⟨q, HQ⟩ : ∃ q, Hid (q = a / 8) := ⟨_, Lib.hid rfl⟩
  obtain ⟨r, HR⟩ : ∃ r, Hid (r = a % 8) := ⟨_, Lib.hid rfl⟩
  rw [← HQ.out] at HW hy
  rw [← HR.out] at HW
  have hq0 : q ≤ n := by have := HQ.out; omega
  have hqc : q ≤ c := by have := HQ.out; omega
  have hr0 : r < 8 := by have := HR.out; omega
  have hq1 : IntKind.i64.wrap ((a : Int) / 8) = (q : Int) := by rw [HQ.out, IntWalk.i64_in _ (by omega)]; omega
  have hr1 : (a : Int) % 8 = (r : Int) := by rw [HR.out]; omega
  have HB : Hid (∀ x ∈ bs.drop q, x < 256) := Lib.hid (fun x hx => h.byte x (List.mem_of_mem_drop hx))
  have HT : Hid ((bs.drop q).take (n - q) = bs.drop q) := Lib.hid (List.take_of_length_le (by rw [List.length_drop, HL.out]; omega))
  by_cases hcap : c = q
  · have hrd : Rd w g A (n - q) 0 (bs.drop q) := by
      have := h.rd
      rw [hcap] at this
      have := this.cutEnd (n := n - q) (by omega)
      rwa [HT.out] at this
    go_enter Tryz.func120, Tryz.ntmps120
    go_wp2
    go_quiet ((go_at_call 133; exact Calls.quiet_of (load_any _ _ _ _ _ _ (hrd.drewN _) HB.out (by omega))))
    go_wp2
    go_ret
    exact ⟨ret_u64 (by rw [shl_shr, HW.out]), nq, rfl⟩
  · have hrd : Rd w g (A.map fun x => x.add q) (n - q) (c - q) (bs.drop q) := by
      have := h.rd.cutTo (a := q) (n := n - q) (by omega)
      rwa [HT.out] at this
    go_enter Tryz.func120, Tryz.ntmps120
    go_wp2
    go_quiet ((go_at_call 133; exact Calls.quiet_of (load_any _ _ _ _ _ _ (hrd.drewN _) HB.out (by omega))))
    go_wp2
    go_ret
    exact ⟨ret_u64 (by rw [shl_shr, HW.out]), nq, rfl⟩

set_option maxRecDepth 20000 in
set_option maxHeartbeats 400000 in
theorem next_yes (g : Nat) (A : Option Addr) (n c : Nat) (bs : List Nat) (a k : Nat) (w : World) (h : Rdr w g A n c bs a) (hk : k ≤ 56) (hak : a + k ≤ 8 * n) :
    Calls Tryz.prog 153 #[.pointer (some ⟨g, 0, none⟩), .int .i64 (k : Int)] w fun e w' => e = .returned (.int .u64 ((num (ext (flat bs) a k) : Nat) : Int)) ∧ Went w g A n c bs (a + k) w' := by
  have h0 := h.c0
  have h1 := h.c1
  have h2 := h.f1
  have h3 := h.few
  have h4 := h.at_
  go_enter Tryz.func153, Tryz.ntmps153
  go_wp2_with (go_at_call 120; refine (peek_yes _ _ _ _ _ _ _ _ h hk).mono ?_; rintro e w1 ⟨rfl, m1, rfl⟩)
  go_ret
  refine ⟨rfl, ?_⟩
  exact Went.set h m1 (b := a + k) hak

set_option maxRecDepth 20000 in
set_option maxHeartbeats 400000 in
theorem skip_no (g : Nat) (A : Option Addr) (n c : Nat) (bs : List Nat) (a : Nat) (k : Int) (w : World) (h : Rdr w g A n c bs a) (hno : k < 0 ∨ (0 ≤ k ∧ ((8 * n - a : Nat) : Int) < k)) :
    Calls Tryz.prog 149 #[.pointer (some ⟨g, 0, none⟩), .int .i64 k] w fun e w' => e = .returned (.bool false) ∧ ∃ m, w' = w.drewN m := by
  rcases hno with h1 | h1
  · go_enter Tryz.func149, Tryz.ntmps149
    go_wp2
    go_ret
    exact ⟨rfl, 0, rfl⟩
  · go_enter Tryz.func149, Tryz.ntmps149
    go_wp2_with (go_at_call 119; refine (left_any _ _ _ _ _ _ _ h).mono ?_; rintro e w1 ⟨rfl, m1, rfl⟩)
    go_ret
    exact ⟨rfl, m1, rfl⟩

set_option maxRecDepth 20000 in
set_option maxHeartbeats 400000 in
theorem skip_yes (g : Nat) (A : Option Addr) (n c : Nat) (bs : List Nat) (a k : Nat) (w : World) (h : Rdr w g A n c bs a) (hak : a + k ≤ 8 * n) :
    Calls Tryz.prog 149 #[.pointer (some ⟨g, 0, none⟩), .int .i64 (k : Int)] w fun e w' => e = .returned (.bool true) ∧ Went w g A n c bs (a + k) w' := by
  have h0 := h.c0
  have h1 := h.c1
  have h2 := h.f1
  have h3 := h.few
  have h4 := h.at_
  have h5 : k ≤ 8 * n - a := by omega
  go_enter Tryz.func149, Tryz.ntmps149
  go_wp2_with (go_at_call 119; refine (left_any _ _ _ _ _ _ _ h).mono ?_; rintro e w1 ⟨rfl, m1, rfl⟩)
  go_ret
  refine ⟨rfl, ?_⟩
  exact Went.set h m1 (b := a + k) hak

set_option maxRecDepth 20000 in
set_option maxHeartbeats 400000 in
theorem read_no (g : Nat) (A : Option Addr) (n c : Nat) (bs : List Nat) (a : Nat) (k : Int) (w : World) (h : Rdr w g A n c bs a) (hno : k < 0 ∨ (0 ≤ k ∧ 64 < k) ∨ (0 ≤ k ∧ k ≤ 64 ∧ ((8 * n - a : Nat) : Int) < k)) :
    Calls Tryz.prog 147 #[.pointer (some ⟨g, 0, none⟩), .int .i64 k] w fun e w' => e = .returned (.tuple #[.int .u64 0, .bool false]) ∧ ∃ m, w' = w.drewN m := by
  rcases hno with h1 | h1 | h1
  · go_enter Tryz.func147, Tryz.ntmps147
    go_wp2
    go_ret2
    exact ⟨rfl, 0, rfl⟩
  · go_enter Tryz.func147, Tryz.ntmps147
    go_wp2
    go_ret2
    exact ⟨rfl, 0, rfl⟩
  · go_enter Tryz.func147, Tryz.ntmps147
    go_wp2_with (go_at_call 119; refine (left_any _ _ _ _ _ _ _ h).mono ?_; rintro e w1 ⟨rfl, m1, rfl⟩)
    go_ret2
    exact ⟨rfl, m1, rfl⟩

theorem join32 (y z : Nat) (hy : y < 4294967296) (hz : z < 4294967296) : bits .or .u64 ((y : Int) * 4294967296) (z : Int) = ((y * 2 ^ 32 + z : Nat) : Int) := by
  have e : (y : Int) * 4294967296 = ((y * 2 ^ 32 : Nat) : Int) := by simp
  rw [e, u64_or_nat _ _ (by omega) (by omega), nat_join 32 _ _ (by omega) (by omega)]
theorem num_two (p : List Bool) (a k : Nat) (h : 32 ≤ k) : num (ext p a (k - 32)) * 2 ^ 32 + num (ext p (a + (k - 32)) 32) = num (ext p a k) := by
  have e : k = (k - 32) + 32 := by omega
  conv => rhs; rw [e, ← ext_app, num_app, ext_length]

theorem num_ext_lt (p : List Bool) (a k : Nat) (h : k ≤ 32) : num (ext p a k) < 4294967296 := by
  have h1 := num_lt (ext p a k)
  rw [ext_length] at h1
  have h2 : 2 ^ k ≤ 2 ^ 32 := Nat.pow_le_pow_right (by omega) h
  omega

set_option maxRecDepth 20000 in
set_option maxHeartbeats 400000 in
theorem read_yes (g : Nat) (A : Option Addr) (n c : Nat) (bs : List Nat) (a k : Nat) (w : World) (h : Rdr w g A n c bs a) (hk : k ≤ 64) (hak : a + k ≤ 8 * n) :
    Calls Tryz.prog 147 #[.pointer (some ⟨g, 0, none⟩), .int .i64 (k : Int)] w fun e w' => e = .returned (.tuple #[.int .u64 ((num (ext (flat bs) a k) : Nat) : Int), .bool true]) ∧ Went w g A n c bs (a + k) w' := by
  have h3 := h.few
  have h4 := h.at_
  have h5 : k ≤ 8 * n - a := by omega
  by_cases h56 : k ≤ 56
  · go_enter Tryz.func147, Tryz.ntmps147
    go_wp2_with fail
    refine (left_any _ _ _ _ _ _ _ h).mono ?_
    rintro e w1 ⟨rfl, m1, rfl⟩
    go_wp2_with fail
    refine (next_yes _ _ _ _ _ _ _ _ (h.drewN m1) h56 hak).mono ?_
    rintro e w2 ⟨rfl, hw⟩
    go_wp2
    go_ret2
    exact ⟨rfl, (Went.stay h m1).trans hw⟩
  · have hk1 : (k : Int) - 32 = ((k - 32 : Nat) : Int) := by omega
    have H2 := Lib.hid (num_two (flat bs) a k (by omega))
    have H3 : Hid (a + (k - 32) + 32 = a + k) := Lib.hid (by omega)
    have hy := num_ext_lt (flat bs) a (k - 32) (by omega)
    have hz := num_ext_lt (flat bs) (a + (k - 32)) 32 (by omega)
    have h6 : k - 32 ≤ 56 := by omega
    have h7 : a + (k - 32) ≤ 8 * n := by omega
    have h8 : a + (k - 32) + 32 ≤ 8 * n := by omega
    go_enter Tryz.func147, Tryz.ntmps147
    go_wp2_with fail
    refine (left_any _ _ _ _ _ _ _ h).mono ?_
    rintro e w1 ⟨rfl, m1, rfl⟩
    go_wp2_with fail
    refine (next_yes _ _ _ _ _ a (k - 32) _ (h.drewN m1) h6 h7).mono ?_
    rintro e w2 ⟨rfl, hw2⟩
    generalize num (ext (flat bs) a (k - 32)) = y at *
    go_wp2_with fail
    refine (next_yes _ _ _ _ _ (a + (k - 32)) 32 _ hw2.rdr (by omega) h8).mono ?_
    rintro e w3 ⟨rfl, hw3⟩
    generalize num (ext (flat bs) (a + (k - 32)) 32) = z at *
    go_wp2
    go_ret2
    rw [← H2.out, ← join32 y z hy hz, ← H3.out]
    exact ⟨rfl, (Went.stay h m1).trans (hw2.trans hw3)⟩

set_option maxRecDepth 20000 in
set_option maxHeartbeats 400000 in
theorem new_any (A : Option Addr) (n c : Nat) (bs : List Nat) (w : World) (h : Rd w w.heap.size A n c bs) (hb : ∀ x ∈ bs, x < 256) (hn : n ≤ 100000000) :
    Calls Tryz.prog 105 #[.slice A n c] w fun e w' => e = .returned (.pointer (some ⟨w.heap.size, 0, none⟩)) ∧ Rdr w' w.heap.size A n c bs 0 ∧ Below w.heap.size w w' ∧ w'.heap.size = w.heap.size + 1 := by
  go_enter Tryz.func105, Tryz.ntmps105
  go_wp2
  go_ret
  refine ⟨rfl, ⟨?_, ?_, ?_, ?_, hb, by omega, hn⟩, (Below.refl _ _).alloc (Nat.le_refl _) _, by simp⟩
  · simp
  · simp
  · simp
  · exact h.below ((Below.refl _ _).alloc (Nat.le_refl _) _)

end Go.Proofs.YtaebljoacffghaaGreatDoor

/-
  The contract of onlyFill of layer 12: whether the bits ahead of a reader only fill up a byte.
-/
namespace Go.Proofs.YtaebljoacffghaaGreatDoor
open Go.RowKit

set_option maxRecDepth 20000 in
set_option maxHeartbeats 400000 in
theorem qfill_any (g : Nat) (A : Option Addr) (m c : Nat) (bs : List Nat) (a : Nat) (w : World) (h : Rdr w g A m c bs a) :
    Calls Tryz.prog 107 #[.pointer (some ⟨g, 0, none⟩)] w fun e w' => e = .returned (.bool (decide (tailE ((flat bs).drop a) = 0))) ∧ ∃ k, w' = w.drewN k := by
  have hpl : ((flat bs).drop a).length = 8 * m - a := by rw [List.length_drop, flat_length, h.len]
  have hl := left_any g A m c bs a w h
  have hle := h.at_
  obtain ⟨L, HL⟩ : ∃ L, Hid (8 * m - a = L) := ⟨_, Lib.hid rfl⟩
  rw [HL.out] at hpl hl
  go_enter Tryz.func107, Tryz.ntmps107
  by_cases h8 : 8 ≤ L
  · have HT := Lib.hid (tailE_long (p := (flat bs).drop a) (by omega))
    have h8i : ¬ (L : Int) < 8 := by omega
    clear hpl hle h8
    go_wp2_with fail
    refine hl.mono ?_
    rintro e w1 ⟨rfl, k, rfl⟩
    clear hl
    go_wp2
    go_ret
    rw [HT.out]
    exact ⟨rfl, k, rfl⟩
  · have HT := Lib.hid (tailE_short (p := (flat bs).drop a) (by omega))
    have hcut : ext (flat bs) a L = (flat bs).drop a := by
      rw [ext_cut _ _ _ (by rw [flat_length, h.len]; have := HL.out; omega)]
      unfold cut
      exact List.take_of_length_le (by omega)
    have hp : ∀ k, Calls Tryz.prog 120 #[.pointer (some ⟨g, 0, none⟩), .int .i64 (L : Int)] (w.drewN k) fun e w' => e = .returned (.int .u64 ((num ((flat bs).drop a) : Nat) : Int)) ∧ ∃ m, w' = (w.drewN k).drewN m := fun k => by
      have := peek_yes g A m c bs a L (w.drewN k) (h.drewN k) (by omega)
      rwa [hcut] at this
    have h8i : (L : Int) < 8 := by omega
    clear hpl hcut hle h8
    generalize num ((flat bs).drop a) = x at *
    by_cases hx : x = 0
    · subst hx
      go_wp2_with fail
      refine hl.mono ?_
      rintro e w1 ⟨rfl, k, rfl⟩
      clear hl
      go_wp2_with fail
      refine (hp k).mono ?_
      rintro e w1 ⟨rfl, k2, rfl⟩
      go_wp2
      go_ret
      rw [HT.out]
      exact ⟨rfl, _, rfl⟩
    · have hx0 : ((x : Int) == 0) = false := by simp; omega
      go_wp2_with fail
      refine hl.mono ?_
      rintro e w1 ⟨rfl, k, rfl⟩
      clear hl
      go_wp2_with fail
      refine (hp k).mono ?_
      rintro e w1 ⟨rfl, k2, rfl⟩
      go_wp2
      go_ret
      rw [HT.out, if_neg hx]
      exact ⟨rfl, _, rfl⟩

end Go.Proofs.YtaebljoacffghaaGreatDoor
