/-
  The contract of fill's load: of any bytes it returns the number of the first eight, those behind the last one being 0, and changes nothing.
-/
import Derived.Test.YtnjohmgacmcdnaaDoorGets
namespace Go.Proofs.YtnjohmgacmcdnaaDoor
open Go.RowKit

theorem shift_lt (x s : Nat) (hx : x < 256) (hs : s ≤ 56) : x * 2 ^ s ≤ 18446744073709551615 := by
  have h1 : 2 ^ s ≤ 2 ^ 56 := Nat.pow_le_pow_right (by omega) hs
  have h2 : x * 2 ^ s ≤ 255 * 2 ^ 56 := Nat.mul_le_mul (by omega) h1
  omega
theorem or_shift (y x s : Nat) (hy : y ≤ 18446744073709551615) (hx : x < 256) (hs : s ≤ 56) :
    bits .or .u64 (y : Int) (IntKind.u64.wrap ((x : Int) * 2 ^ s)) = ((y ||| x * 2 ^ s : Nat) : Int) := by
  have h := shift_lt x s hx hs
  have e : (x : Int) * 2 ^ s = ((x * 2 ^ s : Nat) : Int) := by simp
  rw [e, wrap_u64 _ h, u64_or_nat _ _ (by omega) (by omega)]

set_option maxRecDepth 20000 in
set_option maxHeartbeats 400000 in
theorem load_few (A : Option Addr) (n c B : Nat) (bs : List Nat) (w : World) (h : Rd w B A n c bs) (hb : ∀ x ∈ bs, x < 256) (hn : n < 8) :
    Calls Tryd.prog 43 #[.slice A n c] w fun e w' => e = .returned (.int .u64 ((word bs : Nat) : Int)) ∧ w = w' := by
  have HB := Lib.hid hb
  clear hb
  have HL := Lib.hid h.len
  go_enter Tryd.func43, Tryd.ntmps43
  go_wp2
  go_loop [3, 57] (fun v i => ∃ k : Nat, k ≤ n ∧ i = .int .i64 k ∧ v = .int .u64 ((word (bs.take k) : Nat) : Int)) (fun _ i => n - (intOf i).toNat)
  case atStart => exact ⟨0, Nat.zero_le _, rfl, by rw [List.take_zero, word_nil]; rfl⟩
  case round =>
    obtain ⟨k, hk, rfl, rfl⟩ := hrel
    by_cases hlt : k < n
    · obtain ⟨ad, rfl, hbl, hc⟩ := h.at_ hlt
      have hx := getD_lt HB.out k
      have hy := word_lt (bs.take k)
      have H3 := Lib.hid (word_step bs k (by omega) HB.out)
      generalize bs.getD k 0 = x at *
      generalize word (bs.take k) = y at *
      go_wp2
      go_round
      case rel => exact ⟨k + 1, by omega, by go_num, by rw [H3.out, or_shift _ _ _ hy hx (by omega)]⟩
      case measure => simp [intOf]; omega
    · go_wp2
      go_ret
      have e : bs.take k = bs := List.take_of_length_le (by have := HL.out; omega)
      rw [e]
      exact ⟨rfl, rfl⟩

theorem or_two (y x s : Nat) (hy : y < 18446744073709551616) (hx : x < 256) (k : Nat) (hk : k = 2 ^ s) (hs : s ≤ 56) : bits .or .u64 (y : Int) ((x : Int) * (k : Int)) = ((y ||| x * 2 ^ s : Nat) : Int) ∧ y ||| x * 2 ^ s < 18446744073709551616 := by
  have h := shift_lt x s hx hs
  have e : (x : Int) * (k : Int) = ((x * 2 ^ s : Nat) : Int) := by rw [hk]; simp
  refine ⟨by rw [e, u64_or_nat _ _ (by omega) (by omega)], ?_⟩
  exact Nat.or_lt_two_pow (n := 64) (by omega) (by omega)
theorem or_eight (b0 b1 b2 b3 b4 b5 b6 b7 : Nat) (x0 : b0 < 256) (x1 : b1 < 256) (x2 : b2 < 256) (x3 : b3 < 256) (x4 : b4 < 256) (x5 : b5 < 256) (x6 : b6 < 256) (x7 : b7 < 256) :
    bits .or .u64 (bits .or .u64 (bits .or .u64 (bits .or .u64 (bits .or .u64 (bits .or .u64 (bits .or .u64 ((b0 : Int) * 72057594037927936) ((b1 : Int) * 281474976710656)) ((b2 : Int) * 1099511627776)) ((b3 : Int) * 4294967296)) ((b4 : Int) * 16777216)) ((b5 : Int) * 65536)) ((b6 : Int) * 256)) (b7 : Int) =
      ((b0 * 2 ^ 56 ||| b1 * 2 ^ 48 ||| b2 * 2 ^ 40 ||| b3 * 2 ^ 32 ||| b4 * 2 ^ 24 ||| b5 * 2 ^ 16 ||| b6 * 2 ^ 8 ||| b7 : Nat) : Int) := by
  have e0 : (b0 : Int) * 72057594037927936 = ((b0 * 2 ^ 56 : Nat) : Int) := by simp
  obtain ⟨e1, h1⟩ := or_two (b0 * 2 ^ 56) b1 48 (by omega) x1 281474976710656 (by decide) (by omega)
  obtain ⟨e2, h2⟩ := or_two _ b2 40 h1 x2 1099511627776 (by decide) (by omega)
  obtain ⟨e3, h3⟩ := or_two _ b3 32 h2 x3 4294967296 (by decide) (by omega)
  obtain ⟨e4, h4⟩ := or_two _ b4 24 h3 x4 16777216 (by decide) (by omega)
  obtain ⟨e5, h5⟩ := or_two _ b5 16 h4 x5 65536 (by decide) (by omega)
  obtain ⟨e6, h6⟩ := or_two _ b6 8 h5 x6 256 (by decide) (by omega)
  rw [e0]
  simp only [show (281474976710656 : Int) = ((281474976710656 : Nat) : Int) from rfl, show (1099511627776 : Int) = ((1099511627776 : Nat) : Int) from rfl, show (4294967296 : Int) = ((4294967296 : Nat) : Int) from rfl, show (16777216 : Int) = ((16777216 : Nat) : Int) from rfl, show (65536 : Int) = ((65536 : Nat) : Int) from rfl, show (256 : Int) = ((256 : Nat) : Int) from rfl]
  rw [e1, e2, e3, e4, e5, e6, u64_or_nat _ _ (by omega) (by omega)]
theorem ret_u64 {a b : Int} (h : a = b) : Ending.returned (.int .u64 a) = .returned (.int .u64 b) := by rw [h]

set_option maxRecDepth 20000 in
set_option maxHeartbeats 400000 in
theorem load_eight (ad : Addr) (n c B : Nat) (bs : List Nat) (w : World) (h : Rd w B (some ad) n c bs) (hb : ∀ x ∈ bs, x < 256) (hn : 8 ≤ n) (hn2 : n ≤ 1000000000) :
    Calls Tryd.prog 43 #[.slice (some ad) n c] w fun e w' => e = .returned (.int .u64 ((word bs : Nat) : Int)) ∧ ∃ m, w' = w.drewN m := by
  have H8 := Lib.hid (word_eight bs hb)
  obtain ⟨ad', e, _, hcell⟩ := h.cell (by omega)
  injection e with e
  subst e
  have c0 : w.cell? ad = some (.int .u8 ((bs.getD 0 0 : Nat) : Int)) := by have := hcell 0 (by omega); rwa [show ad.add 0 = ad by simp [Addr.add]] at this
  have c1 : w.cell? ⟨ad.block, ad.off + 1, none⟩ = some (.int .u8 ((bs.getD 1 0 : Nat) : Int)) := by simpa [Addr.add] using hcell 1 (by omega)
  have c2 : w.cell? ⟨ad.block, ad.off + 2, none⟩ = some (.int .u8 ((bs.getD 2 0 : Nat) : Int)) := by simpa [Addr.add] using hcell 2 (by omega)
  have c3 : w.cell? ⟨ad.block, ad.off + 3, none⟩ = some (.int .u8 ((bs.getD 3 0 : Nat) : Int)) := by simpa [Addr.add] using hcell 3 (by omega)
  have c4 : w.cell? ⟨ad.block, ad.off + 4, none⟩ = some (.int .u8 ((bs.getD 4 0 : Nat) : Int)) := by simpa [Addr.add] using hcell 4 (by omega)
  have c5 : w.cell? ⟨ad.block, ad.off + 5, none⟩ = some (.int .u8 ((bs.getD 5 0 : Nat) : Int)) := by simpa [Addr.add] using hcell 5 (by omega)
  have c6 : w.cell? ⟨ad.block, ad.off + 6, none⟩ = some (.int .u8 ((bs.getD 6 0 : Nat) : Int)) := by simpa [Addr.add] using hcell 6 (by omega)
  have c7 : w.cell? ⟨ad.block, ad.off + 7, none⟩ = some (.int .u8 ((bs.getD 7 0 : Nat) : Int)) := by simpa [Addr.add] using hcell 7 (by omega)
  have i0 : 0 < n := by omega
  have j0 : (0 : Int) < n := by omega
  have i1 : 1 < n := by omega
  have j1 : (1 : Int) < n := by omega
  have i2 : 2 < n := by omega
  have j2 : (2 : Int) < n := by omega
  have i3 : 3 < n := by omega
  have j3 : (3 : Int) < n := by omega
  have i4 : 4 < n := by omega
  have j4 : (4 : Int) < n := by omega
  have i5 : 5 < n := by omega
  have j5 : (5 : Int) < n := by omega
  have i6 : 6 < n := by omega
  have j6 : (6 : Int) < n := by omega
  have i7 : 7 < n := by omega
  have j7 : (7 : Int) < n := by omega
  have x0 := getD_lt hb 0
  have x1 := getD_lt hb 1
  have x2 := getD_lt hb 2
  have x3 := getD_lt hb 3
  have x4 := getD_lt hb 4
  have x5 := getD_lt hb 5
  have x6 := getD_lt hb 6
  have x7 := getD_lt hb 7
  clear hcell h hb
  generalize word bs = y at *
  generalize bs.getD 0 0 = b0 at *
  generalize bs.getD 1 0 = b1 at *
  generalize bs.getD 2 0 = b2 at *
  generalize bs.getD 3 0 = b3 at *
  generalize bs.getD 4 0 = b4 at *
  generalize bs.getD 5 0 = b5 at *
  generalize bs.getD 6 0 = b6 at *
  generalize bs.getD 7 0 = b7 at *
  go_enter Tryd.func43, Tryd.ntmps43
  go_wp2
  go_quiet (fail)
  go_wp2
  go_ret
  refine ⟨?_, nq, rfl⟩
  rw [← H8.out]
  exact ret_u64 (or_eight b0 b1 b2 b3 b4 b5 b6 b7 x0 x1 x2 x3 x4 x5 x6 x7)

theorem load_any (A : Option Addr) (n c B : Nat) (bs : List Nat) (w : World) (h : Rd w B A n c bs) (hb : ∀ x ∈ bs, x < 256) (hn : n ≤ 1000000000) :
    Calls Tryd.prog 43 #[.slice A n c] w fun e w' => e = .returned (.int .u64 ((word bs : Nat) : Int)) ∧ ∃ m, w' = w.drewN m := by
  by_cases h8 : n < 8
  · exact (load_few A n c B bs w h hb h8).mono fun _ _ ⟨he, hw⟩ => ⟨he, 0, hw.symm⟩
  · obtain ⟨ad, rfl, _⟩ := h.cell (by omega)
    exact load_eight ad n c B bs w h hb (by omega) hn

end Go.Proofs.YtnjohmgacmcdnaaDoor
