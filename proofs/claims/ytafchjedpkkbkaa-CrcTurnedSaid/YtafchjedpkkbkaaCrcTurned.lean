/-
  CrcTurned, walked: it returns true, whatever the arguments.
-/
import Derived.Test.YtafchjedpkkbkaaCrcUp
import Derived.Test.YtafchjedpkkbkaaLaw
import Derived.BigRegion
import Derived.Deep.CutBlock
namespace Go.Proofs.Ytafchjedpkkbkaa
open Go.RowKit

set_option maxRecDepth 20000 in
set_option maxHeartbeats 400000 in
theorem crcturned_big (A1 A2 : Option Addr) (m1 c1 m2 c2 : Nat) (v u : Int) (w : World) (_h1 : m1 ≤ 9223372036854775807) (_h2 : m2 ≤ 9223372036854775807) (h : 2000 < m1 ∨ (m1 ≤ 2000 ∧ 2000 < m2)) :
    Calls Try.prog 4 #[.slice A1 m1 c1, .int .u32 v, .slice A2 m2 c2, .int .u32 u] w (RetTrue w) := by
  rcases h with h | ⟨h, h'⟩
  all_goals
    go_enter Try.func4, Try.ntmps4
    go_wp2_with (go_at_call 5; refine (up13_any _).mono ?_; rintro e w1 ⟨rfl, hb1⟩)
    go_ret
    exact ⟨rfl, hb1⟩

theorem Own.litFour {w0 w : World} (h : Below w0.heap.size w0 w) (a b c d : Nat) : Own w0 (w.alloc (.cells #[.int .u8 (a : Int), .int .u8 (b : Int), .int .u8 (c : Int), .int .u8 (d : Int)] 5)) (.slice (some ⟨w.heap.size, 0, none⟩) 4 4) [a, b, c, d] :=
  ⟨World.ownsRow_lit w #[.int .u8 (a : Int), .int .u8 (b : Int), .int .u8 (c : Int), .int .u8 (d : Int)] 4 h.size (by unfold maxLen; omega) rfl, h.alloc h.size _⟩
theorem rd_drew {w : World} {A : Option Addr} {n c : Nat} {bs : List Nat} (h : Rd w w.heap.size A n c bs) : Rd w.drew w.drew.heap.size A n c bs := h.drew
theorem turned_is (v u : Nat) : turned v u = [v % 256 ^^^ u % 256, v / 256 % 256 ^^^ u / 256 % 256, v / 65536 % 256 ^^^ u / 65536 % 256, v / 16777216 % 256 ^^^ u / 16777216 % 256] := rfl
theorem turned_lt (v u : Nat) : ∀ x ∈ turned v u, x < 256 := by
  intro x hx
  rw [turned_is] at hx
  simp only [List.mem_cons, List.not_mem_nil, or_false] at hx
  rcases hx with rfl | rfl | rfl | rfl <;> exact Nat.xor_lt_two_pow (n := 8) (by omega) (by omega)

set_option maxRecDepth 20000 in
set_option maxHeartbeats 4000000 in
theorem crcturned_in (A1 A2 : Option Addr) (m1 c1 m2 c2 v u : Nat) (xs ys : List Nat) (w : World) (h1 : Rd w w.heap.size A1 m1 c1 xs) (h2 : Rd w w.heap.size A2 m2 c2 ys) (hx : ∀ x ∈ xs, x < 256) (hy : ∀ x ∈ ys, x < 256)
    (hm1 : m1 ≤ 2000) (hm2 : m2 ≤ 2000) (hv : v ≤ 4294967295) (hu : u ≤ 4294967295) :
    Calls Try.prog 4 #[.slice A1 m1 c1, .int .u32 (v : Int), .slice A2 m2 c2, .int .u32 (u : Int)] w (RetTrue w) := by
  go_enter Try.func4, Try.ntmps4
  go_wp2_with fail
  refine (up13_any w).mono ?_
  rintro e w1 ⟨rfl, hb1⟩
  have hx4 := Own.litFour (Below.refl w1.heap.size w1) (v % 256) (v / 256 % 256) (v / 65536 % 256) (v / 16777216 % 256)
  go_upto_region 5 with fail
  rw [show (v : Int) % 256 = ((v % 256 : Nat) : Int) by simp, show (v : Int) / 256 % 256 = ((v / 256 % 256 : Nat) : Int) by simp, show (v : Int) / 65536 % 256 = ((v / 65536 % 256 : Nat) : Int) by simp, show (v : Int) / 16777216 = ((v / 16777216 % 256 : Nat) : Int) by omega]
  have HF : Hid (four v = [v % 256, v / 256 % 256, v / 65536 % 256, v / 16777216 % 256]) := Lib.hid rfl
  have HT := Lib.hid (turned_is v u)
  have HS := Lib.hid (crcS_turned xs ys v u hx (by omega))
  have l0 : v % 256 < 256 := by omega
  have l1 : v / 256 % 256 < 256 := by omega
  have l2 : v / 65536 % 256 < 256 := by omega
  have l3 : v / 16777216 % 256 < 256 := by omega
  generalize v % 256 = x0 at *
  generalize v / 256 % 256 = x1 at *
  generalize v / 65536 % 256 = x2 at *
  generalize v / 16777216 % 256 = x3 at *
  have k0 : (w1.alloc _).cell? ⟨w1.heap.size, 0, none⟩ = some (.int .u8 (x0 : Int)) := hx4.cell 0 (by omega)
  have k1 : (w1.alloc _).cell? ⟨w1.heap.size, 1, none⟩ = some (.int .u8 (x1 : Int)) := hx4.cell 1 (by omega)
  have k2 : (w1.alloc _).cell? ⟨w1.heap.size, 2, none⟩ = some (.int .u8 (x2 : Int)) := hx4.cell 2 (by omega)
  have k3 : (w1.alloc _).cell? ⟨w1.heap.size, 3, none⟩ = some (.int .u8 (x3 : Int)) := hx4.cell 3 (by omega)
  have b0 := u8_xor_nat x0 (u % 256) l0 (by omega)
  have b1 := u8_xor_nat x1 (u / 256 % 256) l1 (by omega)
  have b2 := u8_xor_nat x2 (u / 65536 % 256) l2 (by omega)
  have b3 := u8_xor_nat x3 (u / 16777216 % 256) l3 (by omega)
  have hb2 : Below w.heap.size w (w1.alloc (.cells #[.int .u8 (x0 : Int), .int .u8 (x1 : Int), .int .u8 (x2 : Int), .int .u8 (x3 : Int)] 5)) := hb1.alloc hb1.size _
  obtain ⟨g, HG⟩ : ∃ g, Hid (w1.heap.size = g) := ⟨_, Lib.hid rfl⟩
  have hx4r := hx4.rd
  rw [HG.out] at hx4r k0 k1 k2 k3 ⊢
  clear hx4
  generalize w1.alloc (.cells #[.int .u8 (x0 : Int), .int .u8 (x1 : Int), .int .u8 (x2 : Int), .int .u8 (x3 : Int)] 5) = w2 at *
  have hy4 := Own.litFour (Below.refl w2.heap.size w2) (x0 ^^^ u % 256) (x1 ^^^ u / 256 % 256) (x2 ^^^ u / 65536 % 256) (x3 ^^^ u / 16777216 % 256)
  rw [← HT.out] at hy4
  rw [← HF.out] at hx4r
  go_region
  rw [show (u : Int) % 256 = ((u % 256 : Nat) : Int) by simp, show (u : Int) / 256 % 256 = ((u / 256 % 256 : Nat) : Int) by simp, show (u : Int) / 65536 % 256 = ((u / 65536 % 256 : Nat) : Int) by simp, show (u : Int) / 16777216 = ((u / 16777216 % 256 : Nat) : Int) by omega, b0, b1, b2, b3]
  have hbx := hy4.bel
  have hy4r := rd_drew hy4.rd
  have hx4s := rd_drew ((hx4r.below hbx).more hbx.size)
  have hb3 := (hb2.trans (hbx.mono hb2.size)).drew
  clear hy4 hx4r hbx k0 k1 k2 k3 b0 b1 b2 b3 l0 l1 l2 l3
  obtain ⟨g2, HG2⟩ : ∃ g2, Hid (w2.heap.size = g2) := ⟨_, Lib.hid rfl⟩
  rw [HG2.out] at hy4r ⊢
  generalize World.drew _ = w3 at *
  have ha := (h1.below hb3).more hb3.size
  have hb := (h2.below hb3).more hb3.size
  have ll0 : ([] : List Nat).length + m1 ≤ 1073741824 := by simp; omega
  have ll1 : ([] ++ xs : List Nat).length + 4 ≤ 1073741824 := by have := h1.len; simp; omega
  have ll2 : ([] ++ xs ++ four v : List Nat).length + m2 ≤ 1073741824 := by have := h1.len; simp [four]; omega
  have ll3 : ([] ++ xs ++ turned v u : List Nat).length + m2 ≤ 1073741824 := by have := h1.len; simp [turned_is]; omega
  have ll4 : ([] ++ xs ++ four v ++ ys : List Nat).length ≤ 1073741824 := by have := h1.len; have := h2.len; simp [four]; omega
  have ll5 : ([] ++ xs ++ turned v u ++ ys : List Nat).length ≤ 1073741824 := by have := h1.len; have := h2.len; simp [turned_is]; omega
  have hall4 : ∀ x ∈ ([] ++ xs ++ four v ++ ys : List Nat), x < 256 := by
    intro x hm
    simp only [List.nil_append, List.mem_append] at hm
    rcases hm with (hm | hm) | hm
    · exact hx x hm
    · exact four_lt v x hm
    · exact hy x hm
  have hall5 : ∀ x ∈ ([] ++ xs ++ turned v u ++ ys : List Nat), x < 256 := by
    intro x hm
    simp only [List.nil_append, List.mem_append] at hm
    rcases hm with (hm | hm) | hm
    · exact hx x hm
    · exact turned_lt v u x hm
    · exact hy x hm
  have HA4 := Lib.hid hall4
  have HA5 := Lib.hid hall5
  clear hall4 hall5 hx hy h1 h2 hb1 hb2 HF HT
  obtain ⟨ps, HP⟩ : ∃ ps, Hid (four v = ps) := ⟨_, Lib.hid rfl⟩
  obtain ⟨qs, HQ⟩ : ∃ qs, Hid (turned v u = qs) := ⟨_, Lib.hid rfl⟩
  rw [HP.out] at ll2 ll4 HA4 HS hx4s
  rw [HQ.out] at ll3 ll5 HA5 HS hy4r
  obtain ⟨ps3, HP3⟩ : ∃ l, Hid ([] ++ xs ++ ps ++ ys = l) := ⟨_, Lib.hid rfl⟩
  obtain ⟨qs3, HQ3⟩ : ∃ l, Hid ([] ++ xs ++ qs ++ ys = l) := ⟨_, Lib.hid rfl⟩
  rw [HP3.out] at HA4 ll4
  rw [HQ3.out] at HA5 ll5
  go_wp2_with (first
    | (at_builtin; (refine wpList_app rfl (.tmp 64) (.tmp 65) rfl rfl rfl (Own.lit0 (Below.refl w3.heap.size w3)) (ha.below ((Below.refl w3.heap.size w3).alloc (Nat.le_refl _) _)) ll0 ?_; intro v1 u1 ho1))
    | (at_builtin; (refine wpList_app rfl (.tmp 66) (.tmp 67) rfl rfl rfl ho1 (hx4s.below ho1.bel) ll1 ?_; intro v2 u2 ho2))
    | (at_builtin; (refine wpList_app rfl (.tmp 68) (.tmp 69) rfl rfl rfl ho2 (hb.below ho2.bel) ll2 ?_; intro v3 u3 ho3; rw [HP3.out] at ho3; obtain ⟨A3, c3, rfl, hr3⟩ := ho3.form)))
  refine (sum_any _ _ _ _ ps3 _ hr3 HA4.out (by omega)).mono ?_
  rintro e w4 ⟨rfl, rfl⟩
  replace ha := (ha.below ho3.bel).more ho3.bel.size
  replace hb := (hb.below ho3.bel).more ho3.bel.size
  replace hy4r := (hy4r.below ho3.bel).more ho3.bel.size
  have hb4 := hb3.trans (ho3.bel.mono hb3.size)
  clear ho1 ho2 ho3 hr3 hb3 hx4s ll1 ll2 ll4
  have ll1 : ([] ++ xs : List Nat).length + 4 ≤ 1073741824 := by have := ha.len; simp; omega
  go_wp2_with (first
    | (at_builtin; (refine wpList_app rfl (.tmp 72) (.tmp 73) rfl rfl rfl (Own.lit0 (Below.refl u3.heap.size u3)) (ha.below ((Below.refl u3.heap.size u3).alloc (Nat.le_refl _) _)) ll0 ?_; intro v1 u4 ho1))
    | (at_builtin; (refine wpList_app rfl (.tmp 74) (.tmp 75) rfl rfl rfl ho1 (hy4r.below ho1.bel) ll1 ?_; intro v2 u5 ho2))
    | (at_builtin; (refine wpList_app rfl (.tmp 76) (.tmp 77) rfl rfl rfl ho2 (hb.below ho2.bel) ll3 ?_; intro v3 u6 ho3; rw [HQ3.out] at ho3; obtain ⟨A4, c4, rfl, hr3⟩ := ho3.form)))
  refine (sum_any _ _ _ _ qs3 _ hr3 HA5.out (by omega)).mono ?_
  rintro e w4 ⟨rfl, rfl⟩
  have hb5 := hb4.trans (ho3.bel.mono hb4.size)
  have hs := HS.out
  rw [show xs ++ ps ++ ys = [] ++ xs ++ ps ++ ys by simp, show xs ++ qs ++ ys = [] ++ xs ++ qs ++ ys by simp, HP3.out, HQ3.out] at hs
  clear ho1 ho2 ho3 hr3 hb4 hy4r ha hb ll0 ll1 ll3 ll5 HS
  generalize crcS ps3 = s at *
  generalize crcS qs3 = t at *
  by_cases hu0 : u = 0
  · have e : s = t := by simpa [hu0] using hs
    subst e hu0
    clear hs
    go_wp2
    go_ret
    exact ⟨rfl, hb5⟩
  · have e : ¬ s = t := by simpa [hu0] using hs
    have e1 : (((s : Nat) : Int) == ((t : Nat) : Int)) = false := by simp; omega
    have e2 : (((u : Nat) : Int) == 0) = false := by simp; omega
    clear hs
    go_wp2
    go_ret
    exact ⟨rfl, hb5⟩

theorem crcturned_all (A1 A2 : Option Addr) (m1 c1 m2 c2 v u : Nat) (xs ys : List Nat) (w : World) (h1 : Rd w w.heap.size A1 m1 c1 xs) (h2 : Rd w w.heap.size A2 m2 c2 ys) (hx : ∀ x ∈ xs, x < 256) (hy : ∀ x ∈ ys, x < 256)
    (hl1 : m1 ≤ 9223372036854775807) (hl2 : m2 ≤ 9223372036854775807) (hv : v ≤ 4294967295) (hu : u ≤ 4294967295) :
    Calls Try.prog 4 #[.slice A1 m1 c1, .int .u32 (v : Int), .slice A2 m2 c2, .int .u32 (u : Int)] w (RetTrue w) := by
  by_cases h : 2000 < m1 ∨ (m1 ≤ 2000 ∧ 2000 < m2)
  · exact crcturned_big A1 A2 m1 c1 m2 c2 v u w hl1 hl2 h
  · exact crcturned_in A1 A2 m1 c1 m2 c2 v u xs ys w h1 h2 hx hy (by omega) (by omega) hv hu

end Go.Proofs.Ytafchjedpkkbkaa
