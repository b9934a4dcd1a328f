/-
  The contracts of fill's Reader: Left, Peek, Skip, next, Read, New.
-/
import Derived.Test.YtnjohmgacmcdnaaDoorLoad
import Derived.IntWalk
namespace Go.Proofs.YtnjohmgacmcdnaaDoor
open Go.RowKit

/-- block g is a reader of bs, which lies below it; a bits are behind it -/
structure Rdr (w : World) (g : Nat) (A : Option Addr) (n c : Nat) (bs : List Nat) (a : Nat) : Prop where
  c0 : w.cell? ⟨g, 0, none⟩ = some (.slice A n c)
  c1 : w.cell? ⟨g, 1, none⟩ = some (.int .i64 (a : Int))
  f1 : w.frozen? ⟨g, 1, none⟩ = false
  rd : Rd w g A n c bs
  byte : ∀ x ∈ bs, x < 256
  at_ : a ≤ 8 * n
  few : n ≤ 100000000

section
variable {w w' : World} {g n c a : Nat} {A : Option Addr} {bs : List Nat}
theorem Rdr.lt (h : Rdr w g A n c bs a) : g < w.heap.size := World.block_lt_of_cell? w _ h.c0
theorem Rdr.keep (h : Rdr w g A n c bs a) (hk : ∀ k, k ≤ g → w'.heap[k]? = w.heap[k]?) : Rdr w' g A n c bs a :=
  ⟨(World.cell?_of_block (hk g (Nat.le_refl _))).trans h.c0, (World.cell?_of_block (hk g (Nat.le_refl _))).trans h.c1, (World.frozen?_of_block (hk g (Nat.le_refl _))).trans h.f1,
    h.rd.keep fun p hp => World.cell?_of_block (hk p.block (by omega)), h.byte, h.at_, h.few⟩
theorem Rdr.below (h : Rdr w g A n c bs a) (hb : Below w.heap.size w w') : Rdr w' g A n c bs a := h.keep fun k hk => hb.block k (by have := h.lt; omega)
theorem Rdr.drewN (h : Rdr w g A n c bs a) (k : Nat) : Rdr (w.drewN k) g A n c bs a := ⟨h.c0, h.c1, h.f1, h.rd.drewN k, h.byte, h.at_, h.few⟩
theorem Rdr.len (h : Rdr w g A n c bs a) : bs.length = n := h.rd.len
/-- a bits more -/
theorem Rdr.go (h : Rdr w g A n c bs a) {b : Nat} (hb : b ≤ 8 * n) : Rdr (w.setCell ⟨g, 1, none⟩ (.int .i64 (b : Int))) g A n c bs b := by
  have e0 := h.c0
  have e1 := h.c1
  have e2 := h.f1
  refine ⟨?_, ?_, ?_, ?_, h.byte, hb, h.few⟩
  · simp [go_sem, e0]
  · simp [go_sem, e1]
  · simp [go_sem, e2]
  · exact h.rd.keep fun p hp => World.cell?_of_block (Below.heap_setCell _ _ _ _ (by show p.block ≠ g; omega))
end

/-- what a call that goes on with the reader comes to: it alone has turned -/
structure Went (w : World) (g : Nat) (A : Option Addr) (n c : Nat) (bs : List Nat) (a : Nat) (w' : World) : Prop where
  rdr : Rdr w' g A n c bs a
  only : w.grownBy w' (some g)
  size : w'.heap.size = w.heap.size
theorem only_drewN {a w : World} {row : Option Nat} (h : a.grownBy w row) (n : Nat) : a.grownBy (w.drewN n) row := ⟨h.os, h.tape, h.output, h.size, h.block⟩
theorem only_set (w : World) (g j : Nat) (u : Value) : w.grownBy (w.setCell ⟨g, j, none⟩ u) (some g) :=
  ⟨rfl, rfl, rfl, by simp [World.setCell], fun i _ hne => Below.heap_setCell w _ u i (by rintro rfl; exact hne rfl)⟩
theorem Went.stay {w : World} {g n c a : Nat} {A : Option Addr} {bs : List Nat} (h : Rdr w g A n c bs a) (k : Nat) : Went w g A n c bs a (w.drewN k) :=
  ⟨h.drewN k, only_drewN (World.grownBy.refl w _) k, rfl⟩
theorem Went.set {w : World} {g n c a : Nat} {A : Option Addr} {bs : List Nat} (h : Rdr w g A n c bs a) (k : Nat) {b : Nat} (hb : b ≤ 8 * n) : Went w g A n c bs b ((w.drewN k).setCell ⟨g, 1, none⟩ (.int .i64 (b : Int))) :=
  ⟨(h.drewN k).go hb, (only_drewN (World.grownBy.refl w _) k).trans (only_set _ _ _ _), by simp [World.setCell]⟩
theorem Went.trans {w w1 w2 : World} {g n c a b : Nat} {A : Option Addr} {bs : List Nat} (h : Went w g A n c bs a w1) (k : Went w1 g A n c bs b w2) : Went w g A n c bs b w2 :=
  ⟨k.rdr, h.only.trans k.only, k.size.trans h.size⟩

set_option maxRecDepth 20000 in
set_option maxHeartbeats 400000 in
theorem left_any (g : Nat) (A : Option Addr) (n c : Nat) (bs : List Nat) (a : Nat) (w : World) (h : Rdr w g A n c bs a) :
    Calls Tryd.prog 27 #[.pointer (some ⟨g, 0, none⟩)] w fun e w' => e = .returned (.int .i64 ((8 * n - a : Nat) : Int)) ∧ ∃ m, w' = w.drewN m := by
  have h0 := h.c0
  have h1 := h.c1
  have h2 := h.at_
  have h3 := h.few
  go_enter Tryd.func27, Tryd.ntmps27
  go_wp2
  go_quiet (fail)
  go_wp2
  go_ret
  exact ⟨by go_num, nq, rfl⟩

set_option maxRecDepth 20000 in
set_option maxHeartbeats 400000 in
theorem peek_no (g : Nat) (n : Int) (w : World) (hno : n < 0 ∨ (0 ≤ n ∧ 56 < n)) :
    Calls Tryd.prog 28 #[.pointer (some ⟨g, 0, none⟩), .int .i64 n] w fun e w' => e = .returned (.int .u64 0) ∧ w = w' := by
  rcases hno with h1 | h1
  all_goals
    go_enter Tryd.func28, Tryd.ntmps28
    go_wp2
    go_ret
    exact ⟨rfl, rfl⟩

theorem shl_shr (y r k : Nat) : IntKind.u64.wrap ((y : Int) * 2 ^ r) / 2 ^ k = ((y * 2 ^ r % 18446744073709551616 / 2 ^ k : Nat) : Int) := by
  have e : IntKind.u64.wrap ((y : Int) * 2 ^ r) = ((y * 2 ^ r % 18446744073709551616 : Nat) : Int) := by
    have e1 : IntKind.u64.wrap ((y : Int) * 2 ^ r) = ((y : Int) * 2 ^ r) % 18446744073709551616 := by simp [IntKind.wrap, IntKind.bits, IntKind.signed]
    rw [e1]
    simp
  rw [e]
  simp

set_option maxRecDepth 20000 in
set_option maxHeartbeats 400000 in
theorem peek_yes (g : Nat) (A : Option Addr) (n c : Nat) (bs : List Nat) (a k : Nat) (w : World) (h : Rdr w g A n c bs a) (hk : k ≤ 56) :
    Calls Tryd.prog 28 #[.pointer (some ⟨g, 0, none⟩), .int .i64 (k : Int)] w fun e w' => e = .returned (.int .u64 ((num (ext (flat bs) a k) : Nat) : Int)) ∧ ∃ m, w' = w.drewN m := by
  have h0 := h.c0
  have h1 := h.c1
  have h2 := h.at_
  have h3 := h.few
  have h4 := h.rd.cap
  have HL := Lib.hid h.len
  have HW := Lib.hid (word_peek bs a k hk)
  have hy := word_lt (bs.drop (a / 8))
  obtain ⟨q, HQ⟩ : ∃ q, Hid (q = a / 8) := ⟨_, Lib.hid rfl⟩
  obtain ⟨r, HR⟩ : ∃ r, Hid (r = a % 8) := ⟨_, Lib.hid rfl⟩
  rw [← HQ.out] at HW hy
  rw [← HR.out] at HW
  have hq0 : q ≤ n := by have := HQ.out; omega
  have hqc : q ≤ c := by have := HQ.out; omega
  have hr0 : r < 8 := by have := HR.out; omega
  have hq1 : IntKind.i64.wrap ((a : Int) / 8) = (q : Int) := by rw [HQ.out, IntWalk.i64_in _ (by omega)]; omega
  have hr1 : (a : Int) % 8 = (r : Int) := by rw [HR.out]; omega
  have HB : Hid (∀ x ∈ bs.drop q, x < 256) := Lib.hid (fun x hx => h.byte x (List.mem_of_mem_drop hx))
  have HT : Hid ((bs.drop q).take (n - q) = bs.drop q) := Lib.hid (List.take_of_length_le (by rw [List.length_drop, HL.out]; omega))
  by_cases hcap : c = q
  · have hrd : Rd w g A (n - q) 0 (bs.drop q) := by
      have := h.rd
      rw [hcap] at this
      have := this.cutEnd (n := n - q) (by omega)
      rwa [HT.out] at this
    go_enter Tryd.func28, Tryd.ntmps28
    go_wp2
    go_quiet ((go_at_call 43; exact Calls.quiet_of (load_any _ _ _ _ _ _ (hrd.drewN _) HB.out (by omega))))
    go_wp2
    go_ret
    exact ⟨ret_u64 (by rw [shl_shr, HW.out]), nq, rfl⟩
  · have hrd : Rd w g (A.map fun x => x.add q) (n - q) (c - q) (bs.drop q) := by
      have := h.rd.cutTo (a := q) (n := n - q) (by omega)
      rwa [HT.out] at this
    go_enter Tryd.func28, Tryd.ntmps28
    go_wp2
    go_quiet ((go_at_call 43; exact Calls.quiet_of (load_any _ _ _ _ _ _ (hrd.drewN _) HB.out (by omega))))
    go_wp2
    go_ret
    exact ⟨ret_u64 (by rw [shl_shr, HW.out]), nq, rfl⟩

set_option maxRecDepth 20000 in
set_option maxHeartbeats 400000 in
theorem next_yes (g : Nat) (A : Option Addr) (n c : Nat) (bs : List Nat) (a k : Nat) (w : World) (h : Rdr w g A n c bs a) (hk : k ≤ 56) (hak : a + k ≤ 8 * n) :
    Calls Tryd.prog 81 #[.pointer (some ⟨g, 0, none⟩), .int .i64 (k : Int)] w fun e w' => e = .returned (.int .u64 ((num (ext (flat bs) a k) : Nat) : Int)) ∧ Went w g A n c bs (a + k) w' := by
  have h0 := h.c0
  have h1 := h.c1
  have h2 := h.f1
  have h3 := h.few
  have h4 := h.at_
  go_enter Tryd.func81, Tryd.ntmps81
  go_wp2_with (go_at_call 28; refine (peek_yes _ _ _ _ _ _ _ _ h hk).mono ?_; rintro e w1 ⟨rfl, m1, rfl⟩)
  go_ret
  refine ⟨rfl, ?_⟩
  exact Went.set h m1 (b := a + k) hak

set_option maxRecDepth 20000 in
set_option maxHeartbeats 400000 in
theorem skip_no (g : Nat) (A : Option Addr) (n c : Nat) (bs : List Nat) (a : Nat) (k : Int) (w : World) (h : Rdr w g A n c bs a) (hno : k < 0 ∨ (0 ≤ k ∧ ((8 * n - a : Nat) : Int) < k)) :
    Calls Tryd.prog 71 #[.pointer (some ⟨g, 0, none⟩), .int .i64 k] w fun e w' => e = .returned (.bool false) ∧ ∃ m, w' = w.drewN m := by
  rcases hno with h1 | h1
  · go_enter Tryd.func71, Tryd.ntmps71
    go_wp2
    go_ret
    exact ⟨rfl, 0, rfl⟩
  · go_enter Tryd.func71, Tryd.ntmps71
    go_wp2_with (go_at_call 27; refine (left_any _ _ _ _ _ _ _ h).mono ?_; rintro e w1 ⟨rfl, m1, rfl⟩)
    go_ret
    exact ⟨rfl, m1, rfl⟩

set_option maxRecDepth 20000 in
set_option maxHeartbeats 400000 in
theorem skip_yes (g : Nat) (A : Option Addr) (n c : Nat) (bs : List Nat) (a k : Nat) (w : World) (h : Rdr w g A n c bs a) (hak : a + k ≤ 8 * n) :
    Calls Tryd.prog 71 #[.pointer (some ⟨g, 0, none⟩), .int .i64 (k : Int)] w fun e w' => e = .returned (.bool true) ∧ Went w g A n c bs (a + k) w' := by
  have h0 := h.c0
  have h1 := h.c1
  have h2 := h.f1
  have h3 := h.few
  have h4 := h.at_
  have h5 : k ≤ 8 * n - a := by omega
  go_enter Tryd.func71, Tryd.ntmps71
  go_wp2_with (go_at_call 27; refine (left_any _ _ _ _ _ _ _ h).mono ?_; rintro e w1 ⟨rfl, m1, rfl⟩)
  go_ret
  refine ⟨rfl, ?_⟩
  exact Went.set h m1 (b := a + k) hak

set_option maxRecDepth 20000 in
set_option maxHeartbeats 400000 in
theorem read_no (g : Nat) (A : Option Addr) (n c : Nat) (bs : List Nat) (a : Nat) (k : Int) (w : World) (h : Rdr w g A n c bs a) (hno : k < 0 ∨ (0 ≤ k ∧ 64 < k) ∨ (0 ≤ k ∧ k ≤ 64 ∧ ((8 * n - a : Nat) : Int) < k)) :
    Calls Tryd.prog 69 #[.pointer (some ⟨g, 0, none⟩), .int .i64 k] w fun e w' => e = .returned (.tuple #[.int .u64 0, .bool false]) ∧ ∃ m, w' = w.drewN m := by
  rcases hno with h1 | h1 | h1
  · go_enter Tryd.func69, Tryd.ntmps69
    go_wp2
    go_ret2
    exact ⟨rfl, 0, rfl⟩
  · go_enter Tryd.func69, Tryd.ntmps69
    go_wp2
    go_ret2
    exact ⟨rfl, 0, rfl⟩
  · go_enter Tryd.func69, Tryd.ntmps69
    go_wp2_with (go_at_call 27; refine (left_any _ _ _ _ _ _ _ h).mono ?_; rintro e w1 ⟨rfl, m1, rfl⟩)
    go_ret2
    exact ⟨rfl, m1, rfl⟩

theorem join32 (y z : Nat) (hy : y < 4294967296) (hz : z < 4294967296) : bits .or .u64 ((y : Int) * 4294967296) (z : Int) = ((y * 2 ^ 32 + z : Nat) : Int) := by
  have e : (y : Int) * 4294967296 = ((y * 2 ^ 32 : Nat) : Int) := by simp
  rw [e, u64_or_nat _ _ (by omega) (by omega), nat_join 32 _ _ (by omega) (by omega)]
theorem num_two (p : List Bool) (a k : Nat) (h : 32 ≤ k) : num (ext p a (k - 32)) * 2 ^ 32 + num (ext p (a + (k - 32)) 32) = num (ext p a k) := by
  have e : k = (k - 32) + 32 := by omega
  conv => rhs; rw [e, ← ext_app, num_app, ext_length]

theorem num_ext_lt (p : List Bool) (a k : Nat) (h : k ≤ 32) : num (ext p a k) < 4294967296 := by
  have h1 := num_lt (ext p a k)
  rw [ext_length] at h1
  have h2 : 2 ^ k ≤ 2 ^ 32 := Nat.pow_le_pow_right (by omega) h
  omega

set_option maxRecDepth 20000 in
set_option maxHeartbeats 400000 in
theorem read_yes (g : Nat) (A : Option Addr) (n c : Nat) (bs : List Nat) (a k : Nat) (w : World) (h : Rdr w g A n c bs a) (hk : k ≤ 64) (hak : a + k ≤ 8 * n) :
    Calls Tryd.prog 69 #[.pointer (some ⟨g, 0, none⟩), .int .i64 (k : Int)] w fun e w' => e = .returned (.tuple #[.int .u64 ((num (ext (flat bs) a k) : Nat) : Int), .bool true]) ∧ Went w g A n c bs (a + k) w' := by
  have h3 := h.few
  have h4 := h.at_
  have h5 : k ≤ 8 * n - a := by omega
  by_cases h56 : k ≤ 56
  · go_enter Tryd.func69, Tryd.ntmps69
    go_wp2_with fail
    refine (left_any _ _ _ _ _ _ _ h).mono ?_
    rintro e w1 ⟨rfl, m1, rfl⟩
    go_wp2_with fail
    refine (next_yes _ _ _ _ _ _ _ _ (h.drewN m1) h56 hak).mono ?_
    rintro e w2 ⟨rfl, hw⟩
    go_wp2
    go_ret2
    exact ⟨rfl, (Went.stay h m1).trans hw⟩
  · have hk1 : (k : Int) - 32 = ((k - 32 : Nat) : Int) := by omega
    have H2 := Lib.hid (num_two (flat bs) a k (by omega))
    have H3 : Hid (a + (k - 32) + 32 = a + k) := Lib.hid (by omega)
    have hy := num_ext_lt (flat bs) a (k - 32) (by omega)
    have hz := num_ext_lt (flat bs) (a + (k - 32)) 32 (by omega)
    have h6 : k - 32 ≤ 56 := by omega
    have h7 : a + (k - 32) ≤ 8 * n := by omega
    have h8 : a + (k - 32) + 32 ≤ 8 * n := by omega
    go_enter Tryd.func69, Tryd.ntmps69
    go_wp2_with fail
    refine (left_any _ _ _ _ _ _ _ h).mono ?_
    rintro e w1 ⟨rfl, m1, rfl⟩
    go_wp2_with fail
    refine (next_yes _ _ _ _ _ a (k - 32) _ (h.drewN m1) h6 h7).mono ?_
    rintro e w2 ⟨rfl, hw2⟩
    generalize num (ext (flat bs) a (k - 32)) = y at *
    go_wp2_with fail
    refine (next_yes _ _ _ _ _ (a + (k - 32)) 32 _ hw2.rdr (by omega) h8).mono ?_
    rintro e w3 ⟨rfl, hw3⟩
    generalize num (ext (flat bs) (a + (k - 32)) 32) = z at *
    go_wp2
    go_ret2
    rw [← H2.out, ← join32 y z hy hz, ← H3.out]
    exact ⟨rfl, (Went.stay h m1).trans (hw2.trans hw3)⟩

set_option maxRecDepth 20000 in
set_option maxHeartbeats 400000 in
theorem new_any (A : Option Addr) (n c : Nat) (bs : List Nat) (w : World) (h : Rd w w.heap.size A n c bs) (hb : ∀ x ∈ bs, x < 256) (hn : n ≤ 100000000) :
    Calls Tryd.prog 14 #[.slice A n c] w fun e w' => e = .returned (.pointer (some ⟨w.heap.size, 0, none⟩)) ∧ Rdr w' w.heap.size A n c bs 0 ∧ Below w.heap.size w w' ∧ w'.heap.size = w.heap.size + 1 := by
  go_enter Tryd.func14, Tryd.ntmps14
  go_wp2
  go_ret
  refine ⟨rfl, ⟨?_, ?_, ?_, ?_, hb, by omega, hn⟩, (Below.refl _ _).alloc (Nat.le_refl _) _, by simp⟩
  · simp
  · simp
  · simp
  · exact h.below ((Below.refl _ _).alloc (Nat.le_refl _) _)

end Go.Proofs.YtnjohmgacmcdnaaDoor
