/-
  Texts of this proof, one behind the other: Crc, IdxNum, IdxNumG, Magic.
-/
import Derived.Test.YtaebljoacffghaaGreatDoorWords
import Derived.Test.YtaebljoacffghaaGreatDoorIdxP
import Derived.Test.YtaebljoacffghaaGreatDoorUvI
import Derived.Laws.BitsAllLaws
import Derived.Lib.SmallJoins

/-
  The contracts of the program's eight and Sum: the register behind eight bits, and the sum of bytes; nothing changes.
-/
namespace Go.Proofs.YtaebljoacffghaaGreatDoor
open Go.RowKit

theorem and_one (y : Nat) (h : y < 4294967296) : bits .and .u32 (y : Int) 1 = ((y % 2 : Nat) : Int) := by
  rw [show (1 : Int) = ((1 : Nat) : Int) from rfl, u32_and_nat _ _ h (by omega), Nat.and_one_is_mod]
theorem xor_crcP (y : Nat) (h : y < 4294967296) : bits .xor .u32 ((y : Int) / 2) 3988292384 = (((y / 2) ^^^ crcP : Nat) : Int) := by
  rw [show (3988292384 : Int) = ((3988292384 : Nat) : Int) from rfl, show (y : Int) / 2 = ((y / 2 : Nat) : Int) by simp, u32_xor_nat _ _ (by omega) (by omega)]
  rfl
theorem not_max (y : Nat) (h : y < 4294967296) : bits .xor .u32 IntKind.u32.max (y : Int) = ((4294967295 - y : Nat) : Int) := by
  rw [show IntKind.u32.max = ((4294967295 : Nat) : Int) from rfl, u32_xor_nat _ _ (by omega) h, not_is h]
theorem out1_odd {y : Nat} (h : y % 2 = 1) : out1 y = (y / 2) ^^^ crcP := by unfold out1; rw [if_pos h]
theorem out1_even {y : Nat} (h : y % 2 = 0) : out1 y = y / 2 := by unfold out1; rw [if_neg (by omega)]

set_option maxRecDepth 20000 in
set_option maxHeartbeats 400000 in
theorem eight_any (r : Nat) (w : World) (h : r < 4294967296) :
    Calls Tryz.prog 87 #[.int .u32 (r : Int)] w fun e w' => e = .returned (.int .u32 ((outN 8 r : Nat) : Int)) ∧ w = w' := by
  go_enter Tryz.func87, Tryz.ntmps87
  go_wp2
  go_loop [0, 4] (fun v i => ∃ k : Nat, k ≤ 8 ∧ i = .int .i64 (k : Int) ∧ v = .int .u32 ((outN k r : Nat) : Int)) (fun _ i => 8 - (intOf i).toNat)
  case atStart => exact ⟨0, by omega, rfl, rfl⟩
  case round =>
    obtain ⟨k, hk, rfl, rfl⟩ := hrel
    by_cases hlt : k < 8
    · have hy := outN_lt k h
      have H3 := Lib.hid (outN_succ k r)
      generalize outN k r = y at *
      have ha := and_one y hy
      have hx := xor_crcP y hy
      rcases Nat.mod_two_eq_zero_or_one y with he | he
      · have HO := Lib.hid (out1_even he)
        rw [he] at ha
        go_wp2
        go_round
        case rel => exact ⟨k + 1, by omega, by go_num, by rw [H3.out, HO.out]; go_num⟩
        case measure => simp [intOf]; omega
      · have HO := Lib.hid (out1_odd he)
        rw [he] at ha
        go_wp2
        go_round
        case rel => exact ⟨k + 1, by omega, by go_num, by rw [H3.out, HO.out]⟩
        case measure => simp [intOf]; omega
    · go_wp2
      go_ret
      have e : k = 8 := by omega
      subst e
      exact ⟨rfl, rfl⟩

theorem crcR_take (bs : List Nat) (r k : Nat) (h : k < bs.length) : crcR r (bs.take (k + 1)) = outN 8 (crcR r (bs.take k) ^^^ bs.getD k 0) := by
  rw [List.take_succ_eq_append_getElem h, crcR_app, crcR_cons, crcR_nil, List.getD_eq_getElem?_getD, List.getElem?_eq_getElem h]
  rfl
theorem byte_at {bs : List Nat} (hb : ∀ x ∈ bs, x < 256) (k : Nat) : bs.getD k 0 < 256 := by
  rcases Nat.lt_or_ge k bs.length with h | h
  · rw [List.getD_eq_getElem?_getD, List.getElem?_eq_getElem h]
    exact hb _ (List.getElem_mem h)
  · rw [List.getD_eq_getElem?_getD, List.getElem?_eq_none h]
    simp

set_option maxRecDepth 20000 in
set_option maxHeartbeats 400000 in
theorem sum_any (A : Option Addr) (n c B : Nat) (bs : List Nat) (w : World) (h : Rd w B A n c bs) (hb : ∀ x ∈ bs, x < 256) (hn : n ≤ 9223372036854775807) :
    Calls Tryz.prog 65 #[.slice A n c] w fun e w' => e = .returned (.int .u32 ((crcS bs : Nat) : Int)) ∧ w = w' := by
  have HL := Lib.hid h.len
  go_enter Tryz.func65, Tryz.ntmps65
  go_wp2
  go_loop [3, 8] (fun v i => ∃ k : Nat, k ≤ n ∧ i = .int .i64 (k : Int) ∧ v = .int .u32 ((crcR 4294967295 (bs.take k) : Nat) : Int)) (fun _ i => n - (intOf i).toNat)
  case atStart => exact ⟨0, by omega, rfl, rfl⟩
  case round =>
    obtain ⟨k, hk, rfl, rfl⟩ := hrel
    by_cases hlt : k < n
    · obtain ⟨ad, rfl, hbb, hc⟩ := h.at_ hlt
      have hy := crcR_lt (bs.take k) (r := 4294967295) (by omega) (fun x hx => hb x (List.mem_of_mem_take hx))
      have hx := byte_at hb k
      have H3 := Lib.hid (crcR_take bs 4294967295 k (by have := HL.out; omega))
      generalize crcR 4294967295 (bs.take k) = y at *
      generalize bs.getD k 0 = x at *
      have hxor := u32_xor_nat y x hy (by omega)
      have hlt2 : y ^^^ x < 4294967296 := Nat.xor_lt_two_pow (n := 32) hy (by omega)
      generalize y ^^^ x = z at *
      go_wp2_with (go_at_call 87; refine (eight_any z w hlt2).mono ?_; rintro e w1 ⟨rfl, rfl⟩)
      go_round
      case rel => exact ⟨k + 1, by omega, by go_num, by rw [H3.out]⟩
      case measure => simp [intOf]; omega
    · have e : bs.take k = bs := List.take_of_length_le (by have := HL.out; omega)
      rw [e]
      have hy := crcR_lt bs (r := 4294967295) (by omega) hb
      have HS : Hid (crcS bs = 4294967295 - crcR 4294967295 bs) := Lib.hid (not_is hy).symm
      generalize crcR 4294967295 bs = y at *
      have HN := Lib.hid (not_max y hy)
      go_wp2
      go_ret
      rw [HS.out, HN.out]
      exact ⟨rfl, rfl⟩

set_option maxRecDepth 20000 in
set_option maxHeartbeats 400000 in
theorem rsum_any (A : Option Addr) (n c B : Nat) (bs : List Nat) (w : World) (h : Rd w B A n c bs) (hb : ∀ x ∈ bs, x < 256) (hn : n ≤ 9223372036854775807) :
    Calls Tryz.prog 42 #[.slice A n c] w fun e w' => e = .returned (.int .u32 ((crcS bs : Nat) : Int)) ∧ w = w' := by
  have HL := Lib.hid h.len
  go_enter Tryz.func42, Tryz.ntmps42
  go_wp2
  go_loop [3, 4] (fun v i => ∃ k : Nat, k ≤ n ∧ i = .int .i64 (k : Int) ∧ v = .int .u32 ((crcR 4294967295 (bs.take k) : Nat) : Int)) (fun _ i => n - (intOf i).toNat)
  case atStart => exact ⟨0, by omega, rfl, rfl⟩
  case round =>
    obtain ⟨k, hk, rfl, rfl⟩ := hrel
    by_cases hlt : k < n
    · obtain ⟨ad, rfl, hbb, hc⟩ := h.at_ hlt
      have hy := crcR_lt (bs.take k) (r := 4294967295) (by omega) (fun x hx => hb x (List.mem_of_mem_take hx))
      have hx := byte_at hb k
      have H3 := Lib.hid (crcR_take bs 4294967295 k (by have := HL.out; omega))
      generalize crcR 4294967295 (bs.take k) = y at *
      generalize bs.getD k 0 = x at *
      have hxor := u32_xor_nat y x hy (by omega)
      have hlt2 : y ^^^ x < 4294967296 := Nat.xor_lt_two_pow (n := 32) hy (by omega)
      generalize y ^^^ x = z at *
      go_wp2
      go_loop [3, 5] (fun v i => ∃ j : Nat, j ≤ 8 ∧ i = .int .i64 (j : Int) ∧ v = .int .u32 ((outN j z : Nat) : Int)) (fun _ i => 8 - (intOf i).toNat)
      case atStart => exact ⟨0, by omega, rfl, rfl⟩
      case round =>
        obtain ⟨j, hj, rfl, rfl⟩ := hrel
        clear hxor
        by_cases hj8 : j < 8
        · have hy2 := outN_lt j hlt2
          have H4 := Lib.hid (outN_succ j z)
          generalize outN j z = y at *
          have hxx := xor_crcP y hy2
          rcases Nat.mod_two_eq_zero_or_one y with he | he
          · have HO := Lib.hid (out1_even he)
            go_wp2
            go_round
            case rel => exact ⟨j + 1, by omega, by go_num, by rw [H4.out, HO.out]; go_num⟩
            case measure => simp [intOf]; omega
          · have HO := Lib.hid (out1_odd he)
            go_wp2
            go_round
            case rel => exact ⟨j + 1, by omega, by go_num, by rw [H4.out, HO.out]⟩
            case measure => simp [intOf]; omega
        · have e : j = 8 := by omega
          subst e
          go_wp2
          go_round
          case rel => exact ⟨k + 1, by omega, by go_num, by rw [H3.out]⟩
          case measure => simp [intOf]; omega
    · have e : bs.take k = bs := List.take_of_length_le (by have := HL.out; omega)
      rw [e]
      have hy := crcR_lt bs (r := 4294967295) (by omega) hb
      have HS : Hid (crcS bs = 4294967295 - crcR 4294967295 bs) := Lib.hid (not_is hy).symm
      generalize crcR 4294967295 bs = y at *
      go_wp2
      go_ret
      rw [HS.out]
      exact ⟨by go_num, rfl⟩

end Go.Proofs.YtaebljoacffghaaGreatDoor

/-
  The contract of the program's putNumber: a number's bytes with the highest first.
-/
namespace Go.Proofs.YtaebljoacffghaaGreatDoor
open Go.RowKit

/-- every block that is no row of bytes is kept -/
def KeepO (w w' : World) : Prop := w.heap.size ≤ w'.heap.size ∧ ∀ g, g < w.heap.size → (∀ cs q, w.heap[g]? ≠ some (.cells cs 5 q)) → w'.heap[g]? = w.heap[g]?
theorem KeepO.refl (w : World) : KeepO w w := ⟨Nat.le_refl _, fun _ _ _ => rfl⟩
theorem KeepO.trans {w w1 w2 : World} (h : KeepO w w1) (h' : KeepO w1 w2) : KeepO w w2 :=
  ⟨Nat.le_trans h.1 h'.1, fun g hg hn => by
    have e := h.2 g hg hn
    rw [← e]
    exact h'.2 g (Nat.lt_of_lt_of_le hg h.1) (fun cs q => by rw [e]; exact hn cs q)⟩
theorem KeepO.of_below {w w' : World} (h : Below w.heap.size w w') : KeepO w w' := ⟨h.size, fun g hg _ => h.block g hg⟩
theorem KeepO.of_grown {w0 w w' : World} {v : Value} {bs : List Nat} (hown : Own w0 w v bs) (h : w.grownBy w' v.ownBlock) : KeepO w w' := by
  refine ⟨h.size, fun g hg hn => h.block g hg (fun e => ?_)⟩
  rcases hown.row.2 with ⟨rfl, _⟩ | ⟨g', cap, cur, rfl, _, hh, _⟩
  · cases e
  · have e' : some g' = some g := e.symm
    injection e' with e'
    subst e'
    exact hn _ _ hh
/-- what a function that lays bytes behind those of the call's own comes to -/
def RetOB (w0 w : World) (bs : List Nat) (e : Ending) (w' : World) : Prop := ∃ v, e = .returned v ∧ Own w0 w' v bs ∧ KeepO w w'
/-- append in a plain region: what is kept, too -/
theorem wpList_appK {ops : Array Oper} {rest : List Oper} {o : Oper} {a : Act} {Q : Exit → Act → World → Prop} (hgd : o.guard = none) (s x : Operand)
    (ho : o.op = .call { callee := .builtin .append, args := #[s, x], argTypes := #[22, 22] })
    {w0 w : World} {B : Nat} {v : Value} {bs cs : List Nat} {A : Option Addr} {m c : Nat} (hs : a.eval s = v) (hx : a.eval x = .slice A m c) (hown : Own w0 w v bs) (hr : Rd w B A m c cs)
    (hm : bs.length + m ≤ 1073741824)
    (h : ∀ v' w', Own w0 w' v' (bs ++ cs) → KeepO w w' → wpList Tryz.prog ops Q rest (a.put o.dst v') w') : wpList Tryz.prog ops Q (o :: rest) a w :=
  wpList_plain hgd fun _ hK => wp_app s x ho hs hx hown hr hm fun v' w' h2 hg => hK _ _ (h v' w' h2 (KeepO.of_grown hown hg))

theorem bigB_step (k m v : Nat) : bigB (k + 1) (v / 256 ^ m) = bigB k (v / 256 ^ (m + 1)) ++ [v / 256 ^ m % 256] := by
  rw [bigB, Nat.div_div_eq_div_mul, Nat.pow_succ]
theorem pow_eight (k : Nat) : 2 ^ (8 * k) = 256 ^ k := by rw [Nat.pow_mul]

/-- a loop's relation: k bytes are laid, the highest ones first -/
def AtNum (w0 w : World) (bs : List Nat) (v size : Nat) (b i : Value) (wr : World) : Prop :=
  ∃ k : Nat, k ≤ size ∧ i = .int .i64 ((size : Int) - 1 - k) ∧ Own w0 wr b (bs ++ bigB k (v / 256 ^ (size - k))) ∧ KeepO w wr
theorem byte_of (v m : Nat) : (v : Int) / 2 ^ (8 * m) % 256 = ((v / 256 ^ m % 256 : Nat) : Int) := by
  rw [← pow_eight]
  simp
set_option maxRecDepth 20000 in
set_option maxHeartbeats 400000 in
theorem putnum_any (w0 w : World) (A : Option Addr) (n c : Nat) (bs : List Nat) (v size : Nat) (hown : Own w0 w (.slice A n c) bs) (_hv : v ≤ 18446744073709551615) (hs : size ≤ 8) (hl : bs.length ≤ 1000000000) :
    Calls Tryz.prog 68 #[.slice A n c, .int .u64 (v : Int), .int .i64 (size : Int)] w (RetOB w0 w (bs ++ bigB size v)) := by
  have HL := Lib.hid hl
  clear hl
  go_enter Tryz.func68, Tryz.ntmps68
  go_wp2
  go_loopw [0, 7] (fun b i wr => AtNum w0 w bs v size b i wr) (fun _ i _ => (intOf i + 1).toNat)
  case atStart => exact ⟨0, by omega, by simp, by simpa [bigB] using hown, KeepO.refl _⟩
  case round =>
    obtain ⟨k, hk, rfl, hown2, hkeep⟩ := hrel
    by_cases hlt : k < size
    · obtain ⟨m, HM⟩ : ∃ m, Hid (size = k + m + 1) := ⟨size - k - 1, Lib.hid (by omega)⟩
      have hi : (size : Int) - 1 - (k : Int) = (m : Int) := by have := HM.out; omega
      rw [hi]
      have hm8 : m ≤ 7 := by have := HM.out; omega
      rw [show size - k = m + 1 by have := HM.out; omega] at hown2
      clear hi
      obtain ⟨z, HZ⟩ : ∃ z, Hid (z = v / 256 ^ m % 256) := ⟨_, Lib.hid rfl⟩
      have hz : (v : Int) / 2 ^ (8 * m) % 256 = (z : Int) := by rw [byte_of, HZ.out]
      obtain ⟨q, HQ⟩ : ∃ q, Hid (q = bs ++ bigB k (v / 256 ^ (m + 1))) := ⟨_, Lib.hid rfl⟩
      rw [← HQ.out] at hown2
      have hq : q.length + 1 ≤ 1073741824 := by
        rw [HQ.out, List.length_append, bigB_length]
        have := HL.out
        omega
      have HQ2 := Lib.hid hq
      clear hq
      go_wp2_with (at_builtin; (refine wpList_appK rfl (.tmp 14) (.tmp 20) rfl rfl rfl (hown2.alloc _) (Rd.one _ z) HQ2.out ?_; intro v' w' hown3 hk3))
      go_roundw
      case rel =>
        have hsz := HM.out
        refine ⟨k + 1, by omega, by simp <;> omega, ?_, (hkeep.trans (KeepO.of_below ((Below.refl _ _).alloc (Nat.le_refl _) _))).trans hk3⟩
        rw [show size - (k + 1) = m by omega, bigB_step, ← HZ.out, ← List.append_assoc, ← HQ.out]
        exact hown3
      case measure => simp [intOf]
    · obtain rfl : k = size := by omega
      have hi : (k : Int) - 1 - (k : Int) = -1 := by omega
      rw [hi]
      clear hi
      go_wp2
      go_ret
      refine ⟨_, rfl, ?_, hkeep⟩
      simpa using hown2

end Go.Proofs.YtaebljoacffghaaGreatDoor

/-
  The contracts of the program's number and small, and of the reference's number: the number of bytes, the highest first.
-/
namespace Go.Proofs.YtaebljoacffghaaGreatDoor
open Go.RowKit

theorem shl_or (y x : Nat) (hx : x < 256) (hy : 256 * y + x ≤ 18446744073709551615) : bits .or .u64 (IntKind.u64.wrap ((y : Int) * 256)) (x : Int) = ((256 * y + x : Nat) : Int) := by
  have e : IntKind.u64.wrap ((y : Int) * 256) = ((y * 256 : Nat) : Int) := by
    rw [show (y : Int) * 256 = ((y * 256 : Nat) : Int) by simp]
    exact wrap_le _ (by omega)
  rw [e, u64_or_nat _ _ (by omega) (by omega)]
  congr 1
  rw [show y * 256 = 2 ^ 8 * y by omega, ← Nat.two_pow_add_eq_or_of_lt (by omega)]

set_option maxRecDepth 20000 in
set_option maxHeartbeats 400000 in
theorem inumber_any (A : Option Addr) (n c B : Nat) (bs : List Nat) (w : World) (h : Rd w B A n c bs) (hb : ∀ x ∈ bs, x < 256) (hn : n ≤ 8) :
    Calls Tryz.prog 79 #[.slice A n c] w fun e w' => e = .returned (.int .u64 ((numB bs : Nat) : Int)) ∧ w = w' := by
  have HL := Lib.hid h.len
  go_enter Tryz.func79, Tryz.ntmps79
  go_wp2
  go_loop [3, 8] (fun v i => ∃ k : Nat, k ≤ n ∧ i = .int .i64 (k : Int) ∧ v = .int .u64 ((numB (bs.take k) : Nat) : Int)) (fun _ i => n - (intOf i).toNat)
  case atStart => exact ⟨0, by omega, rfl, rfl⟩
  case round =>
    obtain ⟨k, hk, rfl, rfl⟩ := hrel
    by_cases hlt : k < n
    · obtain ⟨ad, rfl, hbb, hc⟩ := h.at_ hlt
      have hx := byte_at hb k
      have H3 := Lib.hid (numB_take (bs := bs) (k := k) (by have := HL.out; omega))
      have hy := numB_lt (bs.take k) (fun x hx => hb x (List.mem_of_mem_take hx))
      have hy2 : 256 ^ (bs.take k).length ≤ 256 ^ 7 := Nat.pow_le_pow_right (by omega) (by rw [List.length_take]; omega)
      generalize numB (bs.take k) = y at *
      generalize bs.getD k 0 = x at *
      have hor := shl_or y x hx (by omega)
      clear hy hy2
      obtain ⟨z, HZ⟩ : ∃ z, Hid (z = 256 * y + x) := ⟨_, Lib.hid rfl⟩
      rw [← HZ.out] at hor
      go_wp2
      go_round
      case rel => exact ⟨k + 1, by omega, by go_num, by rw [H3.out, HZ.out]⟩
      case measure => simp [intOf]; omega
    · have e : bs.take k = bs := List.take_of_length_le (by have := HL.out; omega)
      rw [e]
      go_wp2
      go_ret
      exact ⟨rfl, rfl⟩

set_option maxRecDepth 20000 in
set_option maxHeartbeats 400000 in
theorem rnumber_any (A : Option Addr) (n c B : Nat) (bs : List Nat) (w : World) (h : Rd w B A n c bs) (hb : ∀ x ∈ bs, x < 256) (hn : n ≤ 8) :
    Calls Tryz.prog 41 #[.slice A n c] w fun e w' => e = .returned (.int .u64 ((numB bs : Nat) : Int)) ∧ w = w' := by
  have HL := Lib.hid h.len
  go_enter Tryz.func41, Tryz.ntmps41
  go_wp2
  go_loop [3, 4] (fun v i => ∃ k : Nat, k ≤ n ∧ i = .int .i64 (k : Int) ∧ v = .int .u64 ((numB (bs.take k) : Nat) : Int)) (fun _ i => n - (intOf i).toNat)
  case atStart => exact ⟨0, by omega, rfl, rfl⟩
  case round =>
    obtain ⟨k, hk, rfl, rfl⟩ := hrel
    by_cases hlt : k < n
    · obtain ⟨ad, rfl, hbb, hc⟩ := h.at_ hlt
      have hx := byte_at hb k
      have H3 := Lib.hid (numB_take (bs := bs) (k := k) (by have := HL.out; omega))
      have hy := numB_lt (bs.take k) (fun x hx => hb x (List.mem_of_mem_take hx))
      have hy2 : 256 ^ (bs.take k).length ≤ 256 ^ 7 := Nat.pow_le_pow_right (by omega) (by rw [List.length_take]; omega)
      generalize numB (bs.take k) = y at *
      generalize bs.getD k 0 = x at *
      have hyb : y ≤ 72057594037927935 := by omega
      clear hy hy2
      go_wp2
      go_round
      case rel => exact ⟨k + 1, by omega, by go_num, by rw [H3.out]; go_num⟩
      case measure => simp [intOf]; omega
    · have e : bs.take k = bs := List.take_of_length_le (by have := HL.out; omega)
      rw [e]
      go_wp2
      go_ret
      exact ⟨rfl, rfl⟩

set_option maxRecDepth 20000 in
set_option maxHeartbeats 400000 in
theorem small_any (v : Nat) (w : World) (hv : v ≤ 18446744073709551615) :
    Calls Tryz.prog 93 #[.int .u64 (v : Int)] w fun e w' => e = .returned (.int .i64 (smallN v)) ∧ w = w' := by
  by_cases h : 2147483647 < v
  · have HS : Hid (smallN v = 0) := Lib.hid (if_pos h)
    go_enter Tryz.func93, Tryz.ntmps93
    go_wp2
    go_ret
    rw [HS.out]
    exact ⟨rfl, rfl⟩
  · have HS : Hid (smallN v = (v : Int)) := Lib.hid (if_neg h)
    go_enter Tryz.func93, Tryz.ntmps93
    go_wp2
    go_ret
    rw [HS.out]
    exact ⟨rfl, rfl⟩

end Go.Proofs.YtaebljoacffghaaGreatDoor

/-
  The four bytes that an index begins with, as the program lays them; append onto them.
-/
namespace Go.Proofs.YtaebljoacffghaaGreatDoor
open Go.RowKit

/-- the four bytes -/
def magV : Array Value := #[.int .u8 71, .int .u8 84, .int .u8 83, .int .u8 49]
def magB : List Nat := [71, 84, 83, 49]
theorem mag_rd (w : World) : Rd (w.alloc (.cells magV 5 (4, 5))) (w.heap.size + 1) (some ⟨w.heap.size, 0, none⟩) 4 4 magB := by
  refine ⟨rfl, Nat.le_refl _, (fun h => by cases h), fun _ => ⟨_, rfl, by simp, fun j hj => ?_⟩⟩
  rw [show ((⟨w.heap.size, 0, none⟩ : Addr).add j) = ⟨w.heap.size, j, none⟩ by simp [Addr.add]; intro h; rw [h], World.cell?_alloc_mark w magV _ _ j]
  rcases (by omega : j = 0 ∨ j = 1 ∨ j = 2 ∨ j = 3) with rfl | rfl | rfl | rfl <;> rfl
theorem mag_conv (w : World) : (convert 22 22 (.slice (some ⟨w.heap.size, 0, none⟩) 4 4)).run Tryz.prog (w.alloc (.cells magV 5)) = .ok (.slice (some ⟨w.heap.size, 0, none⟩) 4 4) (w.alloc (.cells magV 5 (4, 5))) :=
  Lib.run_convert_bytes_const (P := Tryz.prog) w 22 5 magV 4 4 Tryz.underlying22 Tryz.underlying5

set_option maxRecDepth 20000 in
/-- append of one byte onto four that leave no room -/
theorem run_magic (ty : TypeId) {w0 w : World} {B1 B2 c : Nat} {a1 a2 : Addr} {x : Nat} {bs : List Nat} (hb : Below w0.heap.size w0 w) (h1 : Rd w B1 (some a1) 4 4 bs) (h2 : Rd w B2 (some a2) 1 c [x]) :
    ∃ v' w', (Builtin.append_ #[22, 22] ty #[.slice (some a1) 4 4, .slice (some a2) 1 c]).run Tryz.prog w = .ok v' w' ∧ Own w0 w' v' (bs ++ [x]) := by
  obtain ⟨i0, hi, hz0, hz1, hz2⟩ := info_parts Tryz.infoB
  have hcells : ∀ {B n c : Nat} {a : Addr} {p : List Nat}, Rd w B (some a) n c p → ∀ j u, (bvals p)[j]? = some u → w.cell? (a.add j) = some u := by
    intro B n c a p h j u hu
    have hj : j < p.length := by
      have := (List.getElem?_eq_some_iff.1 hu).1
      rwa [bvals_length] at this
    obtain ⟨ad', e, _, hc⟩ := h.cell (by have := h.len; omega)
    injection e with e
    subst e
    rw [hc j (by rw [← h.len]; exact hj), ← hu]
    simp [bvals, bval, List.getD_eq_getElem?_getD, hj]
  have hl4 : bs.length = 4 := h1.len
  have hr := run_append_grow (P := Tryz.prog) w 22 ty 5 i0 (.int .u8 0) Tryz.underlying22 hi hz0 a1 4 4 (bvals bs) (by rw [bvals_length, hz1, hl4]) (hcells h1) a2 1 c (bvals [x]) (by rw [bvals_length, hz1]; rfl) (hcells h2) (by omega) (by omega) (by
    rw [hz2]
    have := nextslicecap_le (need := 4 + 1) (old := 4) (by omega)
    omega)
  have hge := grownCap_ge w 5 4 5
  have hcm : grownCap w 5 4 5 ≤ maxLen := grownCap_le_maxLen w 5 4 5 (by unfold maxLen; omega)
  refine ⟨_, _, hr, ?_⟩
  generalize grownCap w (4 + 1) 4 5 = cap at *
  refine ⟨⟨by simp [bvals], .inr ⟨w.heap.size, cap, _, by simp [hl4], hb.size, heap_alloc_new w.drew _, by simp [hl4]; exact hge, hcm, ?_, ?_⟩⟩, (hb.drew).alloc hb.size _⟩
  · have : (Value.int .u8 0).cells.size = 1 := rfl
    simp [size_zeroCells, this, bvals, hl4]
    omega
  · have hlen : (bs ++ [x]).length * 1 = (bvals bs ++ bvals [x]).length := by simp [bvals]
    rw [hlen, bvals_app]
    simp only [Array.toList_append]
    exact List.take_left' rfl
/-- in a plain region -/
theorem wpList_magic {ops : Array Oper} {rest : List Oper} {o : Oper} {a : Act} {Q : Exit → Act → World → Prop} (hgd : o.guard = none) (s x : Operand)
    (ho : o.op = .call { callee := .builtin .append, args := #[s, x], argTypes := #[22, 22] })
    {w0 w : World} {B1 B2 c : Nat} {a1 a2 : Addr} {y : Nat} {bs : List Nat} (hs : a.eval s = .slice (some a1) 4 4) (hx : a.eval x = .slice (some a2) 1 c) (hb : Below w0.heap.size w0 w) (h1 : Rd w B1 (some a1) 4 4 bs) (h2 : Rd w B2 (some a2) 1 c [y])
    (h : ∀ v' w', Own w0 w' v' (bs ++ [y]) → wpList Tryz.prog ops Q rest (a.put o.dst v') w') : wpList Tryz.prog ops Q (o :: rest) a w := by
  refine wpList_plain hgd fun K hK => ?_
  obtain ⟨v', w', hrun, h3⟩ := run_magic o.type hb h1 h2
  unfold Oper.wp execOp
  simp only [ho, resolve, invoke, builtin, Sem.run_bind, Sem.run_pure, Result.andThen_ok, List.map_toArray, List.map_cons, List.map_nil, hs, hx, hrun]
  exact hK _ _ (h v' w' h3)

end Go.Proofs.YtaebljoacffghaaGreatDoor
