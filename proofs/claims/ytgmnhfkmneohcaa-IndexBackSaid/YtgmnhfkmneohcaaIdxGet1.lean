/-
  The contracts of the library's bytes.Equal, HasPrefix and CutPrefix where the prefix is an index's first four bytes, and of the program's getKind.
-/
import Derived.Test.YtgmnhfkmneohcaaMagic
import Derived.Test.YtgmnhfkmneohcaaStr
import Derived.Test.YtgmnhfkmneohcaaCode
import Derived.Test.YtgmnhfkmneohcaaIdxMayBe
namespace Go.Proofs.Ytgmnhfkmneohcaa
open Go.RowKit

theorem strB_same (p : List Nat) : ((strB p).toList == (strB p).toList) = true := by simp

set_option maxRecDepth 20000 in
set_option maxHeartbeats 400000 in
theorem equal_any (A1 A2 : Option Addr) (n1 c1 n2 c2 B1 B2 : Nat) (p q : List Nat) (w : World) (h1 : Rd w B1 A1 n1 c1 p) (h2 : Rd w B2 A2 n2 c2 q) (hp : ∀ x ∈ p, x < 256) (hq : ∀ x ∈ q, x < 256) :
    Calls Try.prog 39 #[.slice A1 n1 c1, .slice A2 n2 c2] w fun e w' => e = .returned (.bool (decide (p = q))) ∧ w = w' := by
  have s1 := run_str h1
  have s2 := run_str h2
  by_cases he : p = q
  · subst he
    have hs := strB_same p
    rw [show decide (p = p) = true by simp]
    go_enter Try.func39, Try.ntmps39
    go_wp2
    go_ret
    exact ⟨rfl, rfl⟩
  · have hs := strB_other hp hq he
    have HD : Hid (decide (p = q) = false) := Lib.hid (by simp [he])
    clear he
    go_enter Try.func39, Try.ntmps39
    go_wp2
    go_ret
    rw [HD.out]
    exact ⟨rfl, rfl⟩

set_option maxRecDepth 20000 in
set_option maxHeartbeats 400000 in
theorem hasprefix_any (A1 A2 : Option Addr) (n c B1 B2 : Nat) (bs : List Nat) (w : World) (h1 : Rd w B1 A1 n c bs) (h2 : Rd w B2 A2 4 4 magB) (hb : ∀ x ∈ bs, x < 256) :
    Calls Try.prog 37 #[.slice A1 n c, .slice A2 4 4] w fun e w' => e = .returned (.bool (decide (bs.take 4 = magB))) ∧ w = w' := by
  have hmb : ∀ x ∈ magB, x < 256 := by decide
  by_cases h4 : 4 ≤ n
  · have hcap := h1.cap
    have heq := equal_any A1 A2 4 c 4 4 B1 B2 _ magB w (h1.cutHead h4) h2 (fun x hx => hb x (List.mem_of_mem_take hx)) hmb
    go_enter Try.func37, Try.ntmps37
    go_wp2_with fail
    refine heq.mono ?_
    rintro e w1 ⟨rfl, rfl⟩
    go_wp2_with fail
    go_ret
    exact ⟨rfl, rfl⟩
  · have HD : Hid (decide (bs.take 4 = magB) = false) := Lib.hid (by
      simp
      intro h
      have := congrArg List.length h
      rw [List.length_take] at this
      simp [magB] at this
      have := h1.len
      omega)
    have hlen := h1.len
    clear hlen
    go_enter Try.func37, Try.ntmps37
    go_wp2_with fail
    go_ret
    rw [HD.out]
    exact ⟨rfl, rfl⟩

set_option maxRecDepth 20000 in
set_option maxHeartbeats 400000 in
theorem cutprefix_any (A1 A2 : Option Addr) (n c B1 B2 : Nat) (bs : List Nat) (w : World) (h1 : Rd w B1 A1 n c bs) (h2 : Rd w B2 A2 4 4 magB) (hb : ∀ x ∈ bs, x < 256) (hn : n ≤ 100000000) :
    Calls Try.prog 33 #[.slice A1 n c, .slice A2 4 4] w fun e w' =>
      ((bs.take 4 = magB ∧ ∃ A' c', e = .returned (.tuple #[.slice A' (n - 4) c', .bool true]) ∧ (4 < n → Rd w B1 A' (n - 4) c' (bs.drop 4))) ∨ (bs.take 4 ≠ magB ∧ e = .returned (.tuple #[.slice A1 n c, .bool false]))) ∧ w = w' := by
  have hhp := hasprefix_any A1 A2 n c B1 B2 bs w h1 h2 hb
  have hcap := h1.cap
  by_cases he : bs.take 4 = magB
  · have h4 : 4 ≤ n := by
      have := congrArg List.length he
      rw [List.length_take] at this
      simp [magB] at this
      have := h1.len
      omega
    have HE := Lib.hid he
    have HR : Hid (4 < n → Rd w B1 (A1.map (fun x => ⟨x.block, x.off + 4, none⟩)) (n - 4) (c - 4) (bs.drop 4)) := Lib.hid (fun _ => by
      have := h1.cutFrom h4
      simpa [Addr.add] using this)
    rw [he] at hhp
    have hd : decide (magB = magB) = true := by simp
    rw [hd] at hhp
    clear he hd
    go_enter Try.func33, Try.ntmps33
    go_wp2_with fail
    refine hhp.mono ?_
    rintro e w1 ⟨rfl, rfl⟩
    go_wp2_with fail
    · go_ret2
      exact ⟨.inl ⟨HE.out, _, _, rfl, fun h => absurd h (by omega)⟩, rfl⟩
    · go_ret2
      exact ⟨.inl ⟨HE.out, _, _, rfl, HR.out⟩, rfl⟩
  · have hd : decide (bs.take 4 = magB) = false := by simp [he]
    rw [hd] at hhp
    have HE := Lib.hid he
    clear he hd
    go_enter Try.func33, Try.ntmps33
    go_wp2_with fail
    refine hhp.mono ?_
    rintro e w1 ⟨rfl, rfl⟩
    go_wp2_with fail
    go_ret2
    exact ⟨.inr ⟨HE.out, rfl⟩, rfl⟩


/-- what a function that reads from a place on comes to: a value, the place behind it, or an error -/
def RetK (w : World) (r : Except Nat (Nat × Nat)) (e : Ending) (w' : World) : Prop :=
  (match r with
    | .ok (k, a) => e = .returned (.tuple #[.int .i64 (k : Int), .int .i64 (a : Int), .nilIface])
    | .error j => e = .returned (.tuple #[.int .i64 0, .int .i64 0, errV j])) ∧ Below w.heap.size w w'

set_option maxRecDepth 20000 in
set_option maxHeartbeats 1000000 in
theorem getkind_any (A : Option Addr) (n c B : Nat) (bs : List Nat) (w : World) (h : Rd w B A n c bs) (hB : B ≤ w.heap.size) (hb : ∀ x ∈ bs, x < 256) (hn : n ≤ 100000000) :
    Calls Try.prog 24 #[.slice A n c] w (RetK w (getK bs)) := by
  have HL := Lib.hid h.len
  have hmag := mag_conv w
  have hmr := mag_rd w
  unfold magV at hmag hmr
  have hbm : Below w.heap.size w (w.alloc (.cells #[.int .u8 71, .int .u8 84, .int .u8 83, .int .u8 49] 5 (4, 5))) := (Below.refl _ _).alloc (Nat.le_refl _) _
  have hcp := cutprefix_any A _ n c B _ bs _ (h.below (hbm.mono hB)) hmr hb hn
  generalize hW : w.alloc (.cells #[.int .u8 71, .int .u8 84, .int .u8 83, .int .u8 49] 5 (4, 5)) = W at *
  go_enter Try.func24, Try.ntmps24
  go_wp2_with fail
  refine hcp.mono ?_
  rintro e w1 ⟨hr, rfl⟩
  rcases hr with ⟨hE, A', c', rfl, hR⟩ | ⟨hE, rfl⟩
  · have HE := Lib.hid hE
    clear hE
    by_cases h4 : n ≤ 4
    · have hn4 : n - 4 = 0 := by omega
      have HG : Hid (getK bs = .error 2) := Lib.hid (by
        unfold getK
        rw [if_neg (by simpa [magB] using HE.out), if_pos (by rw [HL.out]; exact h4)])
      rw [hn4] at hR ⊢
      clear hR
      go_wp2_with fail
      go_ret3
      rw [HG.out]
      exact ⟨rfl, hbm⟩
    · obtain ⟨ad, rfl, _, hc0⟩ := (hR (by omega)).at_ (k := 0) (by omega)
      rw [show ad.add 0 = ad by simp [Addr.add]] at hc0
      have hx : (bs.drop 4).getD 0 0 = bs.getD 4 0 := by simp [List.getD_eq_getElem?_getD]
      rw [hx] at hc0
      have hxb := byte_at hb 4
      have HG : Hid (getK bs = if bs.getD 4 0 = 1 ∨ bs.getD 4 0 = 2 then .ok (bs.getD 4 0, 5) else .error 6) := Lib.hid (by
        unfold getK
        rw [if_neg (by simpa [magB] using HE.out), if_neg (by rw [HL.out]; exact h4)])
      clear hx hR
      generalize bs.getD 4 0 = x at *
      by_cases hk : x = 1 ∨ x = 2
      · have hik := iskind_yes (k := (x : Int)) (by omega) W
        rw [if_pos hk] at HG
        clear hk
        go_wp2_with fail
        refine hik.mono ?_
        rintro e w2 ⟨rfl, rfl⟩
        go_wp2_with fail
        go_ret3
        rw [HG.out]
        exact ⟨rfl, hbm⟩
      · have hik := iskind_no (k := (x : Int)) (by omega) W
        rw [if_neg hk] at HG
        clear hk
        go_wp2_with fail
        refine hik.mono ?_
        rintro e w2 ⟨rfl, rfl⟩
        go_wp2_with fail
        go_ret3
        rw [HG.out]
        exact ⟨rfl, hbm⟩
  · have HG : Hid (getK bs = .error 5) := Lib.hid (by
      unfold getK
      rw [if_pos (by simpa [magB] using hE)])
    clear hE
    go_wp2_with fail
    go_ret3
    rw [HG.out]
    exact ⟨rfl, hbm⟩

end Go.Proofs.Ytgmnhfkmneohcaa
