/-
  Texts of this proof, one behind the other: KinEq, Same, Str, Pick, ChunkApart, ChunkApartProof.
-/
import Derived.Test.YtldodfdbaonmkaaDoorXorEq
import Derived.Test.YtldodfdbaonmkaaDoorKin1
import Derived.Test.YtldodfdbaonmkaaDoorSamples
import Derived.Test.YtldodfdbaonmkaaDoorBox3
import Derived.Test.YtldodfdbaonmkaaDoorMem
import Derived.Test.YtldodfdbaonmkaaDoorZChunkUp
import Derived.Test.YtldodfdbaonmkaaDoorZKinLaid
import Derived.Test.YtldodfdbaonmkaaDoorCards
import Derived.Test.YtldodfdbaonmkaaDoorTie
import Derived.Deep.DeepCutAuto
import Derived.Deep.RegionHeld3
import Derived.Deep.RegionWith
import Derived.Lib.SmallJoins

/-
  States of layer 8, and samples, held against themselves.
-/
namespace Go.Proofs.YtldodfdbaonmkaaDoor
open Go.RowKit

theorem kst_fields : Tryd.prog.underlying 45 = some (.struct (Tryd.prog.fieldsOf 45)) := by kernel_rfl
theorem kst_held : Tryd.prog.stoodInHeld 45 = false := by kernel_rfl
theorem kst_guard : Tryd.prog.eqGuardType Tryd.prog.depth 45 = false := by kernel_rfl
theorem rst_fields : Tryd.prog.underlying 53 = some (.struct (Tryd.prog.fieldsOf 53)) := by kernel_rfl
theorem rst_held : Tryd.prog.stoodInHeld 53 = false := by kernel_rfl
theorem rst_guard : Tryd.prog.eqGuardType Tryd.prog.depth 53 = false := by kernel_rfl
theorem smp_fields : Tryd.prog.underlying 38 = some (.struct (Tryd.prog.fieldsOf 38)) := by kernel_rfl
theorem smp_held : Tryd.prog.stoodInHeld 38 = false := by kernel_rfl
theorem smp_guard : Tryd.prog.eqGuardType Tryd.prog.depth 38 = false := by kernel_rfl

theorem run_neq_kst (w : World) (s : KS) : (binOp .neq 45 (.agg #[.int .i64 (s.n : Int), .int .i64 s.t, .int .i64 s.d, .int .u64 (s.v : Int), .int .u64 (s.e : Int), .int .u64 (s.x.prev : Int), .int .i64 (s.x.lead : Int), .int .i64 (s.x.len : Int)]) (.agg #[.int .i64 (s.n : Int), .int .i64 s.t, .int .i64 s.d, .int .u64 (s.v : Int), .int .u64 (s.e : Int), .int .u64 (s.x.prev : Int), .int .i64 (s.x.lead : Int), .int .i64 (s.x.len : Int)])).run Tryd.prog w = .ok (.bool false) w := by
  rw [run_neq_struct, run_equalIn_agg _ _ _ _ _ kst_fields kst_held]
  simp [Op.eqFields, go_sem]
theorem run_neq_rst (w : World) (s : KS) : (binOp .neq 53 (.agg #[.int .i64 (s.n : Int), .int .i64 s.t, .int .i64 s.d, .int .u64 (s.v : Int), .int .u64 (s.e : Int), .int .u64 (s.x.prev : Int), .int .i64 (s.x.lead : Int), .int .i64 (s.x.len : Int)]) (.agg #[.int .i64 (s.n : Int), .int .i64 s.t, .int .i64 s.d, .int .u64 (s.v : Int), .int .u64 (s.e : Int), .int .u64 (s.x.prev : Int), .int .i64 (s.x.lead : Int), .int .i64 (s.x.len : Int)])).run Tryd.prog w = .ok (.bool false) w := by
  rw [run_neq_struct, run_equalIn_agg _ _ _ _ _ rst_fields rst_held]
  simp [Op.eqFields, go_sem]
theorem run_neq_smp (w : World) (t v : Int) : (binOp .neq 38 (.agg #[.int .i64 t, .int .u64 v]) (.agg #[.int .i64 t, .int .u64 v])).run Tryd.prog w = .ok (.bool false) w := by
  rw [run_neq_struct, run_equalIn_agg _ _ _ _ _ smp_fields smp_held]
  simp [Op.eqFields, go_sem]

end Go.Proofs.YtldodfdbaonmkaaDoor

/-
  The contract of the laws' own Same: are two lists of samples the same?
-/
namespace Go.Proofs.YtldodfdbaonmkaaDoor
open Go.RowKit

theorem run_neq_smp2 (w : World) (t v t' v' : Int) : (binOp .neq 38 (.agg #[.int .i64 t, .int .u64 v]) (.agg #[.int .i64 t', .int .u64 v'])).run Tryd.prog w = .ok (.bool (!(t == t' && v == v'))) w := by
  rw [run_neq_struct, run_equalIn_agg _ _ _ _ _ smp_fields smp_held]
  by_cases h1 : t = t' <;> by_cases h2 : v = v' <;> simp [Op.eqFields, go_sem, h1, h2]
theorem same_all {xs ys : List (Int × Nat)} {n : Nat} (lx : xs.length = n) (ly : ys.length = n) (h : ∀ i, i < n → xs.getD i (0, 0) = ys.getD i (0, 0)) : xs = ys := by
  apply List.ext_getElem (by omega)
  intro i h1 h2
  have := h i (by omega)
  simpa [List.getD_eq_getElem?_getD, h1, h2] using this

set_option maxRecDepth 20000 in
set_option maxHeartbeats 2000000 in
theorem same_any (A1 A2 : Option Addr) (m1 c1 m2 c2 : Nat) (xs ys : List (Int × Nat)) (w : World) (h1 : RdQ w w.heap.size A1 m1 c1 xs) (h2 : RdQ w w.heap.size A2 m2 c2 ys) (hm : m1 ≤ 100000) (hm2 : m2 ≤ 100000) :
    Calls Tryd.prog 9 #[.slice A1 m1 c1, .slice A2 m2 c2] w
      fun e w' => (∃ b : Bool, e = .returned (.int .i64 (if b then 1 else 0)) ∧ (b = true ↔ xs = ys)) ∧ Below w.heap.size w w' := by
  have HX := Lib.hid h1.len
  have HY := Lib.hid h2.len
  go_enter Tryd.func9, Tryd.ntmps9
  by_cases hmm : m1 = m2
  · subst hmm
    go_wp2_with fail
    go_loopw [5] (fun i wr => ∃ k : Nat, k ≤ m1 ∧ i = .int .i64 k ∧ Below w.heap.size w wr ∧ ∀ i, i < k → xs.getD i (0, 0) = ys.getD i (0, 0)) (fun i _ => m1 - (intOf i).toNat)
    case atStart => exact ⟨0, Nat.zero_le _, rfl, Below.refl _ _, fun i hi => absurd hi (by omega)⟩
    case round =>
      obtain ⟨k, hk, rfl, hwr, hsame⟩ := hrel
      have HS := Lib.hid hsame
      clear hsame
      by_cases hlt : k < m1
      · obtain ⟨ad, rfl, hbl, hc0, hc1⟩ := (h1.below hwr).at_ hlt
        obtain ⟨bd, rfl, hbl2, hd0, hd1⟩ := (h2.below hwr).at_ hlt
        have HXK : ∀ t v, xs.getD k (0, 0) = (t, v) → True := fun _ _ _ => trivial
        obtain ⟨x, hx⟩ : ∃ x, xs.getD k (0, 0) = x := ⟨_, rfl⟩
        obtain ⟨y, hy⟩ : ∃ y, ys.getD k (0, 0) = y := ⟨_, rfl⟩
        rw [hx] at hc0 hc1
        rw [hy] at hd0 hd1
        have HKX := Lib.hid hx
        have HKY := Lib.hid hy
        clear hx hy HXK
        obtain ⟨t, v⟩ := x
        obtain ⟨t', v'⟩ := y
        simp only at hc0 hc1 hd0 hd1
        have hlt' : (k : Int) < (m1 : Int) := by omega
        have qm := fun w => run_neq_smp2 w t (v : Int) t' (v' : Int)
        have mg := smp_guard
        by_cases he : t = t' ∧ v = v'
        · obtain ⟨rfl, rfl⟩ := he
          go_upto_region 6 with fail
          go_cut [25] (fun x25 wx => x25 = .bool false ∧ Below wr.heap.size wr wx)
          case first =>
            go_quiet (fail)
            go_wp2
            go_meet
            exact ⟨by simp, by repeat (first | with_reducible exact Below.refl _ _ | with_reducible assumption | with_reducible refine Below.drew ?_ | with_reducible refine below_drewN ?_ _ | with_reducible refine Below.alloc ?_ (by (first | assumption | omega | (simp; done) | (simp; omega))) _ | with_reducible refine below_set ?_ (by (first | assumption | omega | (simp; done) | (simp; omega))) _ _)⟩
          case rest =>
            obtain ⟨rfl, hb⟩ := hcut
            clear hc0 hc1 hd0 hd1 qm mg
            go_wp2_with fail
            go_roundw
            case rel =>
              refine ⟨k + 1, by omega, by go_num, hwr.trans (hb.mono hwr.size), fun i hi => ?_⟩
              by_cases hik : i = k
              · rw [hik, HKX.out, HKY.out]
              · exact HS.out i (by omega)
            case measure => simp [intOf]; omega
        · go_upto_region 6 with fail
          go_cut [25] (fun x25 wx => x25 = .bool true ∧ Below wr.heap.size wr wx)
          case first =>
            have hb0 : (t == t' && (v : Int) == (v' : Int)) = false := by
              rw [Bool.eq_false_iff]
              intro h
              simp at h
              exact he ⟨h.1, by omega⟩
            rw [hb0] at qm
            go_quiet (fail)
            go_wp2
            go_meet
            exact ⟨by simp, by repeat (first | with_reducible exact Below.refl _ _ | with_reducible assumption | with_reducible refine Below.drew ?_ | with_reducible refine below_drewN ?_ _ | with_reducible refine Below.alloc ?_ (by (first | assumption | omega | (simp; done) | (simp; omega))) _ | with_reducible refine below_set ?_ (by (first | assumption | omega | (simp; done) | (simp; omega))) _ _)⟩
          case rest =>
            obtain ⟨rfl, hb⟩ := hcut
            clear hc0 hc1 hd0 hd1 qm mg
            go_wp2
            go_ret
            refine ⟨⟨false, rfl, ⟨fun h => absurd h (by simp), fun h => ?_⟩⟩, hwr.trans (hb.mono hwr.size)⟩
            have := HKX.out
            rw [h, HKY.out] at this
            injection this with a b
            exact absurd ⟨a.symm, b.symm⟩ he
      · obtain rfl : k = m1 := by omega
        go_wp2
        go_ret
        exact ⟨⟨true, rfl, ⟨fun _ => same_all HX.out HY.out HS.out, fun _ => rfl⟩⟩, hwr⟩
  · have hne : ((m1 : Int) != (m2 : Int)) = true := by simp; omega
    go_wp2
    go_ret
    exact ⟨⟨false, rfl, ⟨fun h => absurd h (by simp), fun h => absurd (by rw [← HX.out, ← HY.out, h]) hmm⟩⟩, Below.refl _ _⟩

end Go.Proofs.YtldodfdbaonmkaaDoor

/-
  Strings made of bytes, held against each other.
-/
namespace Go.Proofs.YtldodfdbaonmkaaDoor

theorem str_other {a b : ByteArray} (h : a ≠ b) : (a.toList == b.toList) = false := by
  rw [ByteArray.toList_eq, ByteArray.toList_eq]
  refine beq_eq_false_iff_ne.mpr (fun g => h ?_)
  cases a; cases b
  exact congrArg ByteArray.mk (Array.toList_inj.1 g)
theorem strB_inj {p q : List Nat} (hp : ∀ x ∈ p, x < 256) (hq : ∀ x ∈ q, x < 256) (h : strB p = strB q) : p = q := by
  unfold strB at h
  injection h with h
  have h2 := congrArg Array.toList h
  simp only at h2
  have h3 := congrArg (List.map UInt8.toNat) h2
  rw [List.map_map, List.map_map] at h3
  have key : ∀ l : List Nat, (∀ x ∈ l, x < 256) → l.map (UInt8.toNat ∘ UInt8.ofNat) = l := by
    intro l hl
    rw [List.map_congr_left (g := id) (fun x hx => by simp; have := hl x hx; omega), List.map_id]
  rwa [key p hp, key q hq] at h3
theorem strB_other {p q : List Nat} (hp : ∀ x ∈ p, x < 256) (hq : ∀ x ∈ q, x < 256) (h : p ≠ q) : ((strB p).toList == (strB q).toList) = false := str_other (fun e => h (strB_inj hp hq e))

end Go.Proofs.YtldodfdbaonmkaaDoor

/-
  The contract of Pick: a number modulo another one, from 0 on; it changes nothing.
-/
namespace Go.Proofs.YtldodfdbaonmkaaDoor
open Go.RowKit

theorem tmod_fact (n b : Int) (hb : 0 < b) : (n.tmod b < 0 → n.tmod b + b = n % b) ∧ (0 ≤ n.tmod b → n.tmod b = n % b) ∧ -b < n.tmod b ∧ n.tmod b < b := by
  have h5 : n.tmod b < b := Int.tmod_lt_of_pos n hb
  have h6 : -b < n.tmod b := by
    have := Int.tmod_lt_of_pos (-n) hb
    rw [Int.neg_tmod] at this
    omega
  have h7 : n.tmod b % b = n % b := by
    have h8 := Int.tmod_add_mul_tdiv n b
    conv => rhs; rw [← h8]
    rw [Int.add_mul_emod_self_left]
  refine ⟨fun h => ?_, fun h => ?_, h6, h5⟩
  · rw [← h7, ← Int.add_emod_right, Int.emod_eq_of_lt (by omega) (by omega)]
  · rw [← h7, Int.emod_eq_of_lt h h5]

set_option maxRecDepth 20000 in
set_option maxHeartbeats 400000 in
theorem pick_any (n b : Int) (w : World) (hb : 0 < b) (hb2 : b ≤ 1000000000) :
    Calls Tryd.prog 10 #[.int .i64 n, .int .i64 b] w fun e w' => e = .returned (.int .i64 (n % b)) ∧ w = w' := by
  obtain ⟨h1, h2, h3, h4⟩ := tmod_fact n b hb
  have H1 := Lib.hid h1
  have H2 := Lib.hid h2
  clear h1 h2
  have h0 : ¬ b = 0 := by omega
  go_enter Tryd.func10, Tryd.ntmps10
  go_wp2
  · go_ret
    rw [← H1.out ‹_›]
    exact ⟨rfl, rfl⟩
  · go_ret
    rw [← H2.out ‹_›]
    exact ⟨rfl, rfl⟩

end Go.Proofs.YtldodfdbaonmkaaDoor

/-
  ChunkApart, walked: it returns true, whatever the arguments.
-/
namespace Go.Proofs.YtldodfdbaonmkaaDoor
open Go.RowKit

set_option maxRecDepth 20000 in
set_option maxHeartbeats 1000000 in
theorem capart_big (A1 A2 : Option Addr) (m1 c1 m2 c2 : Nat) (z n : Int) (w : World) (_hl : m1 ≤ 9223372036854775807 ∧ m2 ≤ 9223372036854775807) (h : 100 < m1 ∨ (m1 ≤ 100 ∧ 100 < m2)) (hR : RoomW w) (hT : TzW w) :
    Calls Tryd.prog 4 #[.int .i64 z, .slice A1 m1 c1, .slice A2 m2 c2, .int .i64 n] w (RetTrue w) := by
  rcases h with h | h
  all_goals
    go_enter Tryd.func4, Tryd.ntmps4
    go_wp2_with (go_at_call 5; refine (up9_any _ hR hT).mono ?_; rintro e w1 ⟨rfl, hb1⟩)
    go_ret
    exact ⟨rfl, hb1⟩

/-- the two lists' bytes are the same just if the lists are -/
theorem bytes_same {z : Int} {xs ys : List (Int × Nat)} (h : EncE z xs 0) (h' : EncE z ys 0) (hx : AllQ xs) (hy : AllQ ys) (hl : xs.length = ys.length) (hp : pack (encP z xs 0) = pack (encP z ys 0)) : xs = ys := by
  obtain ⟨_, k, rfl, hk, hr⟩ := h.ok
  obtain ⟨_, k', e, _, hr'⟩ := h'.ok
  unfold encP at hp
  rw [if_pos rfl, if_pos rfl, ← hl] at hp
  exact chunk_same hx hy hr hr' rfl hl.symm hp
/-- a beginning's bytes -/
theorem bytes_take {z : Int} {xs : List (Int × Nat)} {m : Nat} (h1 : 1 ≤ m) (hm : m ≤ xs.length) : (pack (encP z (xs.take m) 0)).length ≤ (pack (encP z xs 0)).length ∧ 16 ≤ (pack (encP z (xs.take m) 0)).length := by
  unfold encP
  rw [if_pos rfl, if_pos rfl, pack_length, pack_length, List.length_take, Nat.min_eq_left hm, cdK_take (Nat.le_refl _)]
  have h2 := cdK_mono (k := z.toNat) (xs := xs) hm
  have h3 := cdK_first (k := z.toNat) (xs := xs) h1
  omega

set_option maxRecDepth 20000 in
set_option maxHeartbeats 8000000 in
theorem capart_in (A1 A2 : Option Addr) (m1 c1 m2 c2 : Nat) (z n : Int) (xs ys : List (Int × Nat)) (w : World) (h1 : RdQ w w.heap.size A1 m1 c1 xs) (h2 : RdQ w w.heap.size A2 m2 c2 ys) (hm1 : m1 ≤ 100) (hm2 : m2 ≤ 100) (hR : RoomW w) (hT : TzW w) :
    Calls Tryd.prog 4 #[.int .i64 z, .slice A1 m1 c1, .slice A2 m2 c2, .int .i64 n] w (RetTrue w) := by
  have HX := Lib.hid h1.all
  have HY := Lib.hid h2.all
  have HXL : Hid (xs.length = m1) := Lib.hid h1.len
  have HYL : Hid (ys.length = m2) := Lib.hid h2.len
  go_enter Tryd.func4, Tryd.ntmps4
  go_wp2_with fail
  refine (up9_any w hR hT).mono ?_
  rintro e w1 ⟨rfl, hb1⟩
  go_wp2_with fail
  refine (encode_any A1 m1 c1 z xs w1 ((h1.below hb1).more hb1.size) hm1 (hR.bel hb1) (hT.bel hb1)).mono ?_
  rintro e w2 ⟨er1, A3, c3, her1, rfl, ho2⟩
  have hb2 := hb1.trans (ho2.bel.mono hb1.size)
  have hr2 := ho2.rd
  clear ho2 hb1
  go_wp2_with fail
  refine (encode_any A2 m2 c2 z ys w2 ((h2.below hb2).more hb2.size) hm2 (hR.bel hb2) (hT.bel hb2)).mono ?_
  rintro e w3 ⟨er2, A4, c4, her2, rfl, ho3⟩
  have hb3 := hb2.trans (ho3.bel.mono hb2.size)
  have hr3 := ho3.rd
  replace hr2 := (hr2.below ho3.bel).more ho3.bel.size
  clear ho3 hb2
  by_cases e1 : er1 = 0
  · subst e1
    obtain ⟨bl1, HB1⟩ : ∃ bl, Hid (pack (encP z xs 0) = bl) := ⟨_, Lib.hid rfl⟩
    obtain ⟨bl2, HB2⟩ : ∃ bl, Hid (pack (encP z ys er2) = bl) := ⟨_, Lib.hid rfl⟩
    obtain ⟨L1, HL1⟩ : ∃ L, Hid (bl1.length = L) := ⟨_, Lib.hid rfl⟩
    obtain ⟨L2, HL2⟩ : ∃ L, Hid (bl2.length = L) := ⟨_, Lib.hid rfl⟩
    rw [HB1.out, HL1.out] at hr2 ⊢
    rw [HB2.out, HL2.out] at hr3 ⊢
    rw [show errV 0 = .nilIface from rfl]
    have HE1 := Lib.hid her1
    have HE2 := Lib.hid her2
    have hm0 : 1 ≤ m1 := by have := her1.ok.1; rw [HXL.out] at this; exact this
    clear her1 her2
    have hm10 : ((m1 : Int) == (m2 : Int)) = decide (m1 = m2) := by
      by_cases h : m1 = m2
      · subst h; simp
      · rw [decide_eq_false h]; simp; omega
    rcases (by
      by_cases h3 : er2 = 0
      · by_cases h4 : m1 = m2
        · by_cases h5 : xs = ys
          · exact .inr (.inr (.inl ⟨h3, h4, h5⟩))
          · exact .inr (.inr (.inr ⟨h3, h4, h5⟩))
        · exact .inr (.inl ⟨h3, h4⟩)
      · exact .inl h3 : er2 ≠ 0 ∨ (er2 = 0 ∧ m1 ≠ m2) ∨ (er2 = 0 ∧ m1 = m2 ∧ xs = ys) ∨ (er2 = 0 ∧ m1 = m2 ∧ xs ≠ ys)) with e2 | ⟨e2, e3⟩ | ⟨e2, e3, e4⟩ | ⟨e2, e3, e4⟩
    · have hev : errV er2 = .iface 39 (.int .i64 (er2 : Int)) := by unfold errV; rw [if_neg e2]
      rw [hev]
      clear hev hm10
      go_upto_region 11 with fail
      have hb4 := hb3
      obtain ⟨p, hp⟩ : ∃ p : Nat, n % (m1 : Int) = (p : Int) := ⟨(n % (m1 : Int)).toNat, by have := Int.emod_nonneg n (show (m1 : Int) ≠ 0 by omega); omega⟩
      have hpm : p < m1 := by have := Int.emod_lt_of_pos n (show (0 : Int) < (m1 : Int) by omega); omega
      have hP := fun X => pick_any n (m1 : Int) X (by omega) (by omega)
      rw [hp] at hP
      clear hp
      go_wp2_with fail
      refine (hP _).mono ?_
      rintro e w5 ⟨rfl, rfl⟩
      clear hP
      have hcap := h1.cap
      go_wp2_with fail
      refine (encode_any A1 (1 + p) c1 z (xs.take (1 + p)) _ (((h1.below hb4).more hb4.size).cutHead (by omega)) (by omega) (hR.bel hb4) (hT.bel hb4)).mono ?_
      rintro e w6 ⟨er3, A6, c6, her3, rfl, ho6⟩
      obtain rfl := her3.same (HE1.out.take (by omega))
      obtain ⟨hbt1, hbt2⟩ := bytes_take (z := z) (xs := xs) (m := 1 + p) (by omega) (by rw [HXL.out]; omega)
      rw [HB1.out, HL1.out] at hbt1
      rw [show errV 0 = .nilIface from rfl]
      have hb6 := hb4.trans (ho6.bel.mono hb4.size)
      clear ho6 her3
      generalize (pack (encP z (xs.take (1 + p)) 0)).length = L6 at *
      have hbt1' : (L6 : Int) ≤ (L1 : Int) := by omega
      have hbt2' : (16 : Int) ≤ (L6 : Int) := by omega
      go_wp2
      go_ret
      exact ⟨rfl, hb6⟩
    · subst e2
      rw [show errV 0 = .nilIface from rfl]
      rw [decide_eq_false e3] at hm10
      go_upto_region 11 with fail
      have hb4 := hb3
      obtain ⟨p, hp⟩ : ∃ p : Nat, n % (m1 : Int) = (p : Int) := ⟨(n % (m1 : Int)).toNat, by have := Int.emod_nonneg n (show (m1 : Int) ≠ 0 by omega); omega⟩
      have hpm : p < m1 := by have := Int.emod_lt_of_pos n (show (0 : Int) < (m1 : Int) by omega); omega
      have hP := fun X => pick_any n (m1 : Int) X (by omega) (by omega)
      rw [hp] at hP
      clear hp
      go_wp2_with fail
      refine (hP _).mono ?_
      rintro e w5 ⟨rfl, rfl⟩
      clear hP
      have hcap := h1.cap
      go_wp2_with fail
      refine (encode_any A1 (1 + p) c1 z (xs.take (1 + p)) _ (((h1.below hb4).more hb4.size).cutHead (by omega)) (by omega) (hR.bel hb4) (hT.bel hb4)).mono ?_
      rintro e w6 ⟨er3, A6, c6, her3, rfl, ho6⟩
      obtain rfl := her3.same (HE1.out.take (by omega))
      obtain ⟨hbt1, hbt2⟩ := bytes_take (z := z) (xs := xs) (m := 1 + p) (by omega) (by rw [HXL.out]; omega)
      rw [HB1.out, HL1.out] at hbt1
      rw [show errV 0 = .nilIface from rfl]
      have hb6 := hb4.trans (ho6.bel.mono hb4.size)
      clear ho6 her3
      generalize (pack (encP z (xs.take (1 + p)) 0)).length = L6 at *
      have hbt1' : (L6 : Int) ≤ (L1 : Int) := by omega
      have hbt2' : (16 : Int) ≤ (L6 : Int) := by omega
      go_wp2
      go_ret
      exact ⟨rfl, hb6⟩
    · subst e2 e3 e4
      rw [show errV 0 = .nilIface from rfl]
      rw [decide_eq_true rfl] at hm10
      obtain rfl : bl1 = bl2 := HB1.out.symm.trans HB2.out
      obtain rfl : L1 = L2 := HL1.out.symm.trans HL2.out
      have hd3 : Below w3.heap.size w3 w3.drew := by repeat (first | with_reducible exact Below.refl _ _ | with_reducible assumption | with_reducible refine Below.drew ?_ | with_reducible refine below_drewN ?_ _ | with_reducible refine Below.alloc ?_ (by (first | assumption | omega | (simp; done) | (simp; omega))) _ | with_reducible refine below_set ?_ (by (first | assumption | omega | (simp; done) | (simp; omega))) _ _)
      have hS := same_any A1 A2 m1 c1 m1 c2 xs xs w3.drew ((h1.below (hb3.trans (hd3.mono hb3.size))).more (hb3.trans (hd3.mono hb3.size)).size) ((h2.below (hb3.trans (hd3.mono hb3.size))).more (hb3.trans (hd3.mono hb3.size)).size) (by omega) (by omega)
      have hS2 : Calls Tryd.prog 9 #[.slice A1 m1 c1, .slice A2 m1 c2] w3.drew fun e w' => e = .returned (.int .i64 1) ∧ Below w3.heap.size w3 w' := hS.mono (by
        rintro e w5 ⟨⟨b, rfl, hb⟩, hb5⟩
        obtain rfl := hb.2 rfl
        exact ⟨rfl, hd3.trans hb5⟩)
      have hq1 := run_str hr2.drew
      have hq2 := run_str hr3.drew
      clear hS
      go_upto_region 9 with fail
      go_cut [65] (fun x65 wx => x65 = .bool false ∧ Below w3.heap.size w3 wx)
      case first =>
        go_region_with (first
          | (go_at_call 9; (with_reducible refine hS2.mono ?_); rintro e w5 ⟨rfl, hb5'⟩; clear hq1 hq2; have hq1 := run_str (hr2.below hb5'); have hq2 := run_str (hr3.below hb5')))
        all_goals
          clear hq1 hq2
          go_wp2
          go_meet
          exact ⟨rfl, hb5'⟩
      case rest =>
      obtain ⟨rfl, hb5⟩ := hcut
      have hb4 := hb3.trans (hb5.mono hb3.size)
      clear hS2 hq1 hq2
      go_upto_region 11 with fail
      obtain ⟨p, hp⟩ : ∃ p : Nat, n % (m1 : Int) = (p : Int) := ⟨(n % (m1 : Int)).toNat, by have := Int.emod_nonneg n (show (m1 : Int) ≠ 0 by omega); omega⟩
      have hpm : p < m1 := by have := Int.emod_lt_of_pos n (show (0 : Int) < (m1 : Int) by omega); omega
      have hP := fun X => pick_any n (m1 : Int) X (by omega) (by omega)
      rw [hp] at hP
      clear hp
      go_wp2_with fail
      refine (hP _).mono ?_
      rintro e w5 ⟨rfl, rfl⟩
      clear hP
      have hcap := h1.cap
      go_wp2_with fail
      refine (encode_any A1 (1 + p) c1 z (xs.take (1 + p)) _ (((h1.below hb4).more hb4.size).cutHead (by omega)) (by omega) (hR.bel hb4) (hT.bel hb4)).mono ?_
      rintro e w6 ⟨er3, A6, c6, her3, rfl, ho6⟩
      obtain rfl := her3.same (HE1.out.take (by omega))
      obtain ⟨hbt1, hbt2⟩ := bytes_take (z := z) (xs := xs) (m := 1 + p) (by omega) (by rw [HXL.out]; omega)
      rw [HB1.out, HL1.out] at hbt1
      rw [show errV 0 = .nilIface from rfl]
      have hb6 := hb4.trans (ho6.bel.mono hb4.size)
      clear ho6 her3
      generalize (pack (encP z (xs.take (1 + p)) 0)).length = L6 at *
      have hbt1' : (L6 : Int) ≤ (L1 : Int) := by omega
      have hbt2' : (16 : Int) ≤ (L6 : Int) := by omega
      go_wp2
      go_ret
      exact ⟨rfl, hb6⟩
    · subst e2 e3
      rw [show errV 0 = .nilIface from rfl]
      rw [decide_eq_true rfl] at hm10
      have hbn : bl1 ≠ bl2 := fun h => e4 (bytes_same HE1.out HE2.out HX.out HY.out (by rw [HXL.out, HYL.out]) (by rw [HB1.out, HB2.out, h]))
      have hss : ((strB bl1).toList == (strB bl2).toList) = false := strB_other (by rw [← HB1.out]; exact pack_lt _) (by rw [← HB2.out]; exact pack_lt _) hbn
      have hd3 : Below w3.heap.size w3 w3.drew := by repeat (first | with_reducible exact Below.refl _ _ | with_reducible assumption | with_reducible refine Below.drew ?_ | with_reducible refine below_drewN ?_ _ | with_reducible refine Below.alloc ?_ (by (first | assumption | omega | (simp; done) | (simp; omega))) _ | with_reducible refine below_set ?_ (by (first | assumption | omega | (simp; done) | (simp; omega))) _ _)
      have hS := same_any A1 A2 m1 c1 m1 c2 xs ys w3.drew ((h1.below (hb3.trans (hd3.mono hb3.size))).more (hb3.trans (hd3.mono hb3.size)).size) ((h2.below (hb3.trans (hd3.mono hb3.size))).more (hb3.trans (hd3.mono hb3.size)).size) (by omega) (by omega)
      have hS2 : Calls Tryd.prog 9 #[.slice A1 m1 c1, .slice A2 m1 c2] w3.drew fun e w' => e = .returned (.int .i64 0) ∧ Below w3.heap.size w3 w' := hS.mono (by
        rintro e w5 ⟨⟨b, rfl, hb⟩, hb5⟩
        cases b
        · exact ⟨rfl, hd3.trans hb5⟩
        · exact absurd (hb.1 rfl) e4)
      have hq1 := run_str hr2.drew
      have hq2 := run_str hr3.drew
      clear hS hbn
      go_upto_region 9 with fail
      go_cut [65] (fun x65 wx => x65 = .bool false ∧ Below w3.heap.size w3 wx)
      case first =>
        go_region_with (first
          | (go_at_call 9; (with_reducible refine hS2.mono ?_); rintro e w5 ⟨rfl, hb5'⟩; clear hq1 hq2; have hq1 := run_str (hr2.below hb5'); have hq2 := run_str (hr3.below hb5')))
        all_goals
          clear hq1 hq2
          go_wp2
          go_meet
          exact ⟨rfl, hb5'⟩
      case rest =>
      obtain ⟨rfl, hb5⟩ := hcut
      have hb4 := hb3.trans (hb5.mono hb3.size)
      clear hS2 hq1 hq2 hss
      go_upto_region 11 with fail
      obtain ⟨p, hp⟩ : ∃ p : Nat, n % (m1 : Int) = (p : Int) := ⟨(n % (m1 : Int)).toNat, by have := Int.emod_nonneg n (show (m1 : Int) ≠ 0 by omega); omega⟩
      have hpm : p < m1 := by have := Int.emod_lt_of_pos n (show (0 : Int) < (m1 : Int) by omega); omega
      have hP := fun X => pick_any n (m1 : Int) X (by omega) (by omega)
      rw [hp] at hP
      clear hp
      go_wp2_with fail
      refine (hP _).mono ?_
      rintro e w5 ⟨rfl, rfl⟩
      clear hP
      have hcap := h1.cap
      go_wp2_with fail
      refine (encode_any A1 (1 + p) c1 z (xs.take (1 + p)) _ (((h1.below hb4).more hb4.size).cutHead (by omega)) (by omega) (hR.bel hb4) (hT.bel hb4)).mono ?_
      rintro e w6 ⟨er3, A6, c6, her3, rfl, ho6⟩
      obtain rfl := her3.same (HE1.out.take (by omega))
      obtain ⟨hbt1, hbt2⟩ := bytes_take (z := z) (xs := xs) (m := 1 + p) (by omega) (by rw [HXL.out]; omega)
      rw [HB1.out, HL1.out] at hbt1
      rw [show errV 0 = .nilIface from rfl]
      have hb6 := hb4.trans (ho6.bel.mono hb4.size)
      clear ho6 her3
      generalize (pack (encP z (xs.take (1 + p)) 0)).length = L6 at *
      have hbt1' : (L6 : Int) ≤ (L1 : Int) := by omega
      have hbt2' : (16 : Int) ≤ (L6 : Int) := by omega
      go_wp2
      go_ret
      exact ⟨rfl, hb6⟩
  · have hev : errV er1 = .iface 39 (.int .i64 (er1 : Int)) := by unfold errV; rw [if_neg e1]
    have he0 : (pack (encP z xs er1)).length = 0 := by unfold encP; rw [if_neg e1]; rfl
    rw [hev, he0]
    clear hr2 hr3 hev he0
    go_wp2
    go_ret
    exact ⟨rfl, hb3⟩

end Go.Proofs.YtldodfdbaonmkaaDoor

/-
  What is proved: for every input the law ChunkApart returns true, and each argument reads afterwards as it read before; the packages' tables read as the program's text lays them. No condition.
-/
namespace Go.Proofs.YtldodfdbaonmkaaDoor
open Go.ChangeShapes Go.WideShapes Go.ChangeAt Go.RowKit

theorem capart_all (A1 A2 : Option Addr) (m1 c1 m2 c2 : Nat) (z n : Int) (xs ys : List (Int × Nat)) (w : World) (h1 : RdQ w w.heap.size A1 m1 c1 xs) (h2 : RdQ w w.heap.size A2 m2 c2 ys) (hl : m1 ≤ 9223372036854775807 ∧ m2 ≤ 9223372036854775807) (hR : RoomW w) (hT : TzW w) :
    Calls Tryd.prog 4 #[.int .i64 z, .slice A1 m1 c1, .slice A2 m2 c2, .int .i64 n] w (RetTrue w) := by
  by_cases h : 100 < m1 ∨ (m1 ≤ 100 ∧ 100 < m2)
  · exact capart_big A1 A2 m1 c1 m2 c2 z n w hl h hR hT
  · exact capart_in A1 A2 m1 c1 m2 c2 z n xs ys w h1 h2 (by omega) (by omega) hR hT

set_option maxRecDepth 100000 in
theorem capart_lifted (os : Os) (started : os.Started) (H : Type) (enc : TypeId × Value → H) :
    ReturnsInHanded {} Tryd.checked os 4 .any (fun w args => (Rows.chunkApartSpec.pre enc Tryd.prog Tryd.f4 [] false w args ∧ laidMetH Tryd.prog laid8 w) ∧ sizedMet enc Tryd.prog Tryd.f4 (OpenSpec.ofChange Rows.chunkApartSpec) false w args)
      (Rows.chunkApartSpec.post enc Tryd.prog Tryd.f4 false true false false) := by
  refine returnsInHanded_of_change_and (C := Tryd.checked) (X := fun w _ => laidMetH Tryd.prog laid8 w) (fun _ _ _ hh h => h.of_heap hh) Tryd.own started (by kernel_rfl) Tryd.func4
    (ChangeSpec.witness_shaped (enc := enc) (C := Tryd.checked) (os := os) (X := fun w _ => laidMetH Tryd.prog laid8 w) false (World.doorLaid Tryd.prog 19 os) #[.int .i64 0, .slice none 0 0, .slice none 0 0, .int .i64 0] 8 rfl (World.shaped_of_RefB (by kernel_rfl) (by kernel_rfl)) (by kernel_rfl) (by kernel_rfl) (by kernel_rfl) (door8_met os _)) ?_
  intro W base args ds gs before hval0 hW _ _ hL _
  have hval : ∀ (j : Nat) t v, Tryd.f4.params[j]? = some t → args[j]? = some v → Value.okWide Tryd.prog W .any base t v := hval0
  have hW' := hW
  obtain ⟨p, q, hA0, hV, rfl, hfz, hnd⟩ := hW
  have hA : DataW.TrodAll enc Tryd.prog W 0 (fun _ => true) true Tryd.f4.params.toList args.toList ds p := hA0
  rw [Tryd.params4] at hA hval
  obtain ⟨v0, vs0, d0, ds0, p0, q0, hargs, rfl, rfl, h0, r0⟩ := trodAll_cons hA
  obtain ⟨v1, vs1, d1, ds1, p1, q1, rfl, rfl, rfl, h1, r1⟩ := trodAll_cons r0
  obtain ⟨v2, vs2, d2, ds2, p2, q2, rfl, rfl, rfl, h2, r2⟩ := trodAll_cons r1
  obtain ⟨v3, vs3, d3, ds3, p3, q3, rfl, rfl, rfl, h3, r3⟩ := trodAll_cons r2
  obtain ⟨rfl, rfl, rfl⟩ := trodAll_nil r3
  obtain rfl : args = #[v0, v1, v2, v3] := by cases args; simp_all
  obtain ⟨a0, rfl, rfl, rfl, w0⟩ := open_int Tryd.underlying3 (hval 0 3 v0 rfl rfl) h0
  obtain ⟨A1, n1, c1, x1, rfl, hr1, hl1⟩ := open_samples (hval 1 22 v1 rfl rfl) h1
  obtain ⟨A2, n2, c2, x2, rfl, hr2, hl2⟩ := open_samples (hval 2 22 v2 rfl rfl) h2
  obtain ⟨a3, rfl, rfl, rfl, w3⟩ := open_int Tryd.underlying3 (hval 3 3 v3 rfl rfl) h3
  exact (capart_all A1 A2 n1 c1 n2 c2 a0 a3 x1 x2 W hr1 hr2 ⟨hl1, hl2⟩ (room_laid hL) (tz_laid hL)).mono
    fun e W' h => law_post (s := Rows.chunkApartSpec) rfl (by kernel_rfl) rfl (by kernel_rfl) hW' h

theorem capart_holds : Rows.ChunkApartSaid :=
  OpenClaim.holds_of_wide 4 Tryd.f4 rfl rfl rfl rfl rfl rfl rfl ⟨rfl, rfl, rfl, rfl, rfl⟩ rfl rfl rfl rfl rfl (by kernel_rfl) Tryd.func4 (by kernel_rfl)
    (of_decide_eq_true (by kernel_rfl)) (by unfold Func.isWrapper; first | (rw [if_pos (by decide +kernel)]; kernel_rfl) | (rw [if_neg (by decide +kernel)]; exact ⟨rfl, rfl⟩))
    (fun os started H enc _ => capart_lifted os started H enc)

theorem capart_card : Rows.ChunkApartCardSaid :=
  Claim7.holds_tied_plain_at .later [] [.data, .data] true Rows.chunkApartCard.stood.harness true
    capart_holds (fun _ h => by cases h) (by kernel_rfl) (fun _ h => by cases h) chunkApart_row_tie rfl ⟨rfl, rfl⟩ (by kernel_rfl) rfl
    (fun f fn hf hfn => by
      obtain rfl : f = 4 := Option.some.inj ((show Tryd.prog.funcNamed "gaiter/gaiterlaw09.ChunkApart" = some 4 by kernel_rfl).symm.trans hf) |>.symm
      obtain rfl : fn = Tryd.f4 := (Option.some.inj (Tryd.func4.symm.trans hfn)).symm
      exact ⟨by kernel_rfl, fun j t ht => by
        have hall : (Tryd.f4.params.toList.all fun u => !Tryd.prog.wantsStandIn u) = true := by kernel_rfl
        have hm : t ∈ Tryd.f4.params.toList := by simpa using Array.mem_of_getElem? ht
        exact (show Tryd.prog.wantsStandIn t = false by simpa using List.all_eq_true.1 hall t hm)⟩)
    (by kernel_rfl)

end Go.Proofs.YtldodfdbaonmkaaDoor
