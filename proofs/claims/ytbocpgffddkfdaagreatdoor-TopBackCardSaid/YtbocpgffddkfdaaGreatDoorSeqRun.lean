/-
  The contracts of layer 20's All, and of the function that it tells: it goes on where the iterator stands, round by round.
-/
import Derived.Test.YtbocpgffddkfdaaGreatDoorSeqLaw
import Derived.Test.YtbocpgffddkfdaaGreatDoorSeqIt
import Derived.TacticsInMore
import Derived.LoopIn
import Derived.LoopNIn
namespace Go.Proofs.YtbocpgffddkfdaaGreatDoor
open Go.RowKit

set_option maxRecDepth 20000 in
theorem all_any (T : TypeId) (g : Nat) (w : World) :
    Calls Tryz.prog 38 #[.iface T (.pointer (some ⟨g, 0, none⟩))] w fun e w' => e = .returned (.func (.func 56) #[] #[.pointer (some ⟨w.heap.size, 0, none⟩)]) ∧ w' = w.alloc (.cells #[.iface T (.pointer (some ⟨g, 0, none⟩))] 80) := by
  go_enter Tryz.func38, Tryz.ntmps38
  go_wp2
  go_ret
  exact ⟨rfl, rfl⟩

/-- what a round is handed -/
def argQ (xs : List (Int × Nat)) (a : Int) : Array Value := #[.int .i64 (lookQ xs a false).1, .int .u64 ((lookQ xs a false).2 : Int)]
theorem argQ_size (xs : List (Int × Nat)) (a : Int) : (argQ xs a).size = 2 := rfl

section
variable {T : TypeId} {fN fS fA B g : Nat} {xs : List (Int × Nat)} {In : (Nat → Prop) → World → Int → Bool → Prop}

set_option maxRecDepth 20000 in
set_option maxHeartbeats 4000000 in
theorem all_turns (X : ItOk T fN fS fA B g xs In) (m : Nat) (C : (Nat → Prop) → Nat → World → Prop) (Bx : Nat)
    (hC0 : ∀ P k W, C P k W → (∀ j, P j → j < W.heap.size) ∧ W.cell? ⟨Bx, 0, none⟩ = some (.iface T (.pointer (some ⟨g, 0, none⟩))))
    (hC1 : ∀ P k W W', C P k W → W.grownBy W' (some g) → C P k W') (a0 : Int) (d0 : Bool) :
    Turns m Tryz.prog 56 #[.pointer (some ⟨Bx, 0, none⟩)] (argQ xs) (fun k a d W => ∃ P, C P k W ∧ In P W a d)
      (fun k a => d0 = false ∧ a = a0 + (k : Int) + 1 ∧ a < (xs.length : Int)) (fun k a d => d = true ∧ a = a0 + (k : Int) ∧ ((d0 = true ∧ k = 0) ∨ (d0 = false ∧ a + 1 = (xs.length : Int)))) a0 d0 := by
  intro l Ob Jx W hOb hY h0 hO0
  have mN := X.mN
  have mA := X.mA
  have eN := X.eN
  have eA := X.eA
  simp only [Tryz.types_size, Nat.reduceAdd] at mN mA
  refine callsIn_of_wp Tryz.func56 rfl trivial ?_
  simp only [Tryz.ntmps56, List.size_toArray, List.length_cons, List.length_nil, Nat.reduceAdd, Nat.reduceSub, Array.replicate_succ, Array.replicate_zero, List.push_toArray, List.append_toArray, List.nil_append, List.cons_append]
  obtain ⟨P0, hc0, hi0⟩ := h0
  have hs0 := X.stands hi0
  unfold StandsAt at hs0
  have HY := Lib.hid hY
  have HOB := Lib.hid hOb
  clear hY hOb
  gi_wp2
  gi_loopg [] ((xs.length : Int) - a0).toNat (fun n wr => ∃ (k : Nat) (a : Int) (P : Nat → Prop), n = ((xs.length : Int) - a).toNat ∧ a < (xs.length : Int) ∧ a = a0 + (k : Int) ∧ (d0 = true → k = 0) ∧ C P k wr ∧ In P wr a d0 ∧ Ob wr)
  case atStart => exact ⟨0, a0, P0, rfl, hs0.2, by omega, fun _ => rfl, hc0, hi0, hO0⟩
  case round =>
    clear hc0 hi0 hO0
    obtain ⟨k, a, P, hn, hal, hak, hd, hc, hi, ho⟩ := hrel
    obtain ⟨hP, hx⟩ := hC0 P k wr hc
    have hN := X.next hi hP
    have hHO := X.holds hi
    gi_wp2_with fail
    refine ⟨trivial, fun h => (by cases h), (callsIn_wide.2 hN).mono ?_⟩
    rintro e w1 ⟨ok, a', rfl, hr, hi1, hg1⟩
    have hk1 : KeepsOthers wr w1 := KeepsOthers.of_grownBy hg1 (fun j o e ho => by
      injection e with e
      subst e
      obtain ⟨o', ho', hc'⟩ := hHO
      rw [ho] at ho'
      cases ho'
      exact hc')
    have hc1 := hC1 P k wr w1 hc hg1
    have ho1 := HOB.out _ _ ho hk1
    clear hN hHO hk1 hc hi ho hP hx
    cases ok
    · have HE : Hid (a' = a ∧ (d0 = true ∨ a + 1 = (xs.length : Int))) := Lib.hid (by
        rcases hr with ⟨_, _, h, _⟩ | ⟨h1, _, h2⟩
        · cases h
        · exact ⟨h2, h1⟩)
      clear hr
      gi_wp2
      go_end0
      obtain ⟨rfl, h2⟩ := HE.out
      refine ⟨⟨_, rfl⟩, .inl ⟨k, _, true, ⟨rfl, hak, ?_⟩, ⟨P, hc1, hi1⟩, ho1⟩⟩
      cases hd0 : d0
      · refine .inr ⟨rfl, ?_⟩
        rcases h2 with h2 | h2
        · rw [hd0] at h2
          cases h2
        · exact h2
      · exact .inl ⟨rfl, hd hd0⟩
    · have HE : Hid (d0 = false ∧ a' = a + 1 ∧ a' < (xs.length : Int)) := Lib.hid (by
        rcases hr with ⟨h1, h2, _, h3⟩ | ⟨_, h, _⟩
        · exact ⟨h1, h3, by omega⟩
        · cases h)
      clear hr
      obtain ⟨hP, hx⟩ := hC0 P k w1 hc1
      have hA := X.look hi1
      have HR : Hid (d0 = false ∧ a' = a0 + (k : Int) + 1 ∧ a' < (xs.length : Int)) := Lib.hid (by
        obtain ⟨e1, e2, e3⟩ := HE.out
        exact ⟨e1, by omega, e3⟩)
      rw [Bool.not_true] at hA hi1
      have hY2 := HY.out k a'
      unfold argQ at hY2
      generalize lookQ xs a' false = lk at *
      obtain ⟨t, v⟩ := lk
      simp only at hA hY2
      gi_wp2_with fail
      refine ⟨trivial, fun h => (by cases h), (callsIn_wide.2 hA).mono ?_⟩
      rintro e w2 ⟨rfl, hb2⟩
      have hc2 := hC1 P k w1 w2 hc1 (grown_below hb2 (some g))
      have hi2 := X.below hi1 hb2
      have ho2 := HOB.out _ _ ho1 (KeepsOthers.of_grownBy (grown_below hb2 none) (fun j o e => by cases e))
      obtain ⟨fn, tmps, assign, body, hy, hR⟩ := hY2 w2 HR.out ⟨P, hc2, hi2⟩ ho2
      have HG : Hid (((xs.length : Int) - a').toNat < gk) := Lib.hid (by
        obtain ⟨e1, e2, e3⟩ := HE.out
        omega)
      clear hA hc1 hi1 ho1 hx hP hc2 hi2 ho2 hY2 hn hal hak hd
      gi_wp2
      refine ⟨fun h => (by cases h), hR.mono ?_⟩
      rintro e W3 (⟨rfl, ⟨P3, hc3, hi3⟩, ho3⟩ | ⟨rfl, hJ3⟩)
      · gi_wp2
        gi_roundg ((xs.length : Int) - a').toNat
        case measure => exact HG.out
        case rel =>
          obtain ⟨e1, e2, e3⟩ := HR.out
          exact ⟨k + 1, a', P3, rfl, e3, by omega, fun h => (by rw [e1] at h; cases h), hc3, by rw [e1]; exact hi3, ho3⟩
      · gi_wp2
        refine bodyPost_ret (results_none rfl _ _ _) rfl ?_
        exact ⟨⟨_, rfl⟩, .inr ⟨k, a', HR.out, hJ3⟩⟩
end

end Go.Proofs.YtbocpgffddkfdaaGreatDoor
