/-
  Texts of this proof, one behind the other: SeqLaw, SeqRun, SeqCol, SeqCollect.
-/
import Derived.Test.YtbocpgffddkfdaaGreatDoorSeqIt
import Derived.RangeFuncFrom
import Derived.Sort.LoopGhostIn
import Derived.WalkMore
import Derived.TacticsInMore
import Derived.LoopIn
import Derived.LoopNIn
import Derived.RangeFuncBox
import Derived.RangeFuncCalls
import Derived.RangeFuncLeaves

namespace Go.Proofs.YtbocpgffddkfdaaGreatDoor
open Go.RowKit

def turnPost (I : Nat → Int → Bool → World → Prop) (Ix : Code → Nat → Int → World → Prop) (k : Nat) (a : Int) (W : World) : Exit → Act → World → Prop
  | .normal, _, W' => KeepsOthers W W' ∧ I (k + 1) a false W'
  | .ret, _, W' => KeepsOthers W W' ∧ Ix .ret k a W'
  | .exit id, _, W' => KeepsOthers W W' ∧ Ix (.exit id) k a W'
  | .goto t, _, W' => KeepsOthers W W' ∧ Ix (.goto t) k a W'
  | .panic _, _, _ => False
  | .outgrown, _, _ => False
def Turns (m : Nat) (P : Program) (gf : Nat) (lb : Array Value) (arg : Int → Array Value) (I : Nat → Int → Bool → World → Prop) (Rd : Nat → Int → Prop) (Fin : Nat → Int → Bool → Prop) (a0 : Int) (d0 : Bool) : Prop :=
  ∀ (l : Nat) (Ob : World → Prop) (Jx : Nat → Int → World → Prop) (W : World), (∀ A B, Ob A → KeepsOthers A B → Ob B) →
    (∀ k a W1, Rd k a → I k a false W1 → Ob W1 → YieldAt Fence.wide (m - 1) P l (arg a) W1 fun e W' =>
      (e = .returned (.bool true) ∧ I (k + 1) a false W' ∧ Ob W') ∨ (e = .returned (.bool false) ∧ Jx k a W')) →
    I 0 a0 d0 W → Ob W →
    CallsIn Fence.wide m P gf (#[.func (.yield l) #[] #[]] ++ lb) W fun e W' => (∃ v, e = .returned v) ∧ ((∃ k a d, Fin k a d ∧ I k a d W' ∧ Ob W') ∨ ∃ k a, Rd k a ∧ Jx k a W')
def NoCells (B : Nat) (p : World → Prop) : Prop :=
  ∀ W W' row, p W → W.grownBy W' row → (∀ r, row = some r → B ≤ r ∧ ∃ o : Obj, W.heap[r]? = some o ∧ o.isCells = false) → p W'
theorem NoCells.put {B : Nat} {p : World → Prop} (h : NoCells B p) {W : World} {l : Nat} {o : Obj} (o' : Obj) (hs : p W) (hB : B ≤ l) (hl : W.heap[l]? = some o) (ho : o.isCells = false) : p (W.putObj l o') :=
  h W _ (some l) hs (grownBy_putObj' W l o') (fun r e => by cases e; exact ⟨hB, o, hl, ho⟩)
theorem NoCells.alloc {B : Nat} {p : World → Prop} (h : NoCells B p) {W : World} (o : Obj) (hs : p W) : p (W.alloc o) :=
  h W _ none hs (World.grownBy_alloc W o none) (fun r e => by cases e)
section
variable {P : Program} {m : Nat}

theorem wpIn_turns {g : Operand} {ps : Array Tmp} {assign body : Code} {Q : Exit → Act → World → Prop} {a : Act} {w : World} {gf : Nat} {lb : Array Value} {arg : Int → Array Value} {Rd : Nat → Int → Prop} {Fin : Nat → Int → Bool → Prop} {a0 : Int} {d0 : Bool}
    (I : Nat → Int → Bool → World → Prop) (Ix : Code → Nat → Int → World → Prop) (a₁ : Int → Act)
    (h1 : 1 ≤ m) (hg : a.eval g = .func (.func gf) #[] lb) (eg : ∀ args w, (callFunc gf args).run P w = .ok (.enter gf args) w)
    (hseq : Turns (m - 1) P gf lb arg I Rd Fin a0 d0) (hps : ∀ x, (arg x).size = ps.size)
    (hI : ∀ k a d, NoCells w.heap.size (I k a d)) (hIx : ∀ c k a, NoCells w.heap.size (Ix c k a)) (h0 : I 0 a0 d0 w)
    (hassign : ∀ (l : Nat) (x : Int) (W : World) (K : Act → World → Prop), K (a₁ x) W →
      assign.wpIn (Fence.wide.inRound l) (m - 1 - 1) P (Exit.then K (fun _ _ _ => False)) { tmps := (ps.zip (arg x)).foldl (fun t (p, v) => t.setIfInBounds p v) a.tmps, defers := [] } W)
    (hbody : ∀ (l k : Nat) (x : Int) (W : World), Rd k x → I k x false W → body.wpIn (Fence.wide.inRound l) (m - 1 - 1) P (turnPost I Ix k x W) (a₁ x) W)
    (hdone : ∀ (D k : Nat) (x : Int) (d : Bool) (W : World), w.heap.size ≤ D → Fin k x d → I k x d W → W.heap[D]? = some (.deferred (some [])) → Q .normal { a with defers := { target := .collected D, args := #[] } :: a.defers } W)
    (hstop : ∀ (D : Nat) (c : Code) (k : Nat) (x : Int) (W : World), w.heap.size ≤ D → Rd k x → Ix c k x W → W.heap[D]? = some (.deferred (some [])) → c.wpIn Fence.wide m P Q { a with defers := { target := .collected D, args := #[] } :: a.defers } W) :
    (Code.rangeFunc g ps assign body).wpIn Fence.wide m P Q a w := by
  refine wpIn_rangeFunc fun fn hfn => ?_
  obtain ⟨lr, hlr⟩ : ∃ lr : LoopState → Option Code → Loop, lr = fun st pe => { state := st, pending := pe, fn := fn, tmps := a.tmps, params := ps, assign := assign, body := body, defers := w.heap.size } := ⟨_, rfl⟩
  have hpar : ∀ st pe, (lr st pe).params = ps := fun st pe => by rw [hlr]
  obtain ⟨D, hD⟩ : ∃ D, w.heap.size = D := ⟨_, rfl⟩
  obtain ⟨V, hV⟩ : ∃ V, V = (w.alloc (.deferred (some []))).alloc (.loop (lr .ready none)) := ⟨_, rfl⟩
  obtain ⟨Ob, hOb⟩ : ∃ Ob : Loop → World → Prop, Ob = fun r W => W.heap[D + 1]? = some (.loop r) ∧ W.heap[D]? = some (.deferred (some [])) := ⟨_, rfl⟩
  have keep : ∀ {r : Loop} {A B : World}, Ob r A → KeepsOthers A B → Ob r B := fun {r A B} h k => by
    rw [hOb] at h ⊢
    exact ⟨k.same _ _ h.1 rfl, k.same _ _ h.2 rfl⟩
  have turn : ∀ {r : Loop} (r' : Loop) {A : World}, Ob r A → Ob r' (A.putObj (D + 1) (.loop r')) := fun {r} r' {A} h => by
    rw [hOb] at h ⊢
    exact ⟨World.putObj_heap_same (Array.getElem?_eq_some_iff.1 h.1).1, (World.putObj_heap_other (by omega)).trans h.2⟩
  have hV1 : Ob (lr .ready none) V := by
    have e1 := World.alloc_heap_new (w.alloc (.deferred (some []))) (.loop (lr .ready none))
    have e2 := World.alloc_heap_new w (.deferred (some []))
    rw [World.size_alloc, hD, ← hV] at e1
    rw [hD] at e2
    rw [hOb]
    refine ⟨e1, ?_⟩
    rw [hV]
    exact (Below.heap_alloc _ _ _ (by simp; omega)).trans e2
  have hVI : I 0 a0 d0 V := by rw [hV]; exact (hI _ _ _).alloc _ ((hI _ _ _).alloc _ h0)
  rw [hD] at hI hIx hdone hstop
  refine ⟨D + 1, [{ target := .collected D, args := #[] }], V, { target := .fn (.func gf) lb, args := #[.func (.yield (D + 1)) #[] #[]] }, V, gf, #[.func (.yield (D + 1)) #[] #[]] ++ lb, V, ?_, ?_, fun _ _ => trivial, ?_, fun _ => h1, ?_⟩
  · have e := run_enterLoop_outer (P := P) (w := w) fn a.tmps ps assign body
    rw [hD] at e
    rw [hV, hlr, hD]
    exact e
  · simp only [resolve, hg]
    simp [go_sem]
  · simp [invoke, go_sem, eg]
  refine (hseq (D + 1) (Ob (lr .ready none)) (fun k x W => ∃ c, Ix c k x W ∧ Ob (lr .done (some c)) W) V (fun A B h k => keep h k) ?_ hVI hV1).mono ?_
  ·
    intro k x W hR hi ho
    have ho' := ho
    rw [hOb] at ho'
    have hy := run_yield (P := P) (args := arg x) ho'.1 (by rw [hpar]; exact hps x)
    rw [hlr] at hy
    refine ⟨fn, _, assign, body, hy, roundIn_of_wpIn hfn (hassign _ x W _ ⟨_, run_beginRound ho'.1 (by rw [hlr]), ?_⟩)⟩
    have ob := turn { lr .ready none with state := .busy } ho
    refine wpIn_mono (hbody _ k x _ hR ((hI _ _ _).put _ hi (by omega) ho'.1 rfl)) ?_
    have fin : ∀ (jump : Option Code) (W3 : World), Ob { lr .ready none with state := .busy } W3 → (Instr.endRound (D + 1) jump).run P W3 = .ok (.bool jump.isNone) (W3.putObj (D + 1) (.loop (lr (if jump.isNone then .ready else .done) jump))) ∧ (W3.heap[D + 1]? = some (.loop { lr .ready none with state := .busy })) ∧ Ob (lr (if jump.isNone then .ready else .done) jump) (W3.putObj (D + 1) (.loop (lr (if jump.isNone then .ready else .done) jump))) := fun jump W3 h3 => by
      have h3' := h3
      rw [hOb] at h3'
      have e := run_endRound (P := P) jump h3'.1
      refine ⟨?_, h3'.1, turn _ h3⟩
      rw [hlr] at e ⊢
      exact e
    intro e a3 W3 hp
    cases e with
    | normal =>
      obtain ⟨f1, f2, f3⟩ := fin none W3 (keep ob hp.1)
      exact ⟨_, _, f1, .inl ⟨rfl, (hI _ _ _).put _ hp.2 (by omega) f2 rfl, f3⟩⟩
    | ret =>
      obtain ⟨f1, f2, f3⟩ := fin (some .ret) W3 (keep ob hp.1)
      exact ⟨_, _, f1, .inr ⟨rfl, .ret, (hIx _ _ _).put _ hp.2 (by omega) f2 rfl, f3⟩⟩
    | exit id =>
      obtain ⟨f1, f2, f3⟩ := fin (some (.exit id)) W3 (keep ob hp.1)
      exact ⟨_, _, f1, .inr ⟨rfl, .exit id, (hIx _ _ _).put _ hp.2 (by omega) f2 rfl, f3⟩⟩
    | goto t =>
      obtain ⟨f1, f2, f3⟩ := fin (some (.goto t)) W3 (keep ob hp.1)
      exact ⟨_, _, f1, .inr ⟨rfl, .goto t, (hIx _ _ _).put _ hp.2 (by omega) f2 rfl, f3⟩⟩
    | panic ch => exact hp.elim
    | outgrown => exact hp.elim
  ·
    have gone : ∀ (pe : Option Code) (st : LoopState) (W2 : World), st ≠ .busy → Ob (lr st pe) W2 → (Instr.endLoop (D + 1)).run P W2 = .ok pe (W2.putObj (D + 1) (.loop (lr .exhausted pe))) ∧ W2.heap[D + 1]? = some (.loop (lr st pe)) ∧ (W2.putObj (D + 1) (.loop (lr .exhausted pe))).heap[D]? = some (.deferred (some [])) := fun pe st W2 hst h => by
      have h' := h
      rw [hOb] at h'
      have e := run_endLoop (P := P) h'.1 (by rw [hlr]; exact hst)
      refine ⟨?_, h'.1, (World.putObj_heap_other (by omega)).trans h'.2⟩
      rw [hlr] at e ⊢
      exact e
    rintro e W2 ⟨⟨v, rfl⟩, (⟨k, x, d, hF, hi, ho⟩ | ⟨k, x, hR, c, hi, ho⟩)⟩
    · obtain ⟨f1, f2, f3⟩ := gone _ _ W2 (by simp) ho
      exact ⟨none, _, f1, hdone _ k x d _ (Nat.le_refl _) hF ((hI _ _ _).put _ hi (by omega) f2 rfl) f3⟩
    · obtain ⟨f1, f2, f3⟩ := gone _ _ W2 (by simp) ho
      exact ⟨some c, _, f1, hstop _ c k x _ (Nat.le_refl _) hR ((hIx _ _ _).put _ hi (by omega) f2 rfl) f3⟩
end

end Go.Proofs.YtbocpgffddkfdaaGreatDoor

namespace Go.Proofs.YtbocpgffddkfdaaGreatDoor
open Go.RowKit

set_option maxRecDepth 20000 in
theorem all_any (T : TypeId) (g : Nat) (w : World) :
    Calls Tryz.prog 38 #[.iface T (.pointer (some ⟨g, 0, none⟩))] w fun e w' => e = .returned (.func (.func 56) #[] #[.pointer (some ⟨w.heap.size, 0, none⟩)]) ∧ w' = w.alloc (.cells #[.iface T (.pointer (some ⟨g, 0, none⟩))] 80) := by
  go_enter Tryz.func38, Tryz.ntmps38
  go_wp2
  go_ret
  exact ⟨rfl, rfl⟩
def argQ (xs : List (Int × Nat)) (a : Int) : Array Value := #[.int .i64 (lookQ xs a false).1, .int .u64 ((lookQ xs a false).2 : Int)]
section
variable {T : TypeId} {fN fS fA B g : Nat} {xs : List (Int × Nat)} {In : (Nat → Prop) → World → Int → Bool → Prop}

set_option maxRecDepth 20000 in
set_option maxHeartbeats 4000000 in
theorem all_turns (X : ItOk T fN fS fA B g xs In) (m : Nat) (C : (Nat → Prop) → Nat → World → Prop) (Bx : Nat)
    (hC0 : ∀ P k W, C P k W → (∀ j, P j → j < W.heap.size) ∧ W.cell? ⟨Bx, 0, none⟩ = some (.iface T (.pointer (some ⟨g, 0, none⟩))))
    (hC1 : ∀ P k W W', C P k W → W.grownBy W' (some g) → C P k W') (a0 : Int) (d0 : Bool) :
    Turns m Tryz.prog 56 #[.pointer (some ⟨Bx, 0, none⟩)] (argQ xs) (fun k a d W => ∃ P, C P k W ∧ In P W a d)
      (fun k a => d0 = false ∧ a = a0 + (k : Int) + 1 ∧ a < (xs.length : Int)) (fun k a d => d = true ∧ a = a0 + (k : Int) ∧ ((d0 = true ∧ k = 0) ∨ (d0 = false ∧ a + 1 = (xs.length : Int)))) a0 d0 := by
  intro l Ob Jx W hOb hY h0 hO0
  have mN := X.mN
  have mA := X.mA
  have eN := X.eN
  have eA := X.eA
  simp only [Tryz.types_size, Nat.reduceAdd] at mN mA
  refine callsIn_of_wp Tryz.func56 rfl trivial ?_
  simp only [Tryz.ntmps56, List.size_toArray, List.length_cons, List.length_nil, Nat.reduceAdd, Nat.reduceSub, Array.replicate_succ, Array.replicate_zero, List.push_toArray, List.append_toArray, List.nil_append, List.cons_append]
  obtain ⟨P0, hc0, hi0⟩ := h0
  have hs0 := X.stands hi0
  unfold StandsAt at hs0
  have HY := Lib.hid hY
  have HOB := Lib.hid hOb
  clear hY hOb
  gi_wp2
  gi_loopg [] ((xs.length : Int) - a0).toNat (fun n wr => ∃ (k : Nat) (a : Int) (P : Nat → Prop), n = ((xs.length : Int) - a).toNat ∧ a < (xs.length : Int) ∧ a = a0 + (k : Int) ∧ (d0 = true → k = 0) ∧ C P k wr ∧ In P wr a d0 ∧ Ob wr)
  case atStart => exact ⟨0, a0, P0, rfl, hs0.2, by omega, fun _ => rfl, hc0, hi0, hO0⟩
  case round =>
    clear hc0 hi0 hO0
    obtain ⟨k, a, P, hn, hal, hak, hd, hc, hi, ho⟩ := hrel
    obtain ⟨hP, hx⟩ := hC0 P k wr hc
    have hN := X.next hi hP
    have hHO := X.holds hi
    gi_wp2_with fail
    refine ⟨trivial, fun h => (by cases h), (callsIn_wide.2 hN).mono ?_⟩
    rintro e w1 ⟨ok, a', rfl, hr, hi1, hg1⟩
    have hk1 : KeepsOthers wr w1 := KeepsOthers.of_grownBy hg1 (fun j o e ho => by
      injection e with e
      subst e
      obtain ⟨o', ho', hc'⟩ := hHO
      rw [ho] at ho'
      cases ho'
      exact hc')
    have hc1 := hC1 P k wr w1 hc hg1
    have ho1 := HOB.out _ _ ho hk1
    clear hN hHO hk1 hc hi ho hP hx
    cases ok
    · have HE : Hid (a' = a ∧ (d0 = true ∨ a + 1 = (xs.length : Int))) := Lib.hid (by
        rcases hr with ⟨_, _, h, _⟩ | ⟨h1, _, h2⟩
        · cases h
        · exact ⟨h2, h1⟩)
      clear hr
      gi_wp2
      go_end0
      obtain ⟨rfl, h2⟩ := HE.out
      refine ⟨⟨_, rfl⟩, .inl ⟨k, _, true, ⟨rfl, hak, ?_⟩, ⟨P, hc1, hi1⟩, ho1⟩⟩
      cases hd0 : d0
      · refine .inr ⟨rfl, ?_⟩
        rcases h2 with h2 | h2
        · rw [hd0] at h2
          cases h2
        · exact h2
      · exact .inl ⟨rfl, hd hd0⟩
    · have HE : Hid (d0 = false ∧ a' = a + 1 ∧ a' < (xs.length : Int)) := Lib.hid (by
        rcases hr with ⟨h1, h2, _, h3⟩ | ⟨_, h, _⟩
        · exact ⟨h1, h3, by omega⟩
        · cases h)
      clear hr
      obtain ⟨hP, hx⟩ := hC0 P k w1 hc1
      have hA := X.look hi1
      have HR : Hid (d0 = false ∧ a' = a0 + (k : Int) + 1 ∧ a' < (xs.length : Int)) := Lib.hid (by
        obtain ⟨e1, e2, e3⟩ := HE.out
        exact ⟨e1, by omega, e3⟩)
      rw [Bool.not_true] at hA hi1
      have hY2 := HY.out k a'
      unfold argQ at hY2
      generalize lookQ xs a' false = lk at *
      obtain ⟨t, v⟩ := lk
      simp only at hA hY2
      gi_wp2_with fail
      refine ⟨trivial, fun h => (by cases h), (callsIn_wide.2 hA).mono ?_⟩
      rintro e w2 ⟨rfl, hb2⟩
      have hc2 := hC1 P k w1 w2 hc1 (grown_below hb2 (some g))
      have hi2 := X.below hi1 hb2
      have ho2 := HOB.out _ _ ho1 (KeepsOthers.of_grownBy (grown_below hb2 none) (fun j o e => by cases e))
      obtain ⟨fn, tmps, assign, body, hy, hR⟩ := hY2 w2 HR.out ⟨P, hc2, hi2⟩ ho2
      have HG : Hid (((xs.length : Int) - a').toNat < gk) := Lib.hid (by
        obtain ⟨e1, e2, e3⟩ := HE.out
        omega)
      clear hA hc1 hi1 ho1 hx hP hc2 hi2 ho2 hY2 hn hal hak hd
      gi_wp2
      refine ⟨fun h => (by cases h), hR.mono ?_⟩
      rintro e W3 (⟨rfl, ⟨P3, hc3, hi3⟩, ho3⟩ | ⟨rfl, hJ3⟩)
      · gi_wp2
        gi_roundg ((xs.length : Int) - a').toNat
        case measure => exact HG.out
        case rel =>
          obtain ⟨e1, e2, e3⟩ := HR.out
          exact ⟨k + 1, a', P3, rfl, e3, by omega, fun h => (by rw [e1] at h; cases h), hc3, by rw [e1]; exact hi3, ho3⟩
      · gi_wp2
        refine bodyPost_ret (results_none rfl _ _ _) rfl ?_
        exact ⟨⟨_, rfl⟩, .inr ⟨k, a', HR.out, hJ3⟩⟩
end

end Go.Proofs.YtbocpgffddkfdaaGreatDoor

namespace Go.Proofs.YtbocpgffddkfdaaGreatDoor
open Go.RowKit

def restQ (xs : List (Int × Nat)) (a : Int) (d : Bool) : List (Int × Nat) := if d = true then [] else xs.drop (a + 1).toNat
theorem restQ_done (xs : List (Int × Nat)) (a : Int) : restQ xs a true = [] := rfl
theorem restQ_live (xs : List (Int × Nat)) (a : Int) : restQ xs a false = xs.drop (a + 1).toNat := rfl
theorem restQ_len {xs : List (Int × Nat)} {a : Int} (ha : StandsAt xs.length a) : ((restQ xs a false).length : Int) = (xs.length : Int) - a - 1 := by
  unfold StandsAt at ha
  rw [restQ_live, List.length_drop]
  omega
theorem restQ_get {xs : List (Int × Nat)} {a : Int} (ha : -1 ≤ a) (k : Nat) (hk : a + (k : Int) + 1 < (xs.length : Int)) : (restQ xs a false).take (k + 1) = (restQ xs a false).take k ++ [lookQ xs (a + (k : Int) + 1) false] := by
  have h1 : k < (restQ xs a false).length := by rw [restQ_live, List.length_drop]; omega
  rw [List.take_add_one, List.getElem?_eq_getElem h1]
  have h2 : lookQ xs (a + (k : Int) + 1) false = xs.getD (a + (k : Int) + 1).toNat (0, 0) := by
    unfold lookQ
    rw [if_neg]
    intro h
    rcases h with h | h
    · cases h
    · omega
  rw [h2]
  simp only [restQ_live, List.getElem_drop, Option.toList_some, List.getD_eq_getElem?_getD]
  rw [List.getElem?_eq_getElem (by omega)]
  simp only [Option.getD_some]
  congr 2
  have : (a + 1).toNat + k = (a + (k : Int) + 1).toNat := by omega
  simp only [this]
def colA (xs : List (Int × Nat)) (a : Int) (d : Bool) (m : Nat) : Int := a + ((min m (restQ xs a d).length : Nat) : Int)
def colD (xs : List (Int × Nat)) (a : Int) (d : Bool) (m : Nat) : Bool := if (restQ xs a d).length < m then true else d
structure AtCol (w0 : World) (P0 : Nat → Prop) (g BL BM BX : Nat) (tM : TypeId) (vM vX : Value) (ys : List (Int × Nat)) (P : Nat → Prop) (k : Nat) (W : World) : Prop where
  lst : ∃ v, Boxed W BL 27 v ∧ RowQ w0.heap.size W v (ys.take k) ∧ ∀ j, v.ownBlock = some j → P j
  bm : Boxed W BM tM vM
  bx : Boxed W BX 80 vX
  inP : ∀ j, P j → j < W.heap.size
  bl : P BL
  gr : w0.grownBy W (some g)
  sub : ∀ j, P0 j → P j
structure ColFix (w0 : World) (g BL BM BX : Nat) : Prop where
  g0 : g < w0.heap.size
  l0 : w0.heap.size ≤ BL
  m0 : w0.heap.size ≤ BM
  x0 : w0.heap.size ≤ BX
  lm : BL ≠ BM
  lx : BL ≠ BX
section
variable {w0 W W' w1 : World} {P0 P : Nat → Prop} {g BL BM BX k : Nat} {tM : TypeId} {vM vX v v' : Value} {ys : List (Int × Nat)}
theorem Boxed.cells {b : Nat} {t : TypeId} {u : Value} (h : Boxed W b t u) {row : Option Nat} (hr : ∀ r, row = some r → ∃ o : Obj, W.heap[r]? = some o ∧ o.isCells = false) : some b ≠ row := fun e => by
  obtain ⟨o, ho, hc⟩ := hr b e.symm
  rw [show W.heap[b]? = _ from h] at ho
  cases ho
  cases hc
theorem AtCol.step (h : AtCol w0 P0 g BL BM BX tM vM vX ys P k W) (f : ColFix w0 g BL BM BX) (hg : W.grownBy W' (some g)) : AtCol w0 P0 g BL BM BX tM vM vX ys P k W' := by
  obtain ⟨v, h1, h2, h3⟩ := h.lst
  have f1 := f.g0
  have f2 := f.l0
  have f3 := f.m0
  have f4 := f.x0
  refine ⟨⟨v, h1.kept hg (fun e => by injection e with e; omega), h2.kept hg (fun j e e' => ?_), h3⟩, h.bm.kept hg (fun e => by injection e with e; omega), h.bx.kept hg (fun e => by injection e with e; omega), fun j hj => Nat.lt_of_lt_of_le (h.inP j hj) hg.size, h.bl, h.gr.trans hg, h.sub⟩
  injection e' with e'
  have := (h2.lt e).1
  omega
theorem AtCol.noCells (h : AtCol w0 P0 g BL BM BX tM vM vX ys P k W) {row : Option Nat} (hg : W.grownBy W' row) (hr : ∀ r, row = some r → w0.heap.size ≤ r ∧ ∃ o : Obj, W.heap[r]? = some o ∧ o.isCells = false) : AtCol w0 P0 g BL BM BX tM vM vX ys P k W' := by
  obtain ⟨v, h1, h2, h3⟩ := h.lst
  have hr' : ∀ r, row = some r → ∃ o : Obj, W.heap[r]? = some o ∧ o.isCells = false := fun r e => (hr r e).2
  refine ⟨⟨v, h1.kept hg (Boxed.cells h1 hr'), h2.kept hg (fun j e e' => ?_), h3⟩, h.bm.kept hg (Boxed.cells h.bm hr'), h.bx.kept hg (Boxed.cells h.bx hr'), fun j hj => Nat.lt_of_lt_of_le (h.inP j hj) hg.size, h.bl, ?_, h.sub⟩
  · obtain ⟨o, ho, hc⟩ := hr' j e'
    obtain ⟨o', ho', hc'⟩ := h2.cells e
    rw [ho] at ho'
    cases ho'
    rw [hc] at hc'
    cases hc'
  · have hs := h.gr.size
    refine ⟨hg.os.trans h.gr.os, hg.tape.trans h.gr.tape, hg.output.trans h.gr.output, Nat.le_trans hs hg.size, fun j hj hne => ?_⟩
    refine (hg.block j (Nat.lt_of_lt_of_le hj hs) (fun e => ?_)).trans (h.gr.block j hj hne)
    have := (hr j e.symm).1
    omega
variable {T : TypeId} {fN fS fA B : Nat} {xs : List (Int × Nat)} {In : (Nat → Prop) → World → Int → Bool → Prop} {a : Int} {d : Bool} {o : Obj}
theorem AtCol.put (X : ItOk T fN fS fA B g xs In) (f : ColFix w0 g BL BM BX) (h : AtCol w0 P0 g BL BM BX tM vM vX ys P k W) (hi : In P W a d) (htM : tM ≠ 61) (hv : Boxed W BL 27 v) (hrow : RowQ w0.heap.size W v (ys.take k)) (hvP : ∀ j, v.ownBlock = some j → P j)
    (hrow' : RowQ w0.heap.size w1 v' (ys.take (k + 1))) (hg : (W.alloc o).grownBy w1 v.ownBlock) (hat : v'.ownBlock = v.ownBlock ∨ v'.ownBlock = some (W.alloc o).heap.size) :
    Boxed w1 BL 27 v ∧ KeepsOthers W (w1.setCell ⟨BL, 0, none⟩ v') ∧ ∃ P', AtCol w0 P0 g BL BM BX tM vM vX ys P' (k + 1) (w1.setCell ⟨BL, 0, none⟩ v') ∧ In P' (w1.setCell ⟨BL, 0, none⟩ v') a d := by
  have f1 := f.g0
  have f2 := f.l0
  have f3 := f.m0
  have f4 := f.x0
  have f5 := f.lm
  have f6 := f.lx
  have hs0 := h.gr.size
  have hgv : ∀ j, v.ownBlock = some j → P j ∧ g ≠ j := fun j e => ⟨hvP j e, by have := (hrow.lt e).1; omega⟩
  have b1 : Boxed w1 BL 27 v := (hv.alloc o).kept hg (hv.not_row (by decide) hrow.row)
  have bm1 : Boxed w1 BM tM vM := (h.bm.alloc o).kept hg (h.bm.not_row htM hrow.row)
  have bx1 : Boxed w1 BX 80 vX := (h.bx.alloc o).kept hg (h.bx.not_row (by decide) hrow.row)
  have i1 := X.appended (X.below hi ((Below.refl _ _).alloc (Nat.le_refl _) o)) hg hgv hat
  have hset := grownBy_setCell' w1 BL v'
  have i2 := X.far i1 hset (.inl h.bl) (by omega)
  have hsz : (W.alloc o).heap.size = W.heap.size + 1 := by simp
  have r2 : RowQ w0.heap.size (w1.setCell ⟨BL, 0, none⟩ v') v' (ys.take (k + 1)) := hrow'.kept hset (fun j e e' => by
    injection e' with e'
    subst e'
    exact b1.not_row (by decide) hrow'.row e.symm)
  have gr1 : w0.grownBy w1 (some g) := by
    have ga := h.gr.trans (World.grownBy_alloc W o (some g))
    refine ⟨hg.os.trans ga.os, hg.tape.trans ga.tape, hg.output.trans ga.output, Nat.le_trans ga.size hg.size, fun j hj hne => ?_⟩
    refine (hg.block j (Nat.lt_of_lt_of_le hj ga.size) (fun e => ?_)).trans (ga.block j hj hne)
    have := (hrow.lt e.symm).1
    omega
  refine ⟨b1, ?_, _, ⟨⟨v', b1.set v', r2, fun j e => .inr e⟩, bm1.kept hset (fun e => by injection e with e; omega), bx1.kept hset (fun e => by injection e with e; omega), fun j hj => ?_, .inl h.bl, ?_, fun j hj => .inl (h.sub j hj)⟩, i2⟩
  · refine ((KeepsOthers.alloc W o).trans (KeepsOthers.of_grownBy hg fun j q e hq => ?_)).trans (KeepsOthers.setCell _ _ _)
    obtain ⟨q', hq', hc'⟩ := (hrow.alloc o).cells e
    rw [hq] at hq'
    cases hq'
    exact hc'
  · rcases hj with hj | hj
    · exact Nat.lt_of_lt_of_le (h.inP j hj) (by have := hg.size; have := hset.size; omega)
    · exact (r2.lt hj).2
  · refine ⟨hset.os.trans gr1.os, hset.tape.trans gr1.tape, hset.output.trans gr1.output, Nat.le_trans gr1.size hset.size, fun j hj hne => ?_⟩
    exact (hset.block j (Nat.lt_of_lt_of_le hj gr1.size) (fun e => by injection e with e; omega)).trans (gr1.block j hj hne)
theorem AtCol.ret (X : ItOk T fN fS fA B g xs In) (f : ColFix w0 g BL BM BX) (h : AtCol w0 P0 g BL BM BX tM vM vX ys P k W) (hi : In P W a d) (hg0 : P0 g) (hge : ∀ j, P0 j → B ≤ j) {D : Nat} (hD : w0.heap.size ≤ D) {q : Obj} (o' : Obj) (hK : W.heap[D]? = some q) (hq : q.isCells = false) :
    ∃ A c, Boxed W BL 27 (.slice A (ys.take k).length c) ∧ RdQ (W.putObj D o') (W.putObj D o').heap.size A (ys.take k).length c (ys.take k) ∧ In P0 (W.putObj D o') a d ∧ w0.grownBy (W.putObj D o') (some g) ∧ ∀ ad, A = some ad → w0.heap.size ≤ ad.block := by
  have f1 := f.g0
  have hgr := grownBy_putObj' W D o'
  have hr : ∀ r, some D = some r → w0.heap.size ≤ r ∧ ∃ o : Obj, W.heap[r]? = some o ∧ o.isCells = false := fun r e => by
    injection e with e
    subst e
    exact ⟨hD, q, hK, hq⟩
  have h' := h.noCells hgr hr
  obtain ⟨v, h1, h2, h3⟩ := h.lst
  obtain ⟨A, c, rfl⟩ := h2.form
  refine ⟨A, c, h1, ?_, X.also (X.own hi hgr (fun r e => ⟨by have := (hr r e).1; omega, (hr r e).2⟩)) (fun j hj _ => h.sub j hj) hg0 hge, h'.gr, fun ad e => (h2.lt (k := ad.block) (by rw [e]; rfl)).1⟩
  refine (h2.kept hgr (fun j e e' => ?_)).rd
  injection e' with e'
  subst e'
  obtain ⟨o2, ho2, hc2⟩ := h2.cells e
  rw [hK] at ho2
  cases ho2
  rw [hq] at hc2
  cases hc2
end

end Go.Proofs.YtbocpgffddkfdaaGreatDoor

namespace Go.Proofs.YtbocpgffddkfdaaGreatDoor
open Go.RowKit

attribute [local go_sem] Oper.semAt_some

section
variable {T : TypeId} {fN fS fA B g : Nat} {xs : List (Int × Nat)} {In : (Nat → Prop) → World → Int → Bool → Prop}

def RetCol (In : (Nat → Prop) → World → Int → Bool → Prop) (P0 : Nat → Prop) (w : World) (g : Nat) (l : List (Int × Nat)) (a : Int) (d : Bool) (e : Ending) (w' : World) : Prop :=
  ∃ A c, e = .returned (.slice A l.length c) ∧ RdQ w' w'.heap.size A l.length c l ∧ In P0 w' a d ∧ w.grownBy w' (some g) ∧ ∀ ad, A = some ad → w.heap.size ≤ ad.block
set_option maxRecDepth 20000 in
set_option maxHeartbeats 4000000 in
theorem collect_any (X : ItOk T fN fS fA B g xs In) (P0 : Nat → Prop) (a0 most : Int) (d0 : Bool) (w : World) (hi : In P0 w a0 d0) (hP : ∀ j, P0 j → j < w.heap.size) (hm : -9223372036854775808 ≤ most ∧ most ≤ 9223372036854775807) :
    Calls Tryz.prog 19 #[.iface T (.pointer (some ⟨g, 0, none⟩)), .int .i64 most] w (RetCol In P0 w g ((restQ xs a0 d0).take most.toNat) (colA xs a0 d0 most.toNat) (colD xs a0 d0 most.toNat)) := by
  refine (callsIn_wide (n := 9)).1 (callsIn_of_wp_marks Tryz.func19 rfl trivial ?_)
  simp only [Tryz.ntmps19, List.size_toArray, List.length_cons, List.length_nil, Nat.reduceAdd, Nat.reduceSub, Array.replicate_succ, Array.replicate_zero, List.push_toArray, List.append_toArray, List.nil_append, List.cons_append]
  by_cases hm1 : most < 1
  · have hz : most.toNat = 0 := by omega
    gi_wp2
    rw [hz]
    refine ⟨_, results_tmp rfl _ _ _, none, 0, rfl, rd_no0 _ _, ?_, World.grownBy_alloc _ _ _, fun ad e => by cases e⟩
    have e1 : colA xs a0 d0 0 = a0 := by simp [colA]
    have e2 : colD xs a0 d0 0 = d0 := by simp [colD]
    rw [e1, e2]
    exact X.below hi ((Below.refl _ _).alloc (Nat.le_refl _) _)
  · have hm1' : ¬ most < 1 := hm1
    have hg0 := X.lt hi
    have hst := X.stands hi
    have hgP := X.at_ hi
    have hge := X.ge hi
    have hbase := X.base
    have hb3 : Below w.heap.size w (((w.alloc (.cells #[.int .i64 most] 3)).alloc (.cells #[.slice none 0 0] 27)).alloc (.cells #[.iface T (.pointer (some ⟨g, 0, none⟩))] 80)) := (((Below.refl _ w).alloc (Nat.le_refl _) _).alloc (by simp) _).alloc (by simp; omega) _
    have bm : Boxed (((w.alloc (.cells #[.int .i64 most] 3)).alloc (.cells #[.slice none 0 0] 27)).alloc (.cells #[.iface T (.pointer (some ⟨g, 0, none⟩))] 80)) w.heap.size 3 (.int .i64 most) := ((Boxed.new w _ _).alloc _).alloc _
    have bl : Boxed (((w.alloc (.cells #[.int .i64 most] 3)).alloc (.cells #[.slice none 0 0] 27)).alloc (.cells #[.iface T (.pointer (some ⟨g, 0, none⟩))] 80)) (w.heap.size + 1) 27 (.slice none 0 0) := by
      have := (Boxed.new (w.alloc (.cells #[.int .i64 most] 3)) 27 (.slice none 0 0)).alloc (.cells #[.iface T (.pointer (some ⟨g, 0, none⟩))] 80)
      rwa [World.size_alloc] at this
    have bx : Boxed (((w.alloc (.cells #[.int .i64 most] 3)).alloc (.cells #[.slice none 0 0] 27)).alloc (.cells #[.iface T (.pointer (some ⟨g, 0, none⟩))] 80)) (w.heap.size + 2) 80 (.iface T (.pointer (some ⟨g, 0, none⟩))) := by
      have := Boxed.new ((w.alloc (.cells #[.int .i64 most] 3)).alloc (.cells #[.slice none 0 0] 27)) 80 (.iface T (.pointer (some ⟨g, 0, none⟩)))
      rwa [World.size_alloc, World.size_alloc] at this
    have hfix : ColFix w g (w.heap.size + 1) w.heap.size (w.heap.size + 2) := ⟨hg0, by omega, by omega, by omega, by omega, by omega⟩
    have hsz : (((w.alloc (.cells #[.int .i64 most] 3)).alloc (.cells #[.slice none 0 0] 27)).alloc (.cells #[.iface T (.pointer (some ⟨g, 0, none⟩))] 80)).heap.size = w.heap.size + 3 := by simp
    gi_wp2_with fail
    refine ⟨trivial, (callsIn_wide.2 (all_any T g _)).mono ?_⟩
    rintro e w1 ⟨rfl, rfl⟩
    obtain ⟨V, hV⟩ : ∃ V, V = ((w.alloc (.cells #[.int .i64 most] 3)).alloc (.cells #[.slice none 0 0] 27)).alloc (.cells #[.iface T (.pointer (some ⟨g, 0, none⟩))] 80) := ⟨_, rfl⟩
    rw [← hV] at hb3 bm bl bx hsz ⊢
    have hAt : AtCol w P0 g (w.heap.size + 1) w.heap.size (w.heap.size + 2) 3 (.int .i64 most) (.iface T (.pointer (some ⟨g, 0, none⟩))) (restQ xs a0 d0) (fun j => P0 j ∨ j = w.heap.size + 1) 0 V :=
      ⟨⟨_, bl, RowQ.nil_ _ _, fun j e => by cases e⟩, bm, bx, fun j hj => by
        rcases hj with hj | rfl
        · have := hP j hj
          omega
        · omega, .inr rfl, grown_below hb3 _, fun j hj => .inl hj⟩
    have hIn : In (fun j => P0 j ∨ j = w.heap.size + 1) V a0 d0 := X.below (X.also hi (fun j hj hl => by
      rcases hj with hj | rfl
      · exact hj
      · omega) (.inl hgP) (fun j hj => by
      rcases hj with hj | rfl
      · exact hge j hj
      · omega)) hb3
    clear hV hb3 bm bl bx
    obtain ⟨ys, hys⟩ : ∃ ys, ys = restQ xs a0 d0 := ⟨_, rfl⟩
    rw [← hys] at hAt
    have HYS := Lib.hid hys
    obtain ⟨C, hC⟩ : ∃ C : (Nat → Prop) → Nat → World → Prop, C = fun (P : Nat → Prop) (k : Nat) (W : World) => AtCol w P0 g (w.heap.size + 1) w.heap.size (w.heap.size + 2) 3 (.int .i64 most) (.iface T (.pointer (some ⟨g, 0, none⟩))) ys P k W ∧ (k : Int) < most := ⟨_, rfl⟩
    obtain ⟨Ix, hIx⟩ : ∃ Ix : Code → Nat → Int → World → Prop, Ix = fun (c : Code) (k : Nat) (a : Int) (W : World) => c = Code.exit 0 ∧ (k : Int) + 1 = most ∧ ∃ P, AtCol w P0 g (w.heap.size + 1) w.heap.size (w.heap.size + 2) 3 (.int .i64 most) (.iface T (.pointer (some ⟨g, 0, none⟩))) ys P (k + 1) W ∧ In P W a false := ⟨_, rfl⟩
    have hC0 : ∀ P k W, C P k W → (∀ j, P j → j < W.heap.size) ∧ W.cell? ⟨w.heap.size + 2, 0, none⟩ = some (.iface T (.pointer (some ⟨g, 0, none⟩))) := fun P k W h => by
      rw [hC] at h
      exact ⟨h.1.inP, h.1.bx.cell⟩
    have hC1 : ∀ P k W W', C P k W → W.grownBy W' (some g) → C P k W' := fun P k W W' h hg => by
      rw [hC] at h ⊢
      exact ⟨h.1.step hfix hg, h.2⟩
    have hC2 : ∀ k a d, NoCells V.heap.size (fun W => ∃ P, C P k W ∧ In P W a d) := fun k a d W W' row h hg hr => by
      obtain ⟨P, hc, hi⟩ := h
      rw [hC] at hc
      refine ⟨P, ?_, X.own hi hg (fun r e => ⟨by have := (hr r e).1; omega, (hr r e).2⟩)⟩
      rw [hC]
      exact ⟨hc.1.noCells hg (fun r e => ⟨by have := (hr r e).1; omega, (hr r e).2⟩), hc.2⟩
    have hIx2 : ∀ c k a, NoCells V.heap.size (Ix c k a) := fun c k a W W' row h hg hr => by
      rw [hIx] at h ⊢
      obtain ⟨e1, e2, P, hc, hi⟩ := h
      exact ⟨e1, e2, P, hc.noCells hg (fun r e => ⟨by have := (hr r e).1; omega, (hr r e).2⟩), X.own hi hg (fun r e => ⟨by have := (hr r e).1; omega, (hr r e).2⟩)⟩
    gi_wp2_with fail
    refine wpIn_turns (m := 9) (gf := 56) (lb := #[.pointer (some ⟨w.heap.size + 2, 0, none⟩)]) (arg := argQ xs) (fun k a d W => ∃ P, C P k W ∧ In P W a d) Ix
      (fun x => { tmps := #[.iface T (.pointer (some ⟨g, 0, none⟩)), .int .i64 most, undef, .pointer (some ⟨w.heap.size, 0, none⟩), .slice none 0 0, .pointer (some ⟨w.heap.size + 1, 0, none⟩), .int .i64 (lookQ xs x false).1, .int .u64 ((lookQ xs x false).2 : Int), .int .i64 most, .bool false, .iface T (.pointer (some ⟨g, 0, none⟩)), .func (.func 56) #[] #[.pointer (some ⟨w.heap.size + 2, 0, none⟩)], .int .i64 (lookQ xs x false).1, .int .u64 ((lookQ xs x false).2 : Int), undef, undef, undef, undef, undef, undef, undef, undef, undef, undef, undef], defers := [] })
      (by omega) rfl (enters_of Tryz.func56 (by kernel_rfl) rfl) (all_turns X 8 C (w.heap.size + 2) hC0 hC1 a0 d0) (fun _ => rfl) hC2 hIx2 ⟨_, by rw [hC]; exact ⟨hAt, by omega⟩, hIn⟩ ?assign ?body ?done ?stop
    case assign =>
      intro l x W K hK
      unfold argQ
      gi_wp2
      exact hK
    case body =>
      rintro l k x W ⟨hd0, hx, hxl⟩ ⟨P, hc, hi⟩
      rw [hC] at hc
      obtain ⟨hA, hkm⟩ := hc
      obtain ⟨v, hv, hrow, hvP⟩ := hA.lst
      have hbm := hA.bm
      unfold StandsAt at hst
      have hg1 := restQ_get (xs := xs) (a := a0) hst.1 k (by omega)
      have e0 : restQ xs a0 false = ys := by rw [hys, hd0]
      rw [e0, ← hx] at hg1
      have hkl : (ys.take k).length = k ∧ (ys.take (k + 1)).length = k + 1 := by
        have h1 := restQ_len (xs := xs) hst
        rw [e0] at h1
        rw [List.length_take, List.length_take]
        omega
      have hfq : FitQ (lookQ xs x false) := by
        have : lookQ xs x false = xs.getD x.toNat (0, 0) := by
          unfold lookQ
          rw [if_neg]
          intro h
          rcases h with h | h
          · cases h
          · omega
        rw [this, List.getD_eq_getElem?_getD, List.getElem?_eq_getElem (by omega)]
        exact X.fit _ (List.getElem_mem _)
      have hfew := X.few
      have hk1 : k ≤ 100000 := by omega
      have HP := Lib.hid hC
      have HQ := Lib.hid hIx
      clear e0 hC hIx hC0 hC1 hC2 hIx2 hAt hIn hys HYS hx hxl
      generalize lookQ xs x false = lk at *
      have h1q := RdQ.one W lk hfq
      have hWs := hA.gr.size
      obtain ⟨q1, q2⟩ := lk
      dsimp only at h1q ⊢
      have hcv := hv.cell
      have hcm := hbm.cell
      gi_wp2_with (gi_at_builtin; refine wpListIn_rowQ rfl (.tmp 14) (.tmp 18) rfl rfl rfl (hrow.alloc _) (by rw [World.size_alloc]; omega) h1q (by rw [hkl.1]; omega) ?_; intro v' w1 hrow' hg2 hat; rw [← hg1] at hrow'; obtain ⟨hv1, hko, hput⟩ := AtCol.put X hfix hA hi (by decide) hv hrow hvP hrow' hg2 hat; have hcv1 := hv1.cell; have hfv1 := hv1.frozen; obtain ⟨P', hA', hi'⟩ := hput; have hcm' := hA'.bm.cell; obtain ⟨A', c', rfl⟩ := hrow'.form; rw [hkl.2] at *)
      · refine ⟨hko, ?_⟩
        rw [HQ.out]
        have heq : ((k : Int) + 1 == most) = true := by assumption
        exact ⟨rfl, by simpa using heq, P', hA', hi'⟩
      · refine ⟨hko, P', ?_, hi'⟩
        rw [HP.out]
        have hne : ((k : Int) + 1 == most) = false := by assumption
        have hne2 : ¬ ((k : Int) + 1 = most) := by simpa using hne
        exact ⟨hA', by omega⟩
    case done =>
      rintro D k x d W hD ⟨rfl, hx, hend⟩ ⟨P, hc, hi⟩ hK
      rw [hC] at hc
      obtain ⟨hA, hkm⟩ := hc
      obtain ⟨A, c, hv, hq, hi0, hgr, hnew⟩ := hA.ret X hfix hi hgP hge (by omega) (.deferred none) hK rfl
      have hlen : ys.length = k := by
        rcases hend with ⟨e1, e2⟩ | ⟨e1, e2⟩
        · rw [hys, e1, restQ_done, e2]
          rfl
        · have h1 := restQ_len (xs := xs) hst
          rw [← e1, ← hys] at h1
          unfold StandsAt at hst
          omega
      have HF : Hid (RetCol In P0 w g ((restQ xs a0 d0).take most.toNat) (colA xs a0 d0 most.toNat) (colD xs a0 d0 most.toNat) (.returned (.slice A (ys.take k).length c)) (W.putObj D (.deferred none))) := Lib.hid (by
        have e1 : colA xs a0 d0 most.toNat = x := by
          unfold colA
          rw [← hys, hlen, hx]
          omega
        have e2 : colD xs a0 d0 most.toNat = true := by
          unfold colD
          rw [← hys, hlen, if_pos (by omega)]
        rw [e1, e2, ← hys]
        have e3 : ys.take most.toNat = ys.take k := by
          rw [List.take_of_length_le (by omega), List.take_of_length_le (by omega)]
        rw [e3]
        exact ⟨A, c, rfl, hq, hi0, hgr, hnew⟩)
      have hcv := hv.cell
      obtain ⟨L, hL⟩ : ∃ L, (ys.take k).length = L := ⟨_, rfl⟩
      rw [hL] at HF hcv
      clear hC hIx hC0 hC1 hC2 hIx2 hAt hIn hys HYS hx hend hq hA hi hi0 hgr hlen hv hL
      gi_wp2
      refine ⟨by simp, .inl ⟨_, _, rfl, run_takeDeferred hK, ?_⟩⟩
      refine ⟨_, results_tmp rfl _ _ _, ?_⟩
      exact HF.out
    case stop =>
      rintro D c k x W hD ⟨hd0, hx, hxl⟩ hix hK
      rw [hIx] at hix
      obtain ⟨rfl, hkm, P, hA, hi⟩ := hix
      obtain ⟨A, c, hv, hq, hi0, hgr, hnew⟩ := hA.ret X hfix hi hgP hge (by omega) (.deferred none) hK rfl
      have hlen : k + 1 ≤ ys.length := by
        have h1 := restQ_len (xs := xs) hst
        rw [← hd0, ← hys] at h1
        omega
      have HF : Hid (RetCol In P0 w g ((restQ xs a0 d0).take most.toNat) (colA xs a0 d0 most.toNat) (colD xs a0 d0 most.toNat) (.returned (.slice A (ys.take (k + 1)).length c)) (W.putObj D (.deferred none))) := Lib.hid (by
        have e3 : most.toNat = k + 1 := by omega
        rw [e3]
        have e1 : colA xs a0 d0 (k + 1) = x := by
          unfold colA
          rw [← hys, hx]
          omega
        have e2 : colD xs a0 d0 (k + 1) = false := by
          unfold colD
          rw [← hys, if_neg (by omega), hd0]
        rw [e1, e2, ← hys]
        exact ⟨A, c, rfl, hq, hi0, hgr, hnew⟩)
      have hcv := hv.cell
      obtain ⟨L, hL⟩ : ∃ L, (ys.take (k + 1)).length = L := ⟨_, rfl⟩
      rw [hL] at HF hcv
      clear hC hIx hC0 hC1 hC2 hIx2 hAt hIn hys HYS hx hq hA hi hi0 hgr hlen hv hL
      gi_wp2
      refine ⟨by simp, .inl ⟨_, _, rfl, run_takeDeferred hK, ?_⟩⟩
      refine ⟨_, results_tmp rfl _ _ _, ?_⟩
      exact HF.out
end

end Go.Proofs.YtbocpgffddkfdaaGreatDoor
