/-
  A range over a function whose own steps write boxes and make memory: a law for the one who ranges.
-/
import Derived.RangeFuncFrom
import Derived.Sort.LoopGhostIn
import Derived.WalkMore
namespace Go.Proofs.YtbocpgffddkfdaaGreatDoor
open Go.RowKit

/-- what a round leaves behind: the next one may come, or it was a way out -/
def turnPost (I : Nat → Int → Bool → World → Prop) (Ix : Code → Nat → Int → World → Prop) (k : Nat) (a : Int) (W : World) : Exit → Act → World → Prop
  | .normal, _, W' => KeepsOthers W W' ∧ I (k + 1) a false W'
  | .ret, _, W' => KeepsOthers W W' ∧ Ix .ret k a W'
  | .exit id, _, W' => KeepsOthers W W' ∧ Ix (.exit id) k a W'
  | .goto t, _, W' => KeepsOthers W W' ∧ Ix (.goto t) k a W'
  | .panic _, _, _ => False
  | .outgrown, _, _ => False

/-- a function that is ranged over: it may write boxes and make memory; what holds no cells lies as it lay -/
def Turns (m : Nat) (P : Program) (gf : Nat) (lb : Array Value) (arg : Int → Array Value) (I : Nat → Int → Bool → World → Prop) (Rd : Nat → Int → Prop) (Fin : Nat → Int → Bool → Prop) (a0 : Int) (d0 : Bool) : Prop :=
  ∀ (l : Nat) (Ob : World → Prop) (Jx : Nat → Int → World → Prop) (W : World), (∀ A B, Ob A → KeepsOthers A B → Ob B) →
    (∀ k a W1, Rd k a → I k a false W1 → Ob W1 → YieldAt Fence.wide (m - 1) P l (arg a) W1 fun e W' =>
      (e = .returned (.bool true) ∧ I (k + 1) a false W' ∧ Ob W') ∨ (e = .returned (.bool false) ∧ Jx k a W')) →
    I 0 a0 d0 W → Ob W →
    CallsIn Fence.wide m P gf (#[.func (.yield l) #[] #[]] ++ lb) W fun e W' => (∃ v, e = .returned v) ∧ ((∃ k a d, Fin k a d ∧ I k a d W' ∧ Ob W') ∨ ∃ k a, Rd k a ∧ Jx k a W')

/-- the one who ranges does not mind blocks that hold no cells, made since the loop began -/
def NoCells (B : Nat) (p : World → Prop) : Prop :=
  ∀ W W' row, p W → W.grownBy W' row → (∀ r, row = some r → B ≤ r ∧ ∃ o : Obj, W.heap[r]? = some o ∧ o.isCells = false) → p W'
theorem NoCells.put {B : Nat} {p : World → Prop} (h : NoCells B p) {W : World} {l : Nat} {o : Obj} (o' : Obj) (hs : p W) (hB : B ≤ l) (hl : W.heap[l]? = some o) (ho : o.isCells = false) : p (W.putObj l o') :=
  h W _ (some l) hs (grownBy_putObj' W l o') (fun r e => by cases e; exact ⟨hB, o, hl, ho⟩)
theorem NoCells.alloc {B : Nat} {p : World → Prop} (h : NoCells B p) {W : World} (o : Obj) (hs : p W) : p (W.alloc o) :=
  h W _ none hs (World.grownBy_alloc W o none) (fun r e => by cases e)

section
variable {P : Program} {m : Nat}

theorem wpIn_turns {g : Operand} {ps : Array Tmp} {assign body : Code} {Q : Exit → Act → World → Prop} {a : Act} {w : World} {gf : Nat} {lb : Array Value} {arg : Int → Array Value} {Rd : Nat → Int → Prop} {Fin : Nat → Int → Bool → Prop} {a0 : Int} {d0 : Bool}
    (I : Nat → Int → Bool → World → Prop) (Ix : Code → Nat → Int → World → Prop) (a₁ : Int → Act)
    (h1 : 1 ≤ m) (hg : a.eval g = .func (.func gf) #[] lb) (eg : ∀ args w, (callFunc gf args).run P w = .ok (.enter gf args) w)
    (hseq : Turns (m - 1) P gf lb arg I Rd Fin a0 d0) (hps : ∀ x, (arg x).size = ps.size)
    (hI : ∀ k a d, NoCells w.heap.size (I k a d)) (hIx : ∀ c k a, NoCells w.heap.size (Ix c k a)) (h0 : I 0 a0 d0 w)
    (hassign : ∀ (l : Nat) (x : Int) (W : World) (K : Act → World → Prop), K (a₁ x) W →
      assign.wpIn (Fence.wide.inRound l) (m - 1 - 1) P (Exit.then K (fun _ _ _ => False)) { tmps := (ps.zip (arg x)).foldl (fun t (p, v) => t.setIfInBounds p v) a.tmps, defers := [] } W)
    (hbody : ∀ (l k : Nat) (x : Int) (W : World), Rd k x → I k x false W → body.wpIn (Fence.wide.inRound l) (m - 1 - 1) P (turnPost I Ix k x W) (a₁ x) W)
    (hdone : ∀ (D k : Nat) (x : Int) (d : Bool) (W : World), w.heap.size ≤ D → Fin k x d → I k x d W → W.heap[D]? = some (.deferred (some [])) → Q .normal { a with defers := { target := .collected D, args := #[] } :: a.defers } W)
    (hstop : ∀ (D : Nat) (c : Code) (k : Nat) (x : Int) (W : World), w.heap.size ≤ D → Rd k x → Ix c k x W → W.heap[D]? = some (.deferred (some [])) → c.wpIn Fence.wide m P Q { a with defers := { target := .collected D, args := #[] } :: a.defers } W) :
    (Code.rangeFunc g ps assign body).wpIn Fence.wide m P Q a w := by
  refine wpIn_rangeFunc fun fn hfn => ?_
  -- the loop's own record, by its state; it lies behind the block for what is deferred
  obtain ⟨lr, hlr⟩ : ∃ lr : LoopState → Option Code → Loop, lr = fun st pe => { state := st, pending := pe, fn := fn, tmps := a.tmps, params := ps, assign := assign, body := body, defers := w.heap.size } := ⟨_, rfl⟩
  have hpar : ∀ st pe, (lr st pe).params = ps := fun st pe => by rw [hlr]
  obtain ⟨D, hD⟩ : ∃ D, w.heap.size = D := ⟨_, rfl⟩
  obtain ⟨V, hV⟩ : ∃ V, V = (w.alloc (.deferred (some []))).alloc (.loop (lr .ready none)) := ⟨_, rfl⟩
  obtain ⟨Ob, hOb⟩ : ∃ Ob : Loop → World → Prop, Ob = fun r W => W.heap[D + 1]? = some (.loop r) ∧ W.heap[D]? = some (.deferred (some [])) := ⟨_, rfl⟩
  have keep : ∀ {r : Loop} {A B : World}, Ob r A → KeepsOthers A B → Ob r B := fun {r A B} h k => by
    rw [hOb] at h ⊢
    exact ⟨k.same _ _ h.1 rfl, k.same _ _ h.2 rfl⟩
  have turn : ∀ {r : Loop} (r' : Loop) {A : World}, Ob r A → Ob r' (A.putObj (D + 1) (.loop r')) := fun {r} r' {A} h => by
    rw [hOb] at h ⊢
    exact ⟨World.putObj_heap_same (Array.getElem?_eq_some_iff.1 h.1).1, (World.putObj_heap_other (by omega)).trans h.2⟩
  have hV1 : Ob (lr .ready none) V := by
    have e1 := World.alloc_heap_new (w.alloc (.deferred (some []))) (.loop (lr .ready none))
    have e2 := World.alloc_heap_new w (.deferred (some []))
    rw [World.size_alloc, hD, ← hV] at e1
    rw [hD] at e2
    rw [hOb]
    refine ⟨e1, ?_⟩
    rw [hV]
    exact (Below.heap_alloc _ _ _ (by simp; omega)).trans e2
  have hVI : I 0 a0 d0 V := by rw [hV]; exact (hI _ _ _).alloc _ ((hI _ _ _).alloc _ h0)
  rw [hD] at hI hIx hdone hstop
  refine ⟨D + 1, [{ target := .collected D, args := #[] }], V, { target := .fn (.func gf) lb, args := #[.func (.yield (D + 1)) #[] #[]] }, V, gf, #[.func (.yield (D + 1)) #[] #[]] ++ lb, V, ?_, ?_, fun _ _ => trivial, ?_, fun _ => h1, ?_⟩
  · have e := run_enterLoop_outer (P := P) (w := w) fn a.tmps ps assign body
    rw [hD] at e
    rw [hV, hlr, hD]
    exact e
  · simp only [resolve, hg]
    simp [go_sem]
  · simp [invoke, go_sem, eg]
  refine (hseq (D + 1) (Ob (lr .ready none)) (fun k x W => ∃ c, Ix c k x W ∧ Ob (lr .done (some c)) W) V (fun A B h k => keep h k) ?_ hVI hV1).mono ?_
  · -- one round
    intro k x W hR hi ho
    have ho' := ho
    rw [hOb] at ho'
    have hy := run_yield (P := P) (args := arg x) ho'.1 (by rw [hpar]; exact hps x)
    rw [hlr] at hy
    refine ⟨fn, _, assign, body, hy, roundIn_of_wpIn hfn (hassign _ x W _ ⟨_, run_beginRound ho'.1 (by rw [hlr]), ?_⟩)⟩
    have ob := turn { lr .ready none with state := .busy } ho
    refine wpIn_mono (hbody _ k x _ hR ((hI _ _ _).put _ hi (by omega) ho'.1 rfl)) ?_
    have fin : ∀ (jump : Option Code) (W3 : World), Ob { lr .ready none with state := .busy } W3 → (Instr.endRound (D + 1) jump).run P W3 = .ok (.bool jump.isNone) (W3.putObj (D + 1) (.loop (lr (if jump.isNone then .ready else .done) jump))) ∧ (W3.heap[D + 1]? = some (.loop { lr .ready none with state := .busy })) ∧ Ob (lr (if jump.isNone then .ready else .done) jump) (W3.putObj (D + 1) (.loop (lr (if jump.isNone then .ready else .done) jump))) := fun jump W3 h3 => by
      have h3' := h3
      rw [hOb] at h3'
      have e := run_endRound (P := P) jump h3'.1
      refine ⟨?_, h3'.1, turn _ h3⟩
      rw [hlr] at e ⊢
      exact e
    intro e a3 W3 hp
    cases e with
    | normal =>
      obtain ⟨f1, f2, f3⟩ := fin none W3 (keep ob hp.1)
      exact ⟨_, _, f1, .inl ⟨rfl, (hI _ _ _).put _ hp.2 (by omega) f2 rfl, f3⟩⟩
    | ret =>
      obtain ⟨f1, f2, f3⟩ := fin (some .ret) W3 (keep ob hp.1)
      exact ⟨_, _, f1, .inr ⟨rfl, .ret, (hIx _ _ _).put _ hp.2 (by omega) f2 rfl, f3⟩⟩
    | exit id =>
      obtain ⟨f1, f2, f3⟩ := fin (some (.exit id)) W3 (keep ob hp.1)
      exact ⟨_, _, f1, .inr ⟨rfl, .exit id, (hIx _ _ _).put _ hp.2 (by omega) f2 rfl, f3⟩⟩
    | goto t =>
      obtain ⟨f1, f2, f3⟩ := fin (some (.goto t)) W3 (keep ob hp.1)
      exact ⟨_, _, f1, .inr ⟨rfl, .goto t, (hIx _ _ _).put _ hp.2 (by omega) f2 rfl, f3⟩⟩
    | panic ch => exact hp.elim
    | outgrown => exact hp.elim
  · -- behind it
    have gone : ∀ (pe : Option Code) (st : LoopState) (W2 : World), st ≠ .busy → Ob (lr st pe) W2 → (Instr.endLoop (D + 1)).run P W2 = .ok pe (W2.putObj (D + 1) (.loop (lr .exhausted pe))) ∧ W2.heap[D + 1]? = some (.loop (lr st pe)) ∧ (W2.putObj (D + 1) (.loop (lr .exhausted pe))).heap[D]? = some (.deferred (some [])) := fun pe st W2 hst h => by
      have h' := h
      rw [hOb] at h'
      have e := run_endLoop (P := P) h'.1 (by rw [hlr]; exact hst)
      refine ⟨?_, h'.1, (World.putObj_heap_other (by omega)).trans h'.2⟩
      rw [hlr] at e ⊢
      exact e
    rintro e W2 ⟨⟨v, rfl⟩, (⟨k, x, d, hF, hi, ho⟩ | ⟨k, x, hR, c, hi, ho⟩)⟩
    · obtain ⟨f1, f2, f3⟩ := gone _ _ W2 (by simp) ho
      exact ⟨none, _, f1, hdone _ k x d _ (Nat.le_refl _) hF ((hI _ _ _).put _ hi (by omega) f2 rfl) f3⟩
    · obtain ⟨f1, f2, f3⟩ := gone _ _ W2 (by simp) ho
      exact ⟨some c, _, f1, hstop _ c k x _ (Nat.le_refl _) hR ((hIx _ _ _).put _ hi (by omega) f2 rfl) f3⟩

/-- a loop that comes to its third round at most -/
theorem wpIn_loop_twice {F : Fence} {c : Code} {Q : Exit → Act → World → Prop} {a : Act} {w : World}
    (h : c.wpIn F m P (Exit.then (fun a w => c.wpIn F m P (Exit.then (fun a w => c.wpIn F m P (Exit.then (fun _ _ => False) Q) a w) Q) a w) Q) a w) : (Code.loop c).wpIn F m P Q a w := by
  refine wpIn_loop_ghost (fun n a w => match n with
    | 2 => c.wpIn F m P (Exit.then (fun a w => c.wpIn F m P (Exit.then (fun a w => c.wpIn F m P (Exit.then (fun _ _ => False) Q) a w) Q) a w) Q) a w
    | 1 => c.wpIn F m P (Exit.then (fun a w => c.wpIn F m P (Exit.then (fun _ _ => False) Q) a w) Q) a w
    | 0 => c.wpIn F m P (Exit.then (fun _ _ => False) Q) a w
    | _ => False) 2 h ?_
  intro n a w hn
  match n, hn with
  | 2, hn => exact wpIn_mono hn fun e a' w' q => by cases e <;> first | exact ⟨1, by omega, q⟩ | exact q
  | 1, hn => exact wpIn_mono hn fun e a' w' q => by cases e <;> first | exact ⟨0, by omega, q⟩ | exact q
  | 0, hn => exact wpIn_mono hn fun e a' w' q => by cases e <;> first | exact q.elim | exact q
end

end Go.Proofs.YtbocpgffddkfdaaGreatDoor
