/-
  Texts of this proof, one behind the other: Jmp1, JmpNum, JmpDec, JmpMem, JmpLoad, JmpStep, JmpAsk, JmpSeek.
-/
import Derived.Test.YtaebljoacffghaaGreatDoorWhoP
import Derived.Test.YtaebljoacffghaaGreatDoorIdxC
import Derived.Test.YtaebljoacffghaaGreatDoorCurA
import Derived.Test.YtaebljoacffghaaGreatDoorWhoA
import Derived.Test.YtaebljoacffghaaGreatDoorBatC
import Derived.Test.YtaebljoacffghaaGreatDoorIdxA
import Derived.Test.YtaebljoacffghaaGreatDoorEntsA
import Derived.Test.YtaebljoacffghaaGreatDoorWords
import Derived.Test.YtaebljoacffghaaGreatDoorScanA
import Derived.IntWalk
import Derived.Deep.DeepCutAuto
import Derived.Deep.QuietTactic
import Derived.BigQuiet
import Derived.Deep.RegionHeld3
import Derived.Deep.RegionWith
import Derived.Deep.CutBlock
import Derived.Handy

/-
  Plain facts (no program): what layer 19's iterator holds, what its steps make of it, and that these are a cursor's steps over what the bytes mean; how many chunks were decoded.
-/
namespace Go.Proofs.YtaebljoacffghaaGreatDoor

theorem len_app2 {α : Type} (p q : List α) : (p ++ q).length = p.length + q.length := List.length_append

/-- what an iterator holds -/
structure JS where
  z : Int
  es : List Ent
  rest : List Nat
  ys : List (Int × Nat)
  p : Nat
  ck : Nat
  bad : Nat
  d : Bool
/-- at the end -/
def JS.stop (_s : JS) (ck e : Nat) : JS := ⟨0, [], [], [], 0, ck, e, true⟩
/-- on to the next chunk -/
noncomputable def JS.load (s : JS) : Bool × JS :=
  match s.es with
  | [] => (false, s.stop s.ck s.bad)
  | e :: r =>
    match chF s.z e (s.rest.take e.ln.toNat) with
    | .error k => (false, s.stop (s.ck + 1) k)
    | .ok ys => (true, ⟨s.z, r, s.rest.drop e.ln.toNat, ys, 0, s.ck + 1, s.bad, s.d⟩)
theorem JS.load_nil {s : JS} (h : s.es = []) : s.load = (false, s.stop s.ck s.bad) := by
  unfold JS.load
  rw [h]
theorem JS.load_bad {s : JS} {e : Ent} {r : List Ent} {k : Nat} (h : s.es = e :: r) (hc : chF s.z e (s.rest.take e.ln.toNat) = .error k) : s.load = (false, s.stop (s.ck + 1) k) := by
  unfold JS.load
  rw [h]
  simp only [hc]
theorem JS.load_ok {s : JS} {e : Ent} {r : List Ent} {ys : List (Int × Nat)} (h : s.es = e :: r) (hc : chF s.z e (s.rest.take e.ln.toNat) = .ok ys) : s.load = (true, ⟨s.z, r, s.rest.drop e.ln.toNat, ys, 0, s.ck + 1, s.bad, s.d⟩) := by
  unfold JS.load
  rw [h]
  simp only [hc]

/-- bytes told from their beginning, or from a place on -/
theorem blkF_from (z : Int) (bs : List Nat) (b : Nat) : ∀ (es : List Ent) (a : Nat) (acc : List (Int × Nat)), blkF z (bs.drop b) es a acc = blkF z bs es (b + a) acc
  | [], _, _ => rfl
  | e :: r, a, acc => by
    rw [blkF, blkF, List.drop_drop]
    cases chF z e ((bs.drop (b + a)).take e.ln.toNat) with
    | error k => rfl
    | ok ys => simp only [blkF_from z bs b r, Nat.add_assoc]
theorem endF_from (z : Int) (bs : List Nat) (b : Nat) : ∀ (es : List Ent) (a m : Nat), endF z (bs.drop b) es a m = endF z bs es (b + a) m
  | [], _, _ => rfl
  | e :: r, a, m => by
    rw [endF, endF, List.drop_drop]
    cases chF z e ((bs.drop (b + a)).take e.ln.toNat) with
    | error k => rfl
    | ok ys => simp only [endF_from z bs b r, Nat.add_assoc]
theorem blkF_pre (z : Int) (bs : List Nat) : ∀ (es : List Ent) (a : Nat) (acc : List (Int × Nat)), ∃ q, (blkF z bs es a acc).1 = acc ++ q
  | [], _, acc => ⟨[], by simp [blkF]⟩
  | e :: r, a, acc => by
    rw [blkF]
    cases chF z e ((bs.drop a).take e.ln.toNat) with
    | error k => exact ⟨[], by simp⟩
    | ok ys =>
      obtain ⟨q, hq⟩ := blkF_pre z bs r (a + e.ln.toNat) (acc ++ ys)
      exact ⟨ys ++ q, by simp only [hq, List.append_assoc]⟩

/-- the samples, the error behind them, behind each good chunk how many there are, and how many chunks the index tells of -/
structure JW where
  xs : List (Int × Nat)
  er : Nat
  ends : List Nat
  cn : Nat
/-- the iterator amid the samples: those of the chunks ahead of its own, and where it stands -/
structure JLive (W : JW) (s : JS) (acc : List (Int × Nat)) (a : Int) : Prop where
  nd : s.d = false
  out : s.ys.length = 0 → s.ck = 0 ∧ acc = [] ∧ a = -1 ∧ s.p = 0
  in_ : 1 ≤ s.ys.length → 1 ≤ s.ck ∧ s.p < s.ys.length ∧ a = ((acc.length + s.p : Nat) : Int)
  xs : W.xs = (blkF s.z s.rest s.es 0 (acc ++ s.ys)).1
  er : W.er = if (blkF s.z s.rest s.es 0 (acc ++ s.ys)).2 = 0 then s.bad else (blkF s.z s.rest s.es 0 (acc ++ s.ys)).2
  ends : ∃ pre, W.ends = pre ++ endF s.z s.rest s.es 0 (acc ++ s.ys).length ∧ pre.length = s.ck ∧ (∀ i, i + 1 < s.ck → pre.getD i 0 ≤ acc.length) ∧ (1 ≤ s.ck → pre.getD (s.ck - 1) 0 = (acc ++ s.ys).length)
  cn : W.cn = s.ck + s.es.length
  may : ∀ e ∈ s.es, MayE e ∧ FitE e
  lens : lensN s.es = s.rest.length
  byte : ∀ u ∈ s.rest, u < 256
  rise : RiseQ s.ys
  bad : s.bad ≤ 9
  few : s.ys.length ≤ 65535
  small : s.rest.length ≤ 10000
/-- at its end -/
def JW.last (W : JW) : JS := ⟨0, [], [], [], 0, min (W.ends.length + 1) W.cn, W.er, true⟩
/-- the iterator: where it stands, and if it is at its end -/
def JAt (W : JW) (s : JS) (a : Int) (d : Bool) : Prop := (d = false ∧ ∃ acc, JLive W s acc a) ∨ (d = true ∧ s = W.last)
theorem JAt.done {W : JW} {s : JS} {a : Int} {d : Bool} (h : JAt W s a d) : s.d = d := by
  rcases h with ⟨rfl, acc, h⟩ | ⟨rfl, rfl⟩
  · exact h.nd
  · rfl

section
variable {W : JW} {s s' : JS} {acc : List (Int × Nat)} {a : Int}
theorem JLive.len (h : JLive W s acc a) : (acc ++ s.ys).length ≤ W.xs.length := by
  obtain ⟨q, hq⟩ := blkF_pre s.z s.rest s.es 0 (acc ++ s.ys)
  rw [h.xs, hq, len_app2 (acc ++ s.ys)]
  omega
theorem JLive.get (h : JLive W s acc a) {i : Nat} (hi : i < s.ys.length) : W.xs.getD (acc.length + i) (0, 0) = s.ys.getD i (0, 0) := by
  obtain ⟨q, hq⟩ := blkF_pre s.z s.rest s.es 0 (acc ++ s.ys)
  rw [h.xs, hq]
  simp only [List.getD_eq_getElem?_getD]
  rw [List.getElem?_append_left (by rw [List.length_append]; omega), List.getElem?_append_right (by omega), Nat.add_sub_cancel_left]
/-- a chunk is met -/
theorem JLive.loadOk (h : JLive W s acc a) (hl : s.load = (true, s')) : JLive W s' (acc ++ s.ys) (((acc ++ s.ys).length : Nat) : Int) ∧ s'.es.length < s.es.length ∧ s'.ck = s.ck + 1 ∧ 1 ≤ s'.ys.length ∧ s'.p = 0 := by
  cases he : s.es with
  | nil =>
    rw [JS.load_nil he] at hl
    cases hl
  | cons e r =>
    cases hc : chF s.z e (s.rest.take e.ln.toNat) with
    | error k =>
      rw [JS.load_bad he hc] at hl
      cases hl
    | ok ys =>
      rw [JS.load_ok he hc] at hl
      injection hl with _ hl
      subst hl
      obtain ⟨_, g1, g2, g3, _⟩ := chF_good hc
      have hx := h.xs
      have hr := h.er
      obtain ⟨pre, e1, e2, e3, e4⟩ := h.ends
      have hln := h.lens
      rw [he] at hx hr e1 hln
      rw [blkF, List.drop_zero, hc] at hx hr
      rw [endF, List.drop_zero, hc] at e1
      simp only [Nat.zero_add] at hx hr e1
      rw [show e.ln.toNat = e.ln.toNat + 0 by omega, ← blkF_from] at hx hr
      rw [show endF s.z s.rest r e.ln.toNat = endF s.z s.rest r (e.ln.toNat + 0) by rw [Nat.add_zero], ← endF_from] at e1
      refine ⟨⟨h.nd, fun h0 => absurd h0 (by simp only; omega), fun _ => ⟨Nat.le_add_left _ _, by simp only; omega, by simp⟩, hx, hr, ⟨pre ++ [(acc ++ s.ys).length + ys.length], ?_, by rw [List.length_append, e2]; rfl, fun i hi => ?_, fun _ => ?_⟩, ?_, fun x hx' => h.may x (by rw [he]; exact List.mem_cons_of_mem _ hx'), ?_, fun u hu => h.byte u (List.mem_of_mem_drop hu), g3, h.bad, g2, by have := h.small; simp only [List.length_drop]; omega⟩, by simp, rfl, g1, rfl⟩
      · rw [e1, List.append_assoc, len_app2 (acc ++ s.ys)]
        rfl
      · simp only at hi
        simp only [List.getD_eq_getElem?_getD]
        rw [List.getElem?_append_left (by omega)]
        rcases Nat.lt_or_ge (i + 1) s.ck with h1 | h1
        · have := e3 i h1
          simp only [List.getD_eq_getElem?_getD] at this
          rw [List.length_append]
          omega
        · have := e4 (by omega)
          simp only [List.getD_eq_getElem?_getD] at this
          rw [show i = s.ck - 1 by omega, this]
          exact Nat.le_refl _
      · simp only [List.getD_eq_getElem?_getD]
        rw [Nat.add_sub_cancel, List.getElem?_append_right (by omega), e2, Nat.sub_self, len_app2 (acc ++ s.ys)]
        rfl
      · rw [h.cn, he]
        simp only [List.length_cons]
        omega
      · simp only [lensN, List.map_cons, List.sum_cons] at hln ⊢
        rw [List.length_drop]
        omega
/-- no chunk, or none that is good -/
theorem JLive.loadNo (h : JLive W s acc a) (hl : s.load = (false, s')) : W.xs.length = (acc ++ s.ys).length ∧ s' = W.last := by
  have hx := h.xs
  have hr := h.er
  obtain ⟨pre, e1, e2, _⟩ := h.ends
  have hcn := h.cn
  cases he : s.es with
  | nil =>
    rw [JS.load_nil he] at hl
    rw [he] at hx hr e1 hcn
    rw [blkF] at hx hr
    rw [endF, List.append_nil] at e1
    simp only [if_true] at hx hr
    injection hl with _ hl
    subst hl
    refine ⟨by rw [hx], ?_⟩
    unfold JW.last JS.stop
    rw [hr, e1, e2, hcn]
    simp only [List.length_nil]
    rw [show min (s.ck + 1) (s.ck + 0) = s.ck by omega]
  | cons e r =>
    rw [he] at hx hr e1 hcn
    cases hc : chF s.z e (s.rest.take e.ln.toNat) with
    | error k =>
      rw [JS.load_bad he hc] at hl
      rw [blkF, List.drop_zero, hc] at hx hr
      rw [endF, List.drop_zero, hc] at e1
      simp only [List.append_nil] at hx hr e1
      rw [if_neg (chF_err hc).1] at hr
      injection hl with _ hl
      subst hl
      refine ⟨by rw [hx], ?_⟩
      unfold JW.last JS.stop
      rw [hr, e1, e2, hcn]
      simp only [List.length_cons]
      rw [show min (s.ck + 1) (s.ck + (r.length + 1)) = s.ck + 1 by omega]
    | ok ys =>
      rw [JS.load_ok he hc] at hl
      cases hl
theorem JW.last_load (W : JW) : W.last.load = (false, W.last) := rfl

/-- a step to the next sample -/
noncomputable def JS.next (s : JS) : Bool × JS := if s.p + 1 < s.ys.length then (true, { s with p := s.p + 1 }) else s.load
theorem JLive.move {k : Nat} (h : JLive W s acc a) (hk : k < s.ys.length) : JLive W { s with p := k } acc ((acc.length + k : Nat) : Int) :=
  ⟨h.nd, fun h0 => absurd h0 (by simp only; omega), fun _ => ⟨(h.in_ (by omega)).1, hk, rfl⟩, h.xs, h.er, h.ends, h.cn, h.may, h.lens, h.byte, h.rise, h.bad, h.few, h.small⟩
theorem JAt.next {d : Bool} {ok : Bool} (h : JAt W s a d) (hn : s.next = (ok, s')) : ∃ a', NextR W.xs.length a d ok a' ∧ JAt W s' a' (!ok) ∧ s.ck ≤ s'.ck := by
  rcases h with ⟨rfl, acc, h⟩ | ⟨rfl, rfl⟩
  · unfold JS.next at hn
    split at hn
    · rename_i hp
      injection hn with e1 e2
      subst e1 e2
      obtain ⟨_, h2, h3⟩ := h.in_ (by omega)
      have hlen := h.len
      rw [List.length_append] at hlen
      exact ⟨a + 1, .inl ⟨rfl, by omega, rfl, rfl⟩, .inl ⟨rfl, acc, by have := h.move hp; rwa [show ((acc.length + (s.p + 1) : Nat) : Int) = a + 1 by omega] at this⟩, Nat.le_refl _⟩
    · rename_i hp
      have htop : (((acc ++ s.ys).length : Nat) : Int) = a + 1 := by
        rw [List.length_append]
        rcases Nat.eq_zero_or_pos s.ys.length with h0 | h0
        · obtain ⟨_, rfl, h2, _⟩ := h.out h0
          simp only [List.length_nil]
          omega
        · obtain ⟨_, h2, h3⟩ := h.in_ h0
          omega
      cases ok with
      | true =>
        obtain ⟨g1, _, g2, g3, _⟩ := h.loadOk hn
        have hlen := g1.len
        rw [List.length_append] at hlen
        rw [htop] at g1
        exact ⟨a + 1, .inl ⟨rfl, by omega, rfl, rfl⟩, .inl ⟨rfl, _, g1⟩, by omega⟩
      | false =>
        obtain ⟨g1, g2⟩ := h.loadNo hn
        refine ⟨a, .inr ⟨.inr (by omega), rfl, rfl⟩, .inr ⟨rfl, g2⟩, ?_⟩
        rw [g2]
        obtain ⟨pre, e1, e2, _⟩ := h.ends
        have := h.cn
        unfold JW.last
        simp only
        rw [e1, List.length_append, e2]
        omega
  · have : W.last.next = (false, W.last) := rfl
    rw [this] at hn
    injection hn with e1 e2
    subst e1 e2
    exact ⟨a, .inr ⟨.inl rfl, rfl, rfl⟩, .inr ⟨rfl, rfl⟩, Nat.le_refl _⟩

/-- the chunk's last sample's time is t at least -/
def JS.Reach (s : JS) (t : Int) : Prop := 1 ≤ s.ys.length ∧ t ≤ (s.ys.getD (s.ys.length - 1) (0, 0)).1
/-- amid a search: nothing that is sought was gone over -/
def JSeek (W : JW) (t a0 : Int) (d : Bool) (s : JS) : Prop :=
  (d = true ∧ s = W.last) ∨ (d = false ∧ ∃ acc a, JLive W s acc a ∧ a0 ≤ a ∧ ∀ i : Nat, a0.toNat ≤ i → (i : Int) < a → (W.xs.getD i (0, 0)).1 < t)
theorem JAt.seek {d : Bool} (h : JAt W s a d) (t : Int) : JSeek W t a d s := by
  rcases h with ⟨rfl, acc, h⟩ | ⟨rfl, rfl⟩
  · exact .inr ⟨rfl, acc, a, h, Int.le_refl _, fun i h1 h2 => absurd h2 (by omega)⟩
  · exact .inl ⟨rfl, rfl⟩
theorem JLive.gone {t a0 : Int} (h : JLive W s acc a) (hi : ∀ i : Nat, a0.toNat ≤ i → (i : Int) < a → (W.xs.getD i (0, 0)).1 < t) (hn : ¬ s.Reach t) : ∀ i : Nat, a0.toNat ≤ i → i < (acc ++ s.ys).length → (W.xs.getD i (0, 0)).1 < t := by
  intro i h1 h2
  rw [List.length_append] at h2
  rcases Nat.eq_zero_or_pos s.ys.length with h0 | h0
  · obtain ⟨_, rfl, _, _⟩ := h.out h0
    simp only [List.length_nil] at h2
    omega
  · obtain ⟨_, g2, g3⟩ := h.in_ h0
    by_cases hlt : (i : Int) < a
    · exact hi i h1 hlt
    · have hk : i - acc.length < s.ys.length := by omega
      have := h.get hk
      rw [show acc.length + (i - acc.length) = i by omega] at this
      rw [this]
      have hle := h.rise.le (i := i - acc.length) (j := s.ys.length - 1) (by omega) (by omega)
      unfold JS.Reach at hn
      omega
theorem JSeek.loadOk {t a0 : Int} {d : Bool} (h : JSeek W t a0 d s) (hn : ¬ s.Reach t) (hl : s.load = (true, s')) : JSeek W t a0 d s' ∧ s'.es.length < s.es.length ∧ s.ck ≤ s'.ck := by
  rcases h with ⟨rfl, rfl⟩ | ⟨rfl, acc, a, h, h1, h2⟩
  · rw [JW.last_load] at hl
    cases hl
  · obtain ⟨g1, g2, g3, _, _⟩ := h.loadOk hl
    have hg := h.gone h2 hn
    refine ⟨.inr ⟨rfl, _, _, g1, ?_, fun i h3 h4 => hg i h3 (by omega)⟩, g2, by omega⟩
    rw [List.length_append]
    rcases Nat.eq_zero_or_pos s.ys.length with h0 | h0
    · obtain ⟨_, _, h5, _⟩ := h.out h0
      omega
    · obtain ⟨_, _, h5⟩ := h.in_ h0
      omega
theorem JSeek.loadNo {t a0 : Int} {d : Bool} (h : JSeek W t a0 d s) (hn : ¬ s.Reach t) (hl : s.load = (false, s')) (ha : a0 < W.xs.length) : SeekR W.xs t a0 d false a0 ∧ JAt W s' a0 true ∧ s.ck ≤ s'.ck := by
  rcases h with ⟨rfl, rfl⟩ | ⟨rfl, acc, a, h, h1, h2⟩
  · rw [JW.last_load] at hl
    injection hl with _ hl
    subst hl
    exact ⟨.inl ⟨rfl, rfl, rfl⟩, .inr ⟨rfl, rfl⟩, Nat.le_refl _⟩
  · obtain ⟨g1, g2⟩ := h.loadNo hl
    have hg := h.gone h2 hn
    refine ⟨.inr ⟨rfl, W.xs.length, ⟨?_, Nat.le_refl _, fun i h3 h4 => hg i h3 (by omega), fun h3 => absurd h3 (Nat.lt_irrefl _)⟩, .inr ⟨rfl, rfl, rfl⟩⟩, .inr ⟨rfl, g2⟩, ?_⟩
    · omega
    · rw [g2]
      obtain ⟨pre, e1, e2, _⟩ := h.ends
      have := h.cn
      unfold JW.last
      simp only
      rw [e1, List.length_append, e2]
      omega
/-- found in the chunk -/
theorem JSeek.found {t a0 : Int} {d : Bool} {k : Nat} (h : JSeek W t a0 d s) (hr : s.Reach t) (hk : Sought (s.ys.drop s.p) t 0 k) : k < s.ys.length - s.p ∧ ∃ a', SeekR W.xs t a0 d true a' ∧ JAt W { s with p := s.p + k } a' false := by
  rcases h with ⟨rfl, rfl⟩ | ⟨rfl, acc, a, h, h1, h2⟩
  · unfold JS.Reach JW.last at hr
    simp only [List.length_nil] at hr
    omega
  · obtain ⟨h0, h3⟩ := hr
    obtain ⟨_, g2, g3⟩ := h.in_ h0
    have hlen := h.len
    rw [List.length_append] at hlen
    have hs := hk.shift (by omega)
    have hhi := hk.hi
    rw [List.length_drop] at hhi
    have hklt : k < s.ys.length - s.p := by
      rcases Nat.lt_or_ge k (s.ys.length - s.p) with e | e
      · exact e
      · have := hs.less (s.ys.length - 1) (by omega) (by omega)
        omega
    have hm := h.move (k := s.p + k) (by omega)
    refine ⟨hklt, _, .inr ⟨rfl, acc.length + (s.p + k), ⟨by omega, by omega, fun i h4 h5 => ?_, fun _ => ?_⟩, .inl ⟨by omega, rfl, rfl⟩⟩, .inl ⟨rfl, acc, hm⟩⟩
    · by_cases hlt : (i : Int) < a
      · exact h2 i h4 hlt
      · have := h.get (i := i - acc.length) (by omega)
        rw [show acc.length + (i - acc.length) = i by omega] at this
        rw [this]
        exact hs.less _ (by omega) (by omega)
    · rw [h.get (by omega)]
      exact hs.here (by omega)

theorem JSeek.place {t a0 : Int} {d : Bool} (h : JSeek W t a0 d s) (hr : s.Reach t) : s.p < s.ys.length := by
  rcases h with ⟨rfl, rfl⟩ | ⟨rfl, acc, a, h, _⟩
  · unfold JS.Reach JW.last at hr
    simp only [List.length_nil] at hr
    omega
  · exact (h.in_ hr.1).2.1

/-- what At tells -/
theorem JAt.look {d : Bool} (h : JAt W s a d) : (s.ys.length = 0 → lookQ W.xs a d = (0, 0)) ∧ (1 ≤ s.ys.length → s.p < s.ys.length ∧ lookQ W.xs a d = s.ys.getD s.p (0, 0)) := by
  rcases h with ⟨rfl, acc, h⟩ | ⟨rfl, rfl⟩
  · refine ⟨fun h0 => ?_, fun h0 => ?_⟩
    · obtain ⟨_, _, h2, _⟩ := h.out h0
      unfold lookQ
      rw [if_pos (.inr (by omega))]
    · obtain ⟨_, g2, g3⟩ := h.in_ h0
      refine ⟨g2, ?_⟩
      unfold lookQ
      rw [if_neg (by simp; omega), g3, Int.toNat_natCast, h.get g2]
  · refine ⟨fun _ => by simp [lookQ], fun h0 => absurd h0 (by simp [JW.last])⟩
/-- how many chunks were decoded -/
theorem JAt.count {d : Bool} (h : JAt W s a d) : (d = true → s.ck = min (W.ends.length + 1) W.cn) ∧ (d = false → (a < 0 → s.ck = 0) ∧ (0 ≤ a → 1 ≤ s.ck ∧ s.ck ≤ W.ends.length ∧ (∀ i, i + 1 < s.ck → (W.ends.getD i 0 : Int) ≤ a) ∧ a < (W.ends.getD (s.ck - 1) 0 : Int))) := by
  rcases h with ⟨rfl, acc, h⟩ | ⟨rfl, rfl⟩
  · refine ⟨fun h => (by cases h), fun _ => ⟨fun h0 => ?_, fun h0 => ?_⟩⟩
    · rcases Nat.eq_zero_or_pos s.ys.length with e | e
      · exact (h.out e).1
      · have := (h.in_ e).2.2
        omega
    · rcases Nat.eq_zero_or_pos s.ys.length with e | e
      · have := (h.out e).2.2.1
        omega
      · obtain ⟨g1, g2, g3⟩ := h.in_ e
        obtain ⟨pre, e1, e2, e3, e4⟩ := h.ends
        have hget : ∀ i, i < s.ck → W.ends.getD i 0 = pre.getD i 0 := by
          intro i hi
          rw [e1]
          simp only [List.getD_eq_getElem?_getD]
          rw [List.getElem?_append_left (by omega)]
        refine ⟨g1, by rw [e1, List.length_append]; omega, fun i hi => ?_, ?_⟩
        · rw [hget i (by omega)]
          have := e3 i hi
          omega
        · rw [hget _ (by omega), e4 g1, List.length_append]
          omega
  · exact ⟨fun _ => rfl, fun h => (by cases h)⟩
/-- what is behind is told by a number up to 9 -/
theorem JAt.small {d : Bool} (h : JAt W s a d) (he : W.er ≤ 9) : s.bad ≤ 9 := by
  rcases h with ⟨rfl, acc, h⟩ | ⟨rfl, rfl⟩
  · exact h.bad
  · exact he
theorem JAt.end_ {d : Bool} (h : JAt W s a d) (hd : d = true) : s.bad = W.er := by
  rcases h with ⟨rfl, acc, h⟩ | ⟨rfl, rfl⟩
  · cases hd
  · rfl
end

/-- what a load wants of what is held -/
structure JMay (s : JS) : Prop where
  may : ∀ e ∈ s.es, MayE e ∧ FitE e
  lens : lensN s.es = s.rest.length
  byte : ∀ u ∈ s.rest, u < 256
  small : s.rest.length ≤ 10000
  ck : s.ck ≤ 100000
  few : s.ys.length ≤ 65535
  at_ : s.p ≤ 65535
  bad : s.bad ≤ 9
  rise : RiseQ s.ys
theorem JLive.may_ {W : JW} {s : JS} {acc : List (Int × Nat)} {a : Int} (h : JLive W s acc a) (hc : W.cn ≤ 100000) : JMay s :=
  ⟨h.may, h.lens, h.byte, h.small, by have := h.cn; omega, h.few, by
    have := h.few
    rcases Nat.eq_zero_or_pos s.ys.length with e | e
    · rw [(h.out e).2.2.2]
      omega
    · have := (h.in_ e).2.1
      omega, h.bad, h.rise⟩
theorem rise_void : RiseQ [] := fun i h => absurd h (by simp)
theorem last_may {W : JW} (hc : W.cn ≤ 100000) (he : W.er ≤ 9) : JMay W.last := ⟨fun e h => absurd h (by simp [JW.last]), rfl, fun e h => absurd h (by simp [JW.last]), by simp [JW.last], by simp only [JW.last]; omega, by simp [JW.last], by simp [JW.last], he, rise_void⟩
theorem JAt.may {W : JW} {s : JS} {a : Int} {d : Bool} (h : JAt W s a d) (hc : W.cn ≤ 100000) (he : W.er ≤ 9) : JMay s := by
  rcases h with ⟨rfl, acc, h⟩ | ⟨rfl, rfl⟩
  · exact h.may_ hc
  · exact last_may hc he
theorem JSeek.may {W : JW} {s : JS} {t a0 : Int} {d : Bool} (h : JSeek W t a0 d s) (hc : W.cn ≤ 100000) (he : W.er ≤ 9) : JMay s := by
  rcases h with ⟨rfl, rfl⟩ | ⟨rfl, acc, a, h, _⟩
  · exact last_may hc he
  · exact h.may_ hc
/-- how many chunks an index that can be read tells of -/
noncomputable def chunksN (bs : List Nat) : Nat :=
  match getI bs with
  | .error _ => 0
  | .ok (_, es, _) => es.length
/-- what bytes mean -/
noncomputable def jwF (bs : List Nat) : JW := ⟨(wholeF bs).1, (wholeF bs).2, wholeN bs, chunksN bs⟩
/-- an iterator, new -/
noncomputable def jnewF (bs : List Nat) : JS :=
  match getI bs with
  | .error j => ⟨0, [], [], [], 0, 0, j, false⟩
  | .ok (k, es, n) => ⟨(k : Int), es, bs.drop n, [], 0, 0, 0, false⟩
theorem jnew_at {bs : List Nat} (hb : ∀ u ∈ bs, u < 256) (hs : bs.length ≤ 10000) : JAt (jwF bs) (jnewF bs) (-1) false := by
  refine .inl ⟨rfl, [], ?_⟩
  cases hg : getI bs with
  | error j =>
    have h1 : jnewF bs = ⟨0, [], [], [], 0, 0, j, false⟩ := by unfold jnewF; rw [hg]
    have h2 : jwF bs = ⟨[], j, [], 0⟩ := by unfold jwF wholeF wholeN chunksN; rw [hg]
    rw [h1, h2]
    have hj := (getI_err hg).2
    exact ⟨rfl, fun _ => ⟨rfl, rfl, rfl, rfl⟩, fun h => absurd h (by simp), by simp [blkF], by simp [blkF], ⟨[], by simp [endF], rfl, fun i h => absurd h (by simp), fun h => absurd h (by simp)⟩, rfl, by simp, rfl, by simp, rise_void, hj, by simp, by simp⟩
  | ok q =>
    obtain ⟨k, es, n⟩ := q
    obtain ⟨hmay, hfit, hmn, hlens⟩ := getI_ok hb hg
    have h1 : jnewF bs = ⟨(k : Int), es, bs.drop n, [], 0, 0, 0, false⟩ := by unfold jnewF; rw [hg]
    have h2 : jwF bs = ⟨(blkF k bs es n []).1, (blkF k bs es n []).2, endF k bs es n 0, es.length⟩ := by unfold jwF wholeF wholeN chunksN; rw [hg]
    rw [h1, h2]
    have hm : ∀ e ∈ es, MayE e := by
      intro e he
      obtain ⟨j, hj, rfl⟩ := List.getElem_of_mem he
      have := may_at hmay hj
      have e2 : es.getD j ent0 = es[j] := by simp [List.getD_eq_getElem?_getD, hj]
      rwa [e2] at this
    refine ⟨rfl, fun _ => ⟨rfl, rfl, rfl, rfl⟩, fun h => absurd h (by simp), ?_, ?_, ⟨[], ?_, rfl, fun i h => absurd h (by simp), fun h => absurd h (by simp)⟩, ?_, fun e he => ⟨hm e he, hfit e he⟩, ?_, fun u hu => hb u (List.mem_of_mem_drop hu), rise_void, by simp, by simp, by simp only [List.length_drop]; omega⟩
    · simp only [List.append_nil]
      rw [blkF_from, Nat.add_zero]
    · simp only [List.append_nil]
      rw [blkF_from, Nat.add_zero]
      split
      · assumption
      · rfl
    · simp only [List.append_nil, List.nil_append, List.length_nil]
      rw [endF_from, Nat.add_zero]
    · simp
    · simp only
      rw [hlens, List.length_drop]

theorem chunks_few {bs : List Nat} (hb : ∀ u ∈ bs, u < 256) (hs : bs.length ≤ 10000) : chunksN bs ≤ 2500 := by
  unfold chunksN
  cases hg : getI bs with
  | error j => simp
  | ok q =>
    obtain ⟨k, es, n⟩ := q
    obtain ⟨hmay, _, _, hlens⟩ := getI_ok hb hg
    have := lens_four hmay es.length (Nat.le_refl _)
    rw [List.take_length] at this
    simp only
    omega

theorem endF_len (z : Int) (bs : List Nat) : ∀ (es : List Ent) (a m : Nat), (endF z bs es a m).length ≤ es.length
  | [], _, _ => by simp [endF]
  | e :: r, a, m => by
    rw [endF]
    cases chF z e ((bs.drop a).take e.ln.toNat) with
    | error k => simp
    | ok ys =>
      have := endF_len z bs r (a + e.ln.toNat) (m + ys.length)
      simp only [List.length_cons]
      omega
theorem ends_few (bs : List Nat) : (wholeN bs).length ≤ chunksN bs := by
  unfold wholeN chunksN
  cases hg : getI bs with
  | error j => simp
  | ok q =>
    obtain ⟨k, es, n⟩ := q
    exact endF_len _ _ _ _ _

end Go.Proofs.YtaebljoacffghaaGreatDoor

/-
  The contract of layer 19's own number: the number of four bytes, the highest first; it changes nothing.
-/
namespace Go.Proofs.YtaebljoacffghaaGreatDoor
open Go.RowKit

set_option maxRecDepth 20000 in
set_option maxHeartbeats 400000 in
theorem jnumber_any (A : Option Addr) (n c B : Nat) (bs : List Nat) (w : World) (h : Rd w B A n c bs) (hb : ∀ x ∈ bs, x < 256) (hn : n = 4) :
    Calls Tryz.prog 88 #[.slice A n c] w fun e w' => e = .returned (.int .u32 ((numB bs : Nat) : Int)) ∧ ∃ m, w' = w.drewN m := by
  subst hn
  have H4 := Lib.hid (four_is h.len)
  obtain ⟨ad, rfl, _, hcell⟩ := h.cell (by omega)
  have c0 : w.cell? ad = some (.int .u8 ((bs.getD 0 0 : Nat) : Int)) := by have := hcell 0 (by omega); rwa [show ad.add 0 = ad by simp [Addr.add]] at this
  have c1 : w.cell? ⟨ad.block, ad.off + 1, none⟩ = some (.int .u8 ((bs.getD 1 0 : Nat) : Int)) := by simpa [Addr.add] using hcell 1 (by omega)
  have c2 : w.cell? ⟨ad.block, ad.off + 2, none⟩ = some (.int .u8 ((bs.getD 2 0 : Nat) : Int)) := by simpa [Addr.add] using hcell 2 (by omega)
  have c3 : w.cell? ⟨ad.block, ad.off + 3, none⟩ = some (.int .u8 ((bs.getD 3 0 : Nat) : Int)) := by simpa [Addr.add] using hcell 3 (by omega)
  have x0 := byte4 hb 0
  have x1 := byte4 hb 1
  have x2 := byte4 hb 2
  have x3 := byte4 hb 3
  clear hcell h hb
  obtain ⟨q, HQ⟩ : ∃ q, Hid (q = bs) := ⟨_, Lib.hid rfl⟩
  rw [show numB bs = numB q by rw [HQ.out]]
  replace H4 : Hid (q = [bs.getD 0 0, bs.getD 1 0, bs.getD 2 0, bs.getD 3 0]) := Lib.hid (HQ.out.trans H4.out)
  clear HQ
  generalize bs.getD 0 0 = b0 at *
  generalize bs.getD 1 0 = b1 at *
  generalize bs.getD 2 0 = b2 at *
  generalize bs.getD 3 0 = b3 at *
  go_enter Tryz.func88, Tryz.ntmps88
  go_wp2
  go_quiet (fail)
  go_wp2
  go_ret
  refine ⟨?_, nq, rfl⟩
  rw [H4.out]
  exact ret_u32 (or_four b0 b1 b2 b3 x0 x1 x2 x3)

end Go.Proofs.YtaebljoacffghaaGreatDoor

/-
  The contract of layer 19's decode: a chunk's samples, or what is amiss.
-/
namespace Go.Proofs.YtaebljoacffghaaGreatDoor
open Go.RowKit

set_option maxRecDepth 20000 in
set_option maxHeartbeats 4000000 in
theorem jdecode_any (z m x k : Int) (A : Option Addr) (n c B : Nat) (bs : List Nat) (w : World) (h : Rd w B A n c bs) (hB : B ≤ w.heap.size) (hb : ∀ u ∈ bs, u < 256) (hn : n ≤ 10000) (h4 : 4 ≤ n) (hk : -9223372036854775808 ≤ k ∧ k ≤ 9223372036854775807) (hT : TabsW w) :
    Calls Tryz.prog 72 #[.int .i64 z, .agg #[.int .i64 m, .int .i64 x, .int .i64 k, .int .i64 (n : Int)], .slice A n c] w (RetCh w (chF z ⟨m, x, k, (n : Int)⟩ bs)) := by
  have HL := Lib.hid h.len
  have HB := Lib.hid hb
  have HBW := Lib.hid hB
  obtain ⟨W, hW⟩ : ∃ W, W = w.alloc (.cells #[.int .i64 m, .int .i64 x, .int .i64 k, .int .i64 (n : Int)] 103) := ⟨_, rfl⟩
  have hbW : Below w.heap.size w W := by rw [hW]; exact (Below.refl _ _).alloc (Nat.le_refl _) _
  have hbx : BoxL W w.heap.size [.int .i64 m, .int .i64 x, .int .i64 k, .int .i64 (n : Int)] := by rw [hW]; exact entry_box w m x k (n : Int) _
  have HH : Hid (∀ w', Below w.heap.size w w' → Rd w' B A n c bs) := Lib.hid (fun w' hb => h.below (hb.mono hB))
  have hcap := h.cap
  have hno := h.no
  replace hW := Lib.hid hW
  obtain ⟨b0, b1, b2, b3⟩ := hbx.get4e
  have HLN : Hid ((bs.length : Int) = (n : Int) ∧ 4 ≤ bs.length) := Lib.hid ⟨by rw [HL.out], by rw [HL.out]; exact h4⟩
  obtain ⟨q, hq⟩ : ∃ q, n = q + 4 := ⟨n - 4, by omega⟩
  obtain ⟨ad, rfl⟩ : ∃ ad, A = some ad := by
    cases A with
    | none => have := hno rfl; omega
    | some ad => exact ⟨ad, rfl⟩
  have HBC : Hid (bodyC bs = bs.take q) := Lib.hid (by unfold bodyC; rw [HL.out, hq, Nat.add_sub_cancel])
  have HTC : Hid (tailC bs = (bs.drop q).take 4) := Lib.hid (by unfold tailC; rw [HL.out, hq, Nat.add_sub_cancel, List.take_of_length_le (by rw [List.length_drop, HL.out]; omega)])
  have hcutA := fun X hX => (HH.out X hX).cutHead (n := q) (by omega)
  have hnum := fun X hX => jnumber_any _ 4 _ B _ X ((HH.out X hX).cutTo (a := q) (n := 4) (by omega)) (fun u hu => HB.out u (List.mem_of_mem_drop (List.mem_of_mem_take hu))) rfl
  have hlb : ∀ u ∈ bs.take q, u < 256 := fun u hu => HB.out u (List.mem_of_mem_take hu)
  have hsum := fun X hX => sum_any (some ad) q c B (bs.take q) X (hcutA X hX) hlb (by omega)
  have hdec := fun X (hX : Below w.heap.size w X) => quickdec_any (some ad) q c (bs.take q) z k X hk ((hcutA X hX).more (Nat.le_trans hB hX.size)) hlb (by omega) (hT.bel hX)
  rw [← HBC.out] at hsum hdec
  rw [← HTC.out] at hnum
  have hq4 : ¬ ((n : Int) < 4) := by omega
  have hq5 : IntKind.i64.wrap ((n : Int) - 4) = (q : Int) := by rw [show (n : Int) - 4 = (q : Int) by omega]; exact IntWalk.i64_in _ (by omega)
  have hq6 : (q : Int) ≤ (c : Int) := by omega
  have hq7 : (q : Int) ≤ (n : Int) := by omega
  have hq8 : (0 : Int) ≤ (q : Int) := by omega
  have hq9 : ¬ c = q := by omega
  have hq10 : n - q = 4 := by omega
  have hq11 : q ≤ n := by omega
  have HQ := Lib.hid hq
  have HT := Lib.hid hT
  clear h hB hb hno hcutA hlb hq h4 hT
  obtain ⟨body, tl, HTB⟩ : ∃ body tl, Hid (tailC bs = tl ∧ bodyC bs = body) := ⟨_, _, Lib.hid ⟨rfl, rfl⟩⟩
  rw [HTB.out.2] at hsum hdec
  rw [HTB.out.1] at hnum
  go_enter Tryz.func72, Tryz.ntmps72
  go_upto_region 1 with fail
  rw [← hW.out]
  go_quiet (fail)
  have hb4 : Below w.heap.size w (W.drewN nq) := below_drewN hbW _
  have bx4 := hbx.drewN nq
  generalize W.drewN nq = w4 at *
  clear b0 b1 b2 b3 hbx hbW hW hq5
  obtain ⟨X, HX⟩ : ∃ X, Hid (X = numB tl) := ⟨_, Lib.hid rfl⟩
  obtain ⟨Y, HY⟩ : ∃ Y, Hid (Y = crcS body) := ⟨_, Lib.hid rfl⟩
  rw [← HX.out] at hnum
  rw [← HY.out] at hsum
  go_wp2_with fail
  refine (hnum _ hb4).mono ?_
  rintro e w5 ⟨rfl, nq2, hw5⟩
  have hb5 : Below w.heap.size w w5 := by rw [hw5]; exact below_drewN hb4 _
  have bx5 : BoxL w5 w.heap.size [.int .i64 m, .int .i64 x, .int .i64 k, .int .i64 (n : Int)] := by rw [hw5]; exact bx4.drewN _
  clear hw5 hnum bx4 hb4
  obtain ⟨b0, b1, b2, b3⟩ := bx5.get4e
  by_cases hXY : X = Y
  · have hxy : ((X : Int) == (Y : Int)) = true := by simp; omega
    have HS : Hid (numB tl = crcS body) := Lib.hid (by rw [← HX.out, ← HY.out]; exact hXY)
    replace hXY := Lib.hid hXY
    go_wp2_with fail
    refine (hsum _ hb5).mono ?_
    rintro e w6 ⟨rfl, hw6⟩
    subst hw6
    clear hsum
    go_wp2_with fail
    refine (hdec _ hb5).mono ?_
    rintro e w6 ⟨xs, er, A7, c7, hd, rfl, ho7⟩
    clear hdec b0 b1 b2 b3
    have hb7 := hb5.trans (ho7.bel.mono hb5.size)
    have bx7 := bx5.below ho7.bel
    by_cases he : er = 0
    · subst he
      rw [show errV 0 = .nilIface from rfl]
      obtain ⟨_, hl1, hl2⟩ := dec_some hd
      obtain ⟨P, hP⟩ : ∃ P, xs.length = P + 1 := ⟨xs.length - 1, by omega⟩
      have HE : Hid (EndsQ ⟨m, x, k, (n : Int)⟩ xs ↔ (xs.getD 0 (0, 0)).1 = m ∧ (xs.getD P (0, 0)).1 = x) := Lib.hid (by
        unfold EndsQ
        rw [hP, Nat.add_sub_cancel])
      have hr7 := ho7.rd
      have HPL := Lib.hid hP
      rw [hP] at hr7 ho7 ⊢
      obtain ⟨ad7, rfl, c0, c1⟩ := hr7.ends rfl
      have HOK : Hid (EndsQ ⟨m, x, k, (n : Int)⟩ xs → chF z ⟨m, x, k, n⟩ bs = .ok xs) := Lib.hid (fun h => chF_ok HLN.out (by rw [HTB.out.1, HTB.out.2]; exact HS.out) (by rw [HTB.out.2]; exact hd) h)
      have HNO : Hid (¬ EndsQ ⟨m, x, k, (n : Int)⟩ xs → chF z ⟨m, x, k, n⟩ bs = .error 8) := Lib.hid (fun h => chF_end HLN.out (by rw [HTB.out.1, HTB.out.2]; exact HS.out) (by rw [HTB.out.2]; exact hd) h)
      obtain ⟨b0, b1, b2, b3⟩ := bx7.get4e
      have hi0 : 0 < P + 1 := by omega
      have hi1 : (0 : Int) < ((P + 1 : Nat) : Int) := by omega
      have hi2 : P < P + 1 := by omega
      have hi3 : (P : Int) < ((P + 1 : Nat) : Int) := by omega
      have hi4 : (0 : Int) ≤ (P : Int) := by omega
      have hsub : IntKind.i64.wrap (((P + 1 : Nat) : Int) - 1) = (P : Int) := by rw [show ((P + 1 : Nat) : Int) - 1 = (P : Int) by omega]; exact IntWalk.i64_in _ (by omega)
      generalize (xs.getD 0 (0, 0)).1 = t0 at *
      generalize (xs.getD P (0, 0)).1 = t1 at *
      replace hd := Lib.hid hd
      obtain ⟨M, hM⟩ : ∃ M, P + 1 = M := ⟨_, rfl⟩
      rw [hM] at hr7 ho7 HPL hi0 hi1 hi2 hi3 hsub ⊢
      clear hM hr7 bx5 bx7 hP hl1 hl2
      have hfin : ∀ j : Nat, Below w.heap.size w (w6.drewN j) ∧ OwnQ w (w6.drewN j) (.slice (some ad7) M c7) xs := fun j => ⟨below_drewN hb7 j, (ho7.weak hb5).keep (below_drewN (Below.refl _ _) j)⟩
      have HF := Lib.hid hfin
      clear hfin hb5 ho7
      by_cases h0 : t0 = m
      · have hx0 : (t0 != m) = false := by simpa using h0
        by_cases h1 : t1 = x
        · have hx1 : (t1 != x) = false := by simpa using h1
          replace HOK := Lib.hid (HOK.out (HE.out.2 ⟨h0, h1⟩))
          clear h0 h1
          go_upto_region 7 with fail
          go_quiet (fail)
          go_wp2_with fail
          go_ret2
          exact RetCh.good HOK.out HPL.out rfl (HF.out _).2
        · have hx1 : (t1 != x) = true := by simpa using h1
          replace HNO := Lib.hid (HNO.out (fun h => h1 (HE.out.1 h).2))
          clear h0 h1
          go_upto_region 7 with fail
          go_quiet (fail)
          go_wp2_with fail
          go_ret2
          exact RetCh.bad HNO.out rfl (HF.out _).1
      · have hx0 : (t0 != m) = true := by simpa using h0
        replace HNO := Lib.hid (HNO.out (fun h => h0 (HE.out.1 h).1))
        clear h0
        go_upto_region 7 with fail
        go_quiet (fail)
        go_wp2_with fail
        go_ret2
        exact RetCh.bad HNO.out rfl (HF.out _).1
    · have HC := Lib.hid (chF_dec (bs := bs) (e := ⟨m, x, k, (n : Int)⟩) HLN.out (by rw [HTB.out.1, HTB.out.2]; exact HS.out) (by rw [HTB.out.2]; exact hd) he)
      have HN := Lib.hid he
      rw [errV_no he]
      clear hd he
      go_wp2_with fail
      go_ret2
      exact RetCh.bad HC.out (by rw [errV_no HN.out]; kernel_rfl) hb7
  · have hxy : ((X : Int) == (Y : Int)) = false := by simp; omega
    have HC : Hid (chF z ⟨m, x, k, n⟩ bs = .error 7) := Lib.hid (chF_sum HLN.out (by rw [HTB.out.1, HTB.out.2, ← HX.out, ← HY.out]; exact hXY))
    replace hXY := Lib.hid hXY
    go_wp2_with fail
    refine (hsum _ hb5).mono ?_
    rintro e w6 ⟨rfl, hw6⟩
    subst hw6
    clear hsum
    go_wp2_with fail
    go_ret2
    exact RetCh.bad HC.out rfl hb5

end Go.Proofs.YtaebljoacffghaaGreatDoor

/-
  Words for memory: layer 19's iterator, its box and what it reads.
-/
namespace Go.Proofs.YtaebljoacffghaaGreatDoor
open Go.RowKit

/-- none of what is read (n of it) lies in a block of P -/
def Off (P : Nat → Prop) (A : Option Addr) (n : Nat) : Prop := 0 < n → ∀ ad, A = some ad → ¬ P ad.block
theorem Off.none_ (P : Nat → Prop) (A : Option Addr) : Off P A 0 := fun h => absurd h (by omega)
theorem Off.map {P : Nat → Prop} {A : Option Addr} {n m : Nat} (h : Off P A n) (hm : m ≤ n) (k : Nat) : Off P (A.map (fun x => x.add k)) m := by
  intro h0 ad e
  cases A with
  | none => cases e
  | some a =>
    simp only [Option.map_some] at e
    injection e with e
    subst e
    rw [add_block]
    exact h (by omega) a rfl
theorem Off.cut {P : Nat → Prop} {A : Option Addr} {n m : Nat} (h : Off P A n) (hm : m ≤ n) (c k j : Nat) : Off P (if c = k then A else A.map (fun x => x.add j)) m := by
  split
  · exact fun h0 => h (by omega)
  · exact h.map hm j
theorem Off.past {P : Nat → Prop} {A : Option Addr} {B : Nat} (h : ∀ ad, A = some ad → B ≤ ad.block) (hP : ∀ k, P k → k < B) (n : Nat) : Off P A n := fun _ ad e hp => by
  have := h ad e
  have := hP _ hp
  omega
theorem Off.ahead {P : Nat → Prop} {A : Option Addr} {B n : Nat} (h : 0 < n → ∃ ad, A = some ad ∧ ad.block < B) (hP : ∀ k, P k → B ≤ k) : Off P A n := fun h0 ad e hp => by
  obtain ⟨ad', e', hb⟩ := h h0
  rw [e] at e'
  injection e' with e'
  subst e'
  have := hP _ hp
  omega
theorem rd_no0 (w : World) (B : Nat) : RdQ w B none 0 0 [] := RdQ.empty rfl (fun _ => rfl)
section
variable {w w' : World} {B n c : Nat} {A : Option Addr} {es : List Ent} {row : Option Nat}
theorem Rd.farP {bs : List Nat} (h : Rd w B A n c bs) (hg : w.grownBy w' row) (hne : 0 < n → ∀ ad, A = some ad → row ≠ some ad.block) : Rd w' B A n c bs := by
  rcases Nat.eq_zero_or_pos n with h0 | h0
  · exact ⟨h.len, h.cap, h.no, fun hn => absurd hn (by omega)⟩
  · exact h.farN hg (hne h0)
theorem RdQ.farP {xs : List (Int × Nat)} (h : RdQ w B A n c xs) (hg : w.grownBy w' row) (hne : 0 < n → ∀ ad, A = some ad → row ≠ some ad.block) : RdQ w' B A n c xs := by
  rcases Nat.eq_zero_or_pos n with h0 | h0
  · exact ⟨h.len, h.cap, h.no, fun hn => absurd hn (by omega), h.fit⟩
  · exact h.farN hg (hne h0)
theorem RdE.farP (h : RdE w B A n c es) (hg : w.grownBy w' row) (hne : 0 < n → ∀ ad, A = some ad → row ≠ some ad.block) : RdE w' B A n c es :=
  ⟨h.len, h.cap, h.no, fun hn => by
    obtain ⟨ad, e, hb, hc⟩ := h.cell hn
    have hx : ∀ j, row ≠ some (ad.add j).block := fun j => by rw [add_block]; exact fun e' => hne hn ad e e'
    exact ⟨ad, e, hb, fun j hj => ⟨hg.cell (hc j hj).c0 (fun e' => hx _ e'.symm), hg.cell (a := ⟨(ad.add (j * 4)).block, (ad.add (j * 4)).off + 1, none⟩) (hc j hj).c1 (fun e' => hx _ e'.symm), hg.cell (a := ⟨(ad.add (j * 4)).block, (ad.add (j * 4)).off + 2, none⟩) (hc j hj).c2 (fun e' => hx _ e'.symm), hg.cell (a := ⟨(ad.add (j * 4)).block, (ad.add (j * 4)).off + 3, none⟩) (hc j hj).c3 (fun e' => hx _ e'.symm)⟩⟩, h.fit⟩
theorem RdE.tail (h : RdE w B A n c es) (hk : 1 ≤ n) : RdE w B (if c = 1 then A else A.map (fun x => x.add 4)) (n - 1) (c - 1) (es.drop 1) := by
  have hc := h.cap
  have hl := h.len
  refine ⟨by rw [List.length_drop]; omega, by omega, fun e => ?_, fun hn => ?_, fun x hx => h.fit x (List.mem_of_mem_drop hx)⟩
  · split at e
    · omega
    · cases A with
      | none => have := h.no rfl; omega
      | some a => cases e
  · obtain ⟨ad, rfl, hb, hcell⟩ := h.cell (by omega)
    rw [if_neg (by omega)]
    refine ⟨_, rfl, by rw [add_block]; exact hb, fun j hj => ?_⟩
    have := hcell (j + 1) (by omega)
    rw [add_add', show 4 + j * 4 = (j + 1) * 4 by omega]
    simpa only [List.getD_eq_getElem?_getD, List.getElem?_drop, Nat.add_comm 1 j] using this
theorem Rd.slice {bs : List Nat} {k : Nat} (h : Rd w B A n c bs) (hk : k ≤ n) : Rd w B (if c = k then A else A.map (fun x => x.add k)) (n - k) (c - k) (bs.drop k) := by
  by_cases hc : c = k
  · rw [if_pos hc]
    subst hc
    have := h.tailEnd hk
    rw [Nat.sub_self]
    exact this
  · rw [if_neg hc]
    exact h.tail hk
end

/-- an iterator's cells -/
def jcells (s : JS) (A1 A2 A3 : Option Addr) (c1 c2 c3 : Nat) : List Value :=
  [.int .i64 s.z, .slice A1 s.es.length c1, .slice A2 s.rest.length c2, .slice A3 s.ys.length c3, .int .i64 (s.p : Int), .int .i64 (s.ck : Int), errV s.bad, .bool s.d]
/-- an iterator in memory -/
structure JMem (P : Nat → Prop) (w : World) (g : Nat) (s : JS) (A1 A2 A3 : Option Addr) (c1 c2 c3 : Nat) : Prop where
  at_ : P g
  box : BoxL w g (jcells s A1 A2 A3 c1 c2 c3)
  e1 : RdE w w.heap.size A1 s.es.length c1 s.es
  b2 : Rd w w.heap.size A2 s.rest.length c2 s.rest
  q3 : RdQ w w.heap.size A3 s.ys.length c3 s.ys
  o1 : Off P A1 s.es.length
  o2 : Off P A2 s.rest.length
  o3 : Off P A3 s.ys.length
def JIn (P : Nat → Prop) (w : World) (g : Nat) (s : JS) : Prop := ∃ A1 A2 A3 c1 c2 c3, JMem P w g s A1 A2 A3 c1 c2 c3
section
variable {P : Nat → Prop} {w w' : World} {g : Nat} {s : JS} {A1 A2 A3 : Option Addr} {c1 c2 c3 : Nat}
theorem JMem.below (h : JMem P w g s A1 A2 A3 c1 c2 c3) (hb : Below w.heap.size w w') : JMem P w' g s A1 A2 A3 c1 c2 c3 :=
  ⟨h.at_, h.box.below hb, (h.e1.below hb).more hb.size, (h.b2.below hb).more hb.size, (h.q3.below hb).more hb.size, h.o1, h.o2, h.o3⟩
theorem JMem.drewN (h : JMem P w g s A1 A2 A3 c1 c2 c3) (n : Nat) : JMem P (w.drewN n) g s A1 A2 A3 c1 c2 c3 := h.below (below_drewN (Below.refl _ _) n)
theorem Off.key {A : Option Addr} {n d : Nat} (ho : Off P A n) (hd : P d) : 0 < n → ∀ ad, A = some ad → some d ≠ some ad.block := fun h0 ad e e' => by
  injection e' with e'
  exact ho h0 ad e (e' ▸ hd)
theorem JMem.far {d : Nat} (h : JMem P w g s A1 A2 A3 c1 c2 c3) (hg : w.grownBy w' (some d)) (hd : P d) (hne : g ≠ d) : JMem P w' g s A1 A2 A3 c1 c2 c3 :=
  ⟨h.at_, h.box.grown hg (fun e => hne (by injection e with e; exact e.symm)), (h.e1.farP hg (h.o1.key hd)).more hg.size, (h.b2.farP hg (h.o2.key hd)).more hg.size, (h.q3.farP hg (h.o3.key hd)).more hg.size, h.o1, h.o2, h.o3⟩
/-- fewer blocks that were there -/
theorem Off.also {Q : Nat → Prop} {A : Option Addr} {B n : Nat} (ho : Off P A n) (h : 0 < n → ∃ ad, A = some ad ∧ ad.block < B) (hQ : ∀ k, Q k → k < B → P k) : Off Q A n := fun h0 ad e hq => by
  obtain ⟨ad', e', hb⟩ := h h0
  rw [e] at e'
  injection e' with e'
  subst e'
  exact ho h0 ad e (hQ _ hq hb)
theorem JMem.also {Q : Nat → Prop} (h : JMem P w g s A1 A2 A3 c1 c2 c3) (hQ : ∀ k, Q k → k < w.heap.size → P k) (hg : Q g) : JMem Q w g s A1 A2 A3 c1 c2 c3 :=
  ⟨hg, h.box, h.e1, h.b2, h.q3, h.o1.also (fun hn => by obtain ⟨ad, e, hb, _⟩ := h.e1.cell hn; exact ⟨ad, e, hb⟩) hQ, h.o2.also (fun hn => by obtain ⟨ad, e, hb, _⟩ := h.b2.cell hn; exact ⟨ad, e, hb⟩) hQ, h.o3.also (fun hn => by obtain ⟨ad, e, hb, _⟩ := h.q3.cell hn; exact ⟨ad, e, hb⟩) hQ⟩
theorem JIn.also {Q : Nat → Prop} (h : JIn P w g s) (hQ : ∀ k, Q k → k < w.heap.size → P k) (hg : Q g) : JIn Q w g s := by
  obtain ⟨A1, A2, A3, c1, c2, c3, h⟩ := h
  exact ⟨A1, A2, A3, c1, c2, c3, h.also hQ hg⟩
/-- its box written anew, what it reads kept -/
theorem JMem.upd {s' : JS} (h : JMem P w g s A1 A2 A3 c1 c2 c3) (hg : w.grownBy w' (some g)) (hx : BoxL w' g (jcells s' A1 A2 A3 c1 c2 c3)) (h1 : s'.es = s.es) (h2 : s'.rest = s.rest) (h3 : s'.ys = s.ys) : JMem P w' g s' A1 A2 A3 c1 c2 c3 :=
  ⟨h.at_, hx, by rw [h1]; exact (h.e1.farP hg (h.o1.key h.at_)).more hg.size, by rw [h2]; exact (h.b2.farP hg (h.o2.key h.at_)).more hg.size, by rw [h3]; exact (h.q3.farP hg (h.o3.key h.at_)).more hg.size, by rw [h1]; exact h.o1, by rw [h2]; exact h.o2, by rw [h3]; exact h.o3⟩
/-- on to the next chunk -/
theorem JMem.loaded {z : Int} {e : Ent} {r : List Ent} {rest : List Nat} {ys l : List (Int × Nat)} {p ck bad ll c8 : Nat} {d : Bool} {B1 B2 A8 : Option Addr} (h : JMem P w g ⟨z, e :: r, rest, ys, p, ck, bad, d⟩ A1 A2 A3 c1 c2 c3) (hg : w.grownBy w' (some g))
    (hB1 : (if c1 = 1 then A1 else A1.map (fun x => x.add 4)) = B1) (hB2 : (if c2 = ll then A2 else A2.map (fun x => x.add ll)) = B2) (hl : ll ≤ rest.length) (hq : RdQ w' w'.heap.size A8 l.length c8 l) (ho : Off P A8 l.length)
    (hx : BoxL w' g (jcells ⟨z, r, rest.drop ll, l, 0, ck + 1, bad, d⟩ B1 B2 A8 (c1 - 1) (c2 - ll) c8)) : JIn P w' g ⟨z, r, rest.drop ll, l, 0, ck + 1, bad, d⟩ := by
  have h1 := ((h.e1.farP hg (h.o1.key h.at_)).more hg.size).tail (by simp)
  have h2 := ((h.b2.farP hg (h.o2.key h.at_)).more hg.size).slice hl
  have k1 := h.o1.cut (m := r.length) (by simp) c1 1 4
  have k2 := h.o2.cut (m := rest.length - ll) (Nat.sub_le _ _) c2 ll ll
  simp only at h2 k2
  rw [hB1] at h1 k1
  rw [hB2] at h2 k2
  refine ⟨B1, B2, A8, c1 - 1, c2 - ll, c8, h.at_, hx, ?_, ?_, hq, k1, ?_, ho⟩
  · simpa using h1
  · rw [List.length_drop]; exact h2
  · rw [List.length_drop]; exact k2
theorem JIn.below (h : JIn P w g s) (hb : Below w.heap.size w w') : JIn P w' g s := by
  obtain ⟨A1, A2, A3, c1, c2, c3, h⟩ := h
  exact ⟨A1, A2, A3, c1, c2, c3, h.below hb⟩
theorem JIn.far {d : Nat} (h : JIn P w g s) (hg : w.grownBy w' (some d)) (hd : P d) (hne : g ≠ d) : JIn P w' g s := by
  obtain ⟨A1, A2, A3, c1, c2, c3, h⟩ := h
  exact ⟨A1, A2, A3, c1, c2, c3, h.far hg hd hne⟩
end

end Go.Proofs.YtaebljoacffghaaGreatDoor

/-
  The contracts of layer 19's end, load and reaches.
-/
namespace Go.Proofs.YtaebljoacffghaaGreatDoor
open Go.RowKit

set_option maxRecDepth 20000 in
set_option maxHeartbeats 2000000 in
theorem jend_any (P : Nat → Prop) (g : Nat) (s : JS) (A1 A2 A3 : Option Addr) (c1 c2 c3 k : Nat) (w : World) (h : JMem P w g s A1 A2 A3 c1 c2 c3) :
    Calls Tryz.prog 71 #[.pointer (some ⟨g, 0, none⟩), errV k] w fun e w' => e = .returned (.bool false) ∧ JIn P w' g (s.stop s.ck k) ∧ w.grownBy w' (some g) := by
  have hbx := h.box
  have hat := h.at_
  unfold jcells at hbx
  have he := isErr_v k
  have HS : Hid (∀ w', BoxL w' g [.int .i64 0, .slice none 0 0, .slice none 0 0, .slice none 0 0, .int .i64 0, .int .i64 (s.ck : Int), errV k, .bool true] → JIn P w' g (s.stop s.ck k)) :=
    Lib.hid (fun w' hx => ⟨none, none, none, 0, 0, 0, hat, hx, RdE.nil_, Rd.nil_, rd_no0 _ _, Off.none_ _ _, Off.none_ _ _, Off.none_ _ _⟩)
  have hg8 := gr_set8 w g
  obtain ⟨u0, u1, u2, u3, u4, u5, u6, u7⟩ := hbx.get8
  obtain ⟨f0, f1, f2, f3, f4, f5, f6, f7⟩ := hbx.free8
  generalize errV k = ev at *
  generalize errV s.bad = eb at *
  generalize (s.ck : Int) = ck at *
  clear h
  rcases he with rfl | ⟨j, rfl⟩
  all_goals
    go_enter Tryz.func71, Tryz.ntmps71
    go_wp2
    go_ret
    exact ⟨rfl, HS.out _ (hbx.all8 _ _ _ _ _ _ _ _), hg8 _ _ _ _ _ _ _ _⟩

/-- what load comes to -/
def RetLd (P : Nat → Prop) (w : World) (g : Nat) (s : JS) (e : Ending) (w' : World) : Prop :=
  ∃ ok s', s.load = (ok, s') ∧ e = .returned (.bool ok) ∧ JIn P w' g s' ∧ w.grownBy w' (some g)

set_option maxRecDepth 20000 in
set_option maxHeartbeats 2000000 in
theorem jload_none (P : Nat → Prop) (g : Nat) (s : JS) (A1 A2 A3 : Option Addr) (c1 c2 c3 : Nat) (w : World) (h : JMem P w g s A1 A2 A3 c1 c2 c3) (he : s.es = []) :
    Calls Tryz.prog 50 #[.pointer (some ⟨g, 0, none⟩)] w (RetLd P w g s) := by
  have HLD := Lib.hid (JS.load_nil he)
  have hE := jend_any P g s A1 A2 A3 c1 c2 c3 s.bad w h
  have hbx := h.box
  unfold jcells at hbx
  rw [he] at hbx
  simp only [List.length_nil] at hbx
  obtain ⟨u0, u1, u2, u3, u4, u5, u6, u7⟩ := hbx.get8
  obtain ⟨eb, heb⟩ : ∃ eb, errV s.bad = eb := ⟨_, rfl⟩
  rw [heb] at hE u6
  clear h he hbx heb
  go_enter Tryz.func50, Tryz.ntmps50
  go_wp2_with fail
  refine hE.mono ?_
  rintro e w1 ⟨rfl, hj, hg⟩
  go_wp2
  go_ret
  exact ⟨false, _, HLD.out, rfl, hj, hg⟩

set_option maxRecDepth 20000 in
set_option maxHeartbeats 4000000 in
theorem jload_some (P : Nat → Prop) (g : Nat) (z : Int) (e : Ent) (r : List Ent) (rest : List Nat) (ys : List (Int × Nat)) (p ck bad : Nat) (d : Bool) (A1 A2 A3 : Option Addr) (c1 c2 c3 : Nat) (w : World) (h : JMem P w g ⟨z, e :: r, rest, ys, p, ck, bad, d⟩ A1 A2 A3 c1 c2 c3) (hP : ∀ k, P k → k < w.heap.size) (hT : TabsW w)
    (hme : MayE e) (hfe : FitE e) (hl : e.ln.toNat ≤ rest.length) (hb : ∀ u ∈ rest, u < 256) (hr : rest.length ≤ 10000) (hck : ck ≤ 100000) :
    Calls Tryz.prog 50 #[.pointer (some ⟨g, 0, none⟩)] w (RetLd P w g ⟨z, e :: r, rest, ys, p, ck, bad, d⟩) := by
  have HBAD := Lib.hid (fun (k : Nat) hc => JS.load_bad (s := ⟨z, e :: r, rest, ys, p, ck, bad, d⟩) (e := e) (r := r) (k := k) rfl hc)
  have HOK := Lib.hid (fun (l : List (Int × Nat)) hc => JS.load_ok (s := ⟨z, e :: r, rest, ys, p, ck, bad, d⟩) (e := e) (r := r) (ys := l) rfl hc)
  obtain ⟨ad, rfl, hadb, hce⟩ := h.e1.at_ (k := 0) (by simp)
  have hadg : ad.block ≠ g := fun e' => h.o1 (by simp) ad rfl (e' ▸ h.at_)
  have HM := Lib.hid h
  have hJ := fun (w' : World) (ck' : Nat) hg hx => h.upd (w' := w') (s' := ⟨z, e :: r, rest, ys, p, ck', bad, d⟩) hg hx rfl rfl rfl
  unfold jcells at hJ
  have hcap1 := h.e1.cap
  have hbx := h.box
  have hrd := h.b2
  have hlr := hrd.cap
  unfold jcells at hbx
  simp only at hJ hcap1
  simp only [List.getD_cons_zero] at hce hbx hrd hlr HBAD HOK
  clear h
  obtain ⟨em, ex, ec, el⟩ := e
  obtain ⟨ll, rfl⟩ : ∃ ll : Nat, el = (ll : Int) := ⟨el.toNat, by have := hme.2.1; simp only at this; omega⟩
  simp only [Int.toNat_natCast] at hl HBAD HOK
  have hll : 4 ≤ ll := by have := hme.2.1; simp only at this; omega
  have hec : -9223372036854775808 ≤ ec ∧ ec ≤ 9223372036854775807 := hfe.2.2.1
  obtain ⟨q0, q1, q2, q3⟩ := hce
  rw [show ad.add (0 * 4) = ad by simp [Addr.add]] at q0 q1 q2 q3
  simp only at q0 q1 q2 q3
  have HES : Hid ((⟨em, ex, ec, (ll : Int)⟩ : Ent) :: r = ⟨em, ex, ec, (ll : Int)⟩ :: r) := Lib.hid rfl
  obtain ⟨N1, hN1⟩ : ∃ N, ((⟨em, ex, ec, (ll : Int)⟩ : Ent) :: r).length = N := ⟨_, rfl⟩
  obtain ⟨N2, hN2⟩ : ∃ N, rest.length = N := ⟨_, rfl⟩
  obtain ⟨N3, hN3⟩ : ∃ N, ys.length = N := ⟨_, rfl⟩
  have hN0 : 0 < N1 := by rw [← hN1]; simp
  rw [hN1, hN2, hN3] at hbx hJ
  rw [hN1] at hcap1
  have HJ := Lib.hid hJ
  clear hJ
  rw [hN2] at hl hr hrd hlr
  have HN := Lib.hid (And.intro hN1 (And.intro hN2 hN3))
  clear hN1 hN2 hN3 hme hfe HES
  obtain ⟨u0, u1, u2, u3, u4, u5, u6, u7⟩ := hbx.get8
  have hn0 : ((N1 : Int) == 0) = false := by simp; omega
  have hn1 : (0 : Int) < (N1 : Int) := by omega
  go_enter Tryz.func50, Tryz.ntmps50
  go_upto_region 4 with fail
  obtain ⟨V, hV⟩ : ∃ V, V = w.alloc (.cells #[.int .i64 em, .int .i64 ex, .int .i64 ec, .int .i64 (ll : Int)] 103) := ⟨_, rfl⟩
  have hbV : Below w.heap.size w V := by rw [hV]; exact (Below.refl _ _).alloc (Nat.le_refl _) _
  have bxV : BoxL V w.heap.size [.int .i64 em, .int .i64 ex, .int .i64 ec, .int .i64 (ll : Int)] := by rw [hV]; exact entry_box w em ex ec ll _
  rw [← hV]
  have bgV := hbx.below hbV
  have hgw := hbx.lt
  have hdec := jdecode_any z em ex ec A2 ll c2 w.heap.size (rest.take ll) V.drew (((hrd.below hbV).drew).cutHead hl) hbV.size (fun u hu => hb u (List.mem_of_mem_take hu)) (by omega) hll hec (hT.bel hbV.drew)
  have HV := Lib.hid hV
  obtain ⟨ge, hge⟩ : ∃ ge, w.heap.size = ge := ⟨_, rfl⟩
  rw [hge] at bxV hgw
  rw [show w.heap.size = ge from hge]
  have HGE := Lib.hid hge
  have HSS : Hid (∀ X, Below V.heap.size V X → (X.cell? ⟨g, 0, none⟩ = some (.int .i64 z) ∧ X.cell? ⟨g, 2, none⟩ = some (.slice A2 N2 c2)) ∧ (X.cell? ⟨ge, 0, none⟩ = some (.int .i64 em) ∧ X.cell? ⟨ge, 1, none⟩ = some (.int .i64 ex) ∧ X.cell? ⟨ge, 2, none⟩ = some (.int .i64 ec) ∧ X.cell? ⟨ge, 3, none⟩ = some (.int .i64 (ll : Int)))) :=
    Lib.hid (fun X hX => ⟨⟨(bgV.below hX).cell 0 _ rfl, (bgV.below hX).cell 2 _ rfl⟩, (bxV.below hX).get4e⟩)
  have HXV := Lib.hid bxV
  have hsd := HSS.out V.drew (Below.refl _ _).drew
  have hgne : g ≠ ge := by omega
  have hlc : (ll : Int) ≤ (c2 : Int) := by omega
  clear hV hge q0 q1 q2 q3 u0 u1 u2 u3 u4 u5 u6 u7 hrd bxV hbx hT hb hadb hadg
  cases hc : chF z ⟨em, ex, ec, (ll : Int)⟩ (rest.take ll) with
  | error i =>
    have HI := Lib.hid (chF_err hc).1
    have HRET := Lib.hid (HBAD.out i hc)
    rw [hc] at hdec
    replace hdec : Calls Tryz.prog 72 #[.int .i64 z, .agg #[.int .i64 em, .int .i64 ex, .int .i64 ec, .int .i64 (ll : Int)], .slice A2 ll c2] V.drew fun e w' => e = .returned (.tuple #[.slice none 0 0, .iface 59 (.int .i64 (i : Int))]) ∧ Below V.heap.size V w' := hdec.mono (by
      rintro e w' ⟨rfl, hb⟩
      exact ⟨by rw [errV_no HI.out], undrew hb⟩)
    clear hc
    go_region_held3 (fun X => (X.cell? ⟨g, 0, none⟩ = some (.int .i64 z) ∧ X.cell? ⟨g, 2, none⟩ = some (.slice A2 N2 c2)) ∧ (X.cell? ⟨ge, 0, none⟩ = some (.int .i64 em) ∧ X.cell? ⟨ge, 1, none⟩ = some (.int .i64 ex) ∧ X.cell? ⟨ge, 2, none⟩ = some (.int .i64 ec) ∧ X.cell? ⟨ge, 3, none⟩ = some (.int .i64 (ll : Int)))) (first | exact hsd | exact hsx) (first
      | (go_at_call 72; refine hdec.mono ?_; rintro e w5 ⟨rfl, hb5⟩; have hsx := HSS.out _ hb5))
    all_goals
      have hb6 := hbV.trans (hb5.mono hbV.size)
      have bx5 := bgV.below hb5
      have u5 := bx5.cell 5 _ rfl
      have f5 := bx5.free 5 _ rfl
      have bx6 := bx5.put 5 (.int .i64 ((ck : Int) + 1))
      have hg6 := (grown_below hb6 (some g)).trans (only_set w5 g 5 (.int .i64 ((ck : Int) + 1)))
      have hE := jend_any P g _ _ _ _ _ _ _ i _ (HJ.out _ (ck + 1) hg6 bx6)
      rw [errV_no HI.out] at hE
      clear hsx hsd hdec bx6
      go_wp2_with fail
      refine hE.mono ?_
      rintro e w7 ⟨rfl, hj7, hg7⟩
      go_wp2
      go_ret
      exact ⟨false, _, HRET.out, rfl, hj7, hg6.trans hg7⟩
  | ok l =>
    have HNX := Lib.hid (HOK.out l hc)
    have hyl := (chF_good hc).2.2.1
    rw [hc] at hdec
    obtain ⟨M, HMM⟩ : ∃ M, Hid (l.length = M) := ⟨_, Lib.hid rfl⟩
    replace hdec : Calls Tryz.prog 72 #[.int .i64 z, .agg #[.int .i64 em, .int .i64 ex, .int .i64 ec, .int .i64 (ll : Int)], .slice A2 ll c2] V.drew fun e w' => ∃ A8 c8, e = .returned (.tuple #[.slice A8 M c8, .nilIface]) ∧ RdQ w' w'.heap.size A8 M c8 l ∧ (∀ ad, A8 = some ad → V.heap.size ≤ ad.block) ∧ Below V.heap.size V w' := hdec.mono (by
      rintro e w' ⟨A8, c8, rfl, ho⟩
      rw [HMM.out] at ho ⊢
      exact ⟨A8, c8, rfl, ho.rd, ho.past, undrew ho.bel⟩)
    rw [HMM.out] at hyl
    clear hc
    go_region_held3 (fun X => (X.cell? ⟨g, 0, none⟩ = some (.int .i64 z) ∧ X.cell? ⟨g, 2, none⟩ = some (.slice A2 N2 c2)) ∧ (X.cell? ⟨ge, 0, none⟩ = some (.int .i64 em) ∧ X.cell? ⟨ge, 1, none⟩ = some (.int .i64 ex) ∧ X.cell? ⟨ge, 2, none⟩ = some (.int .i64 ec) ∧ X.cell? ⟨ge, 3, none⟩ = some (.int .i64 (ll : Int)))) (first | exact hsd | exact hsx) (first
      | (go_at_call 72; refine hdec.mono ?_; rintro e w5 ⟨A8, c8, rfl, hq8, hpast, hb5⟩; have hsx := HSS.out _ hb5))
    all_goals
      have hb6 := hbV.trans (hb5.mono hbV.size)
      have bx5 := bgV.below hb5
      have bxe := HXV.out.below hb5
      have u5 := bx5.cell 5 _ rfl
      have f5 := bx5.free 5 _ rfl
      have bx6 := bx5.put 5 (.int .i64 ((ck : Int) + 1))
      simp only [List.set_cons_zero, List.set_cons_succ] at bx6
      have bxe6 := bxe.oth (d := g) (by omega) 5 (.int .i64 ((ck : Int) + 1))
      have hg6 := (grown_below hb6 (some g)).trans (only_set w5 g 5 (.int .i64 ((ck : Int) + 1)))
      have hbl : ∀ ad, A8 = some ad → g < ad.block := fun ad e => by have := hpast ad e; have := bgV.lt; omega
      have hq6 := (hq8.farP (only_set w5 g 5 (.int .i64 ((ck : Int) + 1))) (fun _ ad e e' => by have := hbl ad e; injection e' with e'; omega)).more (only_set w5 g 5 (.int .i64 ((ck : Int) + 1))).size
      have HQ6 := Lib.hid hq6
      have HPAST := Lib.hid hpast
      clear hsx hsd hdec hq8 hq6 hpast
      go_upto_region 8 with fail
      generalize w5.setCell ⟨g, 5, none⟩ (.int .i64 ((ck : Int) + 1)) = w6 at *
      clear bx5 bxe u5 f5 hb6 hb5
      obtain ⟨v0, v1, v2, v3, v4, v5, v6, v7⟩ := bx6.get8
      obtain ⟨f0, f1, f2, f3, f4, f5, f6, f7⟩ := bx6.free8
      obtain ⟨k0, k1, k2, k3⟩ := bxe6.get4e
      have hc1 : (1 : Int) ≤ (c1 : Int) := by omega
      have hc2 : (1 : Int) ≤ (N1 : Int) := by omega
      have hl2 : (ll : Int) ≤ (N2 : Int) := by omega
      obtain ⟨B1, hB1⟩ : ∃ B1, (if c1 = 1 then some ad else some ⟨ad.block, ad.off + 4, none⟩) = B1 := ⟨_, rfl⟩
      obtain ⟨B2, hB2⟩ : ∃ B2, (if c2 = ll then A2 else A2.map (fun x => x.add ll)) = B2 := ⟨_, rfl⟩
      go_cut [4] (fun x4 wx => x4 = .slice A8 M c8 ∧ wx = ((w6.setCell ⟨g, 1, none⟩ (.slice B1 (N1 - 1) (c1 - 1))).setCell ⟨g, 2, none⟩ (.slice B2 (N2 - ll) (c2 - ll))).drew)
      case first =>
        go_region_with (fail)
        all_goals
          go_wp2_with fail
          go_meet
          exact ⟨rfl, rfl⟩
      case rest =>
        obtain ⟨rfl, hwc⟩ := hcut
        clear v0 v1 v2 v3 v4 v5 v6 v7 f0 f1 f2 f3 f4 f5 f6 f7 k0 k1 k2 k3
        have hg7 : w6.grownBy wc (some g) := by rw [hwc]; exact gr_drew ((only_set _ _ _ _).trans (only_set _ _ _ _))
        have bx7 := ((bx6.put 1 (.slice B1 (N1 - 1) (c1 - 1))).put 2 (.slice B2 (N2 - ll) (c2 - ll))).drew
        rw [← hwc] at bx7
        simp only [List.set_cons_zero, List.set_cons_succ] at bx7
        have hq7 := (HQ6.out.farP hg7 (fun _ ad e e' => by have := hbl ad e; injection e' with e'; omega)).more hg7.size
        have hg8 := hg6.trans hg7
        clear hwc hg7 hg6 bx6 bxe6 HQ6
        obtain ⟨v0, v1, v2, v3, v4, v5, v6, v7⟩ := bx7.get8
        obtain ⟨f0, f1, f2, f3, f4, f5, f6, f7⟩ := bx7.free8
        have bx9 := (bx7.put 3 (.slice A8 M c8)).put 4 (.int .i64 0)
        simp only [List.set_cons_zero, List.set_cons_succ] at bx9
        have hw9 := (only_set wc g 3 (.slice A8 M c8)).trans (only_set _ g 4 (.int .i64 0))
        have hg9 := hg8.trans hw9
        have hq9 := (hq7.farP hw9 (fun _ ad e e' => by have := hbl ad e; injection e' with e'; omega)).more hw9.size
        have HF := Lib.hid (And.intro bx9 (And.intro hq9 hg9))
        have HB12 := Lib.hid (And.intro hB1 hB2)
        clear bx9 hw9 hg8 hq7 bx7 hB1 hB2 hq9 hg9
        go_wp2_with fail
        go_ret
        refine ⟨true, _, HNX.out, rfl, ?_, HF.out.2.2⟩
        obtain ⟨n1, n2, n3⟩ := HN.out
        have m1 := HMM.out
        subst n1 n2 n3 m1
        refine HM.out.loaded HF.out.2.2 (B1 := B1) (B2 := B2) ?_ HB12.out.2 hl HF.out.2.1 (Off.past HPAST.out (fun k hk => Nat.lt_of_lt_of_le (hP k hk) hbV.size) _) ?_
        · rw [← HB12.out.1]
          rfl
        · have := HF.out.1
          unfold jcells
          simpa using this

theorem jload_any (P : Nat → Prop) (g : Nat) (s : JS) (A1 A2 A3 : Option Addr) (c1 c2 c3 : Nat) (w : World) (h : JMem P w g s A1 A2 A3 c1 c2 c3) (hP : ∀ k, P k → k < w.heap.size) (hT : TabsW w) (hm : JMay s) :
    Calls Tryz.prog 50 #[.pointer (some ⟨g, 0, none⟩)] w (RetLd P w g s) := by
  obtain ⟨z, es, rest, ys, p, ck, bad, d⟩ := s
  cases es with
  | nil => exact jload_none P g _ A1 A2 A3 c1 c2 c3 w h rfl
  | cons e r =>
    have h1 := hm.may e (List.mem_cons_self ..)
    have h2 := hm.lens
    simp only [lensN, List.map_cons, List.sum_cons] at h2
    exact jload_some P g z e r rest ys p ck bad d A1 A2 A3 c1 c2 c3 w h hP hT h1.1 h1.2 (by omega) hm.byte hm.small hm.ck

end Go.Proofs.YtaebljoacffghaaGreatDoor

/-
  The contracts of layer 19's Next, At, Err, Checked and New.
-/
namespace Go.Proofs.YtaebljoacffghaaGreatDoor
open Go.RowKit

/-- an iterator behind a step -/
def RetJ (P : Nat → Prop) (W : JW) (w : World) (g ck : Nat) (R : Bool → Int → Prop) (e : Ending) (w' : World) : Prop :=
  ∃ ok a' s', e = .returned (.bool ok) ∧ R ok a' ∧ JAt W s' a' (!ok) ∧ JIn P w' g s' ∧ w.grownBy w' (some g) ∧ ck ≤ s'.ck
/-- what is fixed for an iterator -/
structure JFix (W : JW) : Prop where
  cn : W.cn ≤ 100000
  er : W.er ≤ 9

set_option maxRecDepth 20000 in
set_option maxHeartbeats 2000000 in
theorem jnext_any (P : Nat → Prop) (W : JW) (g : Nat) (s : JS) (a : Int) (d : Bool) (w : World) (h : JIn P w g s) (hP : ∀ k, P k → k < w.heap.size) (hT : TabsW w) (hat : JAt W s a d) (hf : JFix W) :
    Calls Tryz.prog 36 #[.pointer (some ⟨g, 0, none⟩)] w (RetJ P W w g s.ck (NextR W.xs.length a d)) := by
  obtain ⟨A1, A2, A3, c1, c2, c3, h⟩ := h
  have hm := hat.may hf.cn hf.er
  have hL := fun k => jload_any P g s A1 A2 A3 c1 c2 c3 (w.drewN k) (h.drewN k) hP (hT.bel (below_drewN (Below.refl _ _) k)) hm
  have hdr := fun k => grown_below (below_drewN (Below.refl w.heap.size w) k) (some g)
  have hbx := h.box
  unfold jcells at hbx
  have hp := hm.at_
  have hfew := hm.few
  have hw : IntKind.i64.wrap ((s.p : Int) + 1) = (s.p : Int) + 1 := IntWalk.i64_in _ (by omega)
  obtain ⟨u0, u1, u2, u3, u4, u5, u6, u7⟩ := hbx.get8
  obtain ⟨f0, f1, f2, f3, f4, f5, f6, f7⟩ := hbx.free8
  by_cases hlt : s.p + 1 < s.ys.length
  · have hn : s.next = (true, { s with p := s.p + 1 }) := if_pos hlt
    have hli : (s.p : Int) + 1 < (s.ys.length : Int) := by omega
    have HJ : Hid (∀ k, JIn P ((w.drewN k).setCell ⟨g, 4, none⟩ (.int .i64 ((s.p : Int) + 1))) g { s with p := s.p + 1 } ∧ w.grownBy ((w.drewN k).setCell ⟨g, 4, none⟩ (.int .i64 ((s.p : Int) + 1))) (some g)) := Lib.hid (fun k => by
      have hbn := (hbx.drewN k).put 4 (.int .i64 ((s.p : Int) + 1))
      exact ⟨⟨A1, A2, A3, c1, c2, c3, (h.drewN k).upd (only_set _ g 4 _) (by unfold jcells; simpa using hbn) rfl rfl rfl⟩, (hdr k).trans (only_set _ _ _ _)⟩)
    have HN := Lib.hid (hat.next hn)
    generalize errV s.bad = eb at *
    generalize s.ys.length = N3 at *
    generalize (s.p : Int) = p at *
    clear hL h hat hm hn hbx
    go_enter Tryz.func36, Tryz.ntmps36
    go_upto_region 1 with fail
    go_quiet (fail)
    go_wp2
    go_ret
    obtain ⟨a', r1, r2, r3⟩ := HN.out
    exact ⟨true, a', _, rfl, r1, r2, (HJ.out _).1, (HJ.out _).2, r3⟩
  · have hn : s.next = s.load := if_neg hlt
    have hli : ¬ ((s.p : Int) + 1 < (s.ys.length : Int)) := by omega
    have HN := Lib.hid (fun (ok : Bool) (s' : JS) (hl : s.load = (ok, s')) => hat.next (hn.trans hl))
    generalize errV s.bad = eb at *
    generalize s.ys.length = N3 at *
    generalize (s.p : Int) = p at *
    clear h hat hm hn hbx
    go_enter Tryz.func36, Tryz.ntmps36
    go_upto_region 1 with fail
    go_quiet (fail)
    have hL2 := hL nq
    have hdr2 := hdr nq
    clear hL hdr
    generalize w.drewN nq = w2 at *
    clear u0 u1 u2 u3 u4 u5 u6 u7 f0 f1 f2 f3 f4 f5 f6 f7
    go_wp2_with fail
    refine hL2.mono ?_
    rintro e w3 ⟨ok, s', hl, rfl, hj, hg⟩
    go_wp2
    go_ret
    obtain ⟨a', r1, r2, r3⟩ := HN.out ok s' hl
    exact ⟨ok, a', s', rfl, r1, r2, hj, hdr2.trans hg, r3⟩

set_option maxRecDepth 20000 in
set_option maxHeartbeats 2000000 in
theorem jat_any (P : Nat → Prop) (W : JW) (g : Nat) (s : JS) (a : Int) (d : Bool) (w : World) (h : JIn P w g s) (hat : JAt W s a d) :
    Calls Tryz.prog 20 #[.pointer (some ⟨g, 0, none⟩)] w fun e w' => e = .returned (.tuple #[.int .i64 (lookQ W.xs a d).1, .int .u64 ((lookQ W.xs a d).2 : Int)]) ∧ Below w.heap.size w w' := by
  obtain ⟨A1, A2, A3, c1, c2, c3, h⟩ := h
  have hbx := h.box
  unfold jcells at hbx
  have hq := h.q3
  obtain ⟨u0, u1, u2, u3, u4, u5, u6, u7⟩ := hbx.get8
  obtain ⟨l1, l2⟩ := hat.look
  generalize lookQ W.xs a d = lk at *
  generalize errV s.bad = eb at *
  rcases Nat.eq_zero_or_pos s.ys.length with h0 | h0
  · obtain rfl := l1 h0
    rw [h0] at u3
    clear h hat hq l1 l2 hbx
    go_enter Tryz.func20, Tryz.ntmps20
    go_wp2
    refine bodyPost_ret ?_ rfl ⟨rfl, by repeat (first | with_reducible exact Below.refl _ _ | with_reducible assumption | with_reducible refine Below.drew ?_ | with_reducible refine below_drewN ?_ _ | with_reducible refine Below.alloc ?_ (by (first | assumption | omega | (simp; done) | (simp; omega))) _ | with_reducible refine below_set ?_ (by (first | assumption | omega | (simp; done) | (simp; omega))) _ _)⟩
    simp [results, Tryz.results20, go_sem]
  · obtain ⟨hp, hl⟩ := l2 h0
    obtain ⟨ad, rfl, hbl, hc0, hc1⟩ := hq.at_ hp
    rw [← hl] at hc0 hc1
    obtain ⟨t, v⟩ := lk
    simp only at hc0 hc1
    generalize s.ys.length = n at *
    generalize s.p = m at *
    have hmi : (m : Int) < (n : Int) := by omega
    have hn0 : ((n : Int) == 0) = false := by simp; omega
    clear h hat hq l1 l2 hl
    go_enter Tryz.func20, Tryz.ntmps20
    have HSS : Hid (∀ X, Below w.heap.size w X → (X.cell? ⟨g, 3, none⟩ = some (.slice (some ad) n c3) ∧ X.cell? ⟨g, 4, none⟩ = some (.int .i64 (m : Int))) ∧ X.cell? (ad.add (m * 2)) = some (.int .i64 t) ∧ X.cell? ⟨(ad.add (m * 2)).block, (ad.add (m * 2)).off + 1, none⟩ = some (.int .u64 (v : Int))) :=
      Lib.hid (fun X hX => ⟨⟨(hbx.below hX).cell 3 _ rfl, (hbx.below hX).cell 4 _ rfl⟩, (hX.cell (p := ad.add (m * 2)) (by rw [add_block]; exact hbl)).trans hc0, (hX.cell (p := ⟨(ad.add (m * 2)).block, (ad.add (m * 2)).off + 1, none⟩) (by show (ad.add (m * 2)).block < _; rw [add_block]; exact hbl)).trans hc1⟩)
    have hsd := HSS.out w.drew (Below.refl _ _).drew
    clear hc0 hc1 u0 u1 u2 u5 u6 u7 hbx
    go_upto_region 3 with fail
    go_region_held3 (fun X => (X.cell? ⟨g, 3, none⟩ = some (.slice (some ad) n c3) ∧ X.cell? ⟨g, 4, none⟩ = some (.int .i64 (m : Int))) ∧ X.cell? (ad.add (m * 2)) = some (.int .i64 t) ∧ X.cell? ⟨(ad.add (m * 2)).block, (ad.add (m * 2)).off + 1, none⟩ = some (.int .u64 (v : Int))) (first | exact hsd | exact HSS.out _ (by repeat (first | with_reducible exact Below.refl _ _ | with_reducible assumption | with_reducible refine Below.drew ?_ | with_reducible refine below_drewN ?_ _ | with_reducible refine Below.alloc ?_ (by (first | assumption | omega | (simp; done) | (simp; omega))) _ | with_reducible refine below_set ?_ (by (first | assumption | omega | (simp; done) | (simp; omega))) _ _))) (fail)
    all_goals
      have x1 := (BoxL.new w [.int .i64 t, .int .u64 (v : Int)] 74).drew
      obtain ⟨k0, k1⟩ := x1.get2
      clear hsd
      go_upto_region 4 with fail
      go_quiet (fail)
      go_wp2
      refine bodyPost_ret ?_ rfl ⟨rfl, by repeat (first | with_reducible exact Below.refl _ _ | with_reducible assumption | with_reducible refine Below.drew ?_ | with_reducible refine below_drewN ?_ _ | with_reducible refine Below.alloc ?_ (by (first | assumption | omega | (simp; done) | (simp; omega))) _ | with_reducible refine below_set ?_ (by (first | assumption | omega | (simp; done) | (simp; omega))) _ _)⟩
      simp [results, Tryz.results20, go_sem]

set_option maxRecDepth 20000 in
set_option maxHeartbeats 2000000 in
theorem jerr_any (P : Nat → Prop) (W : JW) (g : Nat) (s : JS) (a : Int) (d : Bool) (w : World) (h : JIn P w g s) (hat : JAt W s a d) :
    Calls Tryz.prog 22 #[.pointer (some ⟨g, 0, none⟩)] w fun e w' => e = .returned (bif d then errV W.er else .nilIface) ∧ Below w.heap.size w w' := by
  obtain ⟨A1, A2, A3, c1, c2, c3, h⟩ := h
  have hbx := h.box
  unfold jcells at hbx
  have hd := hat.done
  have he := hat.end_
  rw [hd] at hbx
  obtain ⟨u0, u1, u2, u3, u4, u5, u6, u7⟩ := hbx.get8
  cases d
  · clear h hat hd he hbx
    go_enter Tryz.func22, Tryz.ntmps22
    go_wp2
    go_ret
    exact ⟨rfl, by repeat (first | with_reducible exact Below.refl _ _ | with_reducible assumption | with_reducible refine Below.drew ?_ | with_reducible refine below_drewN ?_ _ | with_reducible refine Below.alloc ?_ (by (first | assumption | omega | (simp; done) | (simp; omega))) _ | with_reducible refine below_set ?_ (by (first | assumption | omega | (simp; done) | (simp; omega))) _ _)⟩
  · rw [he rfl] at u6
    simp only [cond_true]
    generalize errV W.er = eb at *
    clear h hat hd he hbx
    go_enter Tryz.func22, Tryz.ntmps22
    go_wp2
    go_ret
    exact ⟨rfl, by repeat (first | with_reducible exact Below.refl _ _ | with_reducible assumption | with_reducible refine Below.drew ?_ | with_reducible refine below_drewN ?_ _ | with_reducible refine Below.alloc ?_ (by (first | assumption | omega | (simp; done) | (simp; omega))) _ | with_reducible refine below_set ?_ (by (first | assumption | omega | (simp; done) | (simp; omega))) _ _)⟩

set_option maxRecDepth 20000 in
set_option maxHeartbeats 2000000 in
theorem jnew_anyG (A : Option Addr) (n c B : Nat) (bs : List Nat) (w : World) (h : Rd w B A n c bs) (hB : B ≤ w.heap.size) (hb : ∀ u ∈ bs, u < 256) (hn : n ≤ 140737488355328) :
    Calls Tryz.prog 16 #[.slice A n c] w fun e w' => ∃ g, e = .returned (.pointer (some ⟨g, 0, none⟩)) ∧ w.heap.size ≤ g ∧ JIn (fun k => k = g ∨ (B ≤ k ∧ k < w.heap.size)) w' g (jnewF bs) ∧ Below w.heap.size w w' := by
  have HL := Lib.hid h.len
  have HBB := Lib.hid hb
  have hget := iget_any A n c B bs w h hB hb (by omega)
  have HH : Hid (∀ w', Below w.heap.size w w' → Rd w' B A n c bs) := Lib.hid (fun w' hb => h.below (hb.mono hB))
  have HA : Hid (0 < n → ∃ ad, A = some ad ∧ ad.block < B) := Lib.hid (fun hn => by obtain ⟨ad, e, hb, _⟩ := h.cell hn; exact ⟨ad, e, hb⟩)
  have HB := Lib.hid hB
  have hcap := h.cap
  clear h hB hb
  go_enter Tryz.func16, Tryz.ntmps16
  go_wp2_with fail
  refine hget.mono ?_
  clear hget
  cases hg : getI bs with
  | error j =>
    have HJ := Lib.hid (getI_err hg).1
    have HN : Hid (jnewF bs = ⟨0, [], [], [], 0, 0, j, false⟩) := Lib.hid (by unfold jnewF; rw [hg])
    clear hg
    rintro e w1 ⟨rfl, hb1⟩
    rw [errV_no HJ.out]
    go_wp2_with fail
    have hbx := BoxL.new_at0 (w := w1.alloc (.cells #[.int .i64 0, .slice none 0 0] 86)) (g := w1.heap.size + 1) [.int .i64 0, .slice none 0 0, .slice none 0 0, .slice none 0 0, .int .i64 0, .int .i64 0, .iface 59 (.int .i64 (j : Int)), .bool false] 90 (by simp)
    have hs1 := hb1.size
    go_ret
    refine ⟨_, rfl, by omega, ?_, by repeat (first | with_reducible exact Below.refl _ _ | with_reducible assumption | with_reducible refine Below.drew ?_ | with_reducible refine below_drewN ?_ _ | with_reducible refine Below.alloc ?_ (by (first | assumption | omega | (simp; done) | (simp; omega))) _ | with_reducible refine below_set ?_ (by (first | assumption | omega | (simp; done) | (simp; omega))) _ _)⟩
    rw [HN.out]
    refine ⟨none, none, none, 0, 0, 0, .inl rfl, ?_, RdE.nil_, Rd.nil_, rd_no0 _ _, Off.none_ _ _, Off.none_ _ _, Off.none_ _ _⟩
    unfold jcells
    rw [errV_no HJ.out]
    exact hbx
  | ok p =>
    obtain ⟨k, es, m⟩ := p
    obtain ⟨hmay, hfit, hmn, hlens⟩ := getI_ok HBB.out hg
    rw [HL.out] at hmn
    have HN : Hid (jnewF bs = ⟨(k : Int), es, bs.drop m, [], 0, 0, 0, false⟩) := Lib.hid (by unfold jnewF; rw [hg])
    clear hg hmay hfit hlens
    rintro e w1 ⟨Ae, ce, rfl, ho1⟩
    have hre := ho1.rd
    have hb1 := ho1.bel
    have HBE : Hid (0 < es.length → ∃ ad, Ae = some ad ∧ ad.block < w1.heap.size ∧ w.heap.size ≤ ad.block) := Lib.hid (fun hn => by
      obtain ⟨ad, e, hb, _⟩ := hre.cell hn
      refine ⟨ad, e, hb, ?_⟩
      rcases ho1.row.2 with ⟨_, h0⟩ | ⟨g, cap, cur, hv, hgw, _⟩
      · omega
      · injection hv with e1 _ _
        rw [e] at e1
        injection e1 with e1
        rw [e1]
        exact hgw)
    obtain ⟨B2, hB2⟩ : ∃ B2, (if c = m then A else A.map (fun x => x.add m)) = B2 := ⟨_, rfl⟩
    obtain ⟨N, hN⟩ : ∃ N, es.length = N := ⟨_, rfl⟩
    rw [hN] at hre ho1 HBE ⊢
    have HNN := Lib.hid hN
    clear hN ho1
    have hmi : (m : Int) ≤ (n : Int) := by omega
    have hmc : (m : Int) ≤ (c : Int) := by omega
    go_upto_region 4 with fail
    obtain ⟨W, hW⟩ : ∃ W, W = w1.alloc (.cells #[.int .i64 (k : Int), .slice Ae N ce] 86) := ⟨_, rfl⟩
    have hbW : Below w1.heap.size w1 W := by rw [hW]; exact (Below.refl _ _).alloc (Nat.le_refl _) _
    have hbx : BoxL W w1.heap.size [.int .i64 (k : Int), .slice Ae N ce] := by rw [hW]; exact BoxL.new w1 [.int .i64 (k : Int), .slice Ae N ce] _
    rw [← hW]
    have hbw := hb1.trans (hbW.mono hb1.size)
    have hrW := (hre.below hbW).more hbW.size
    have hbh := HH.out W hbw
    have hsW := hbW.size
    have hs1 := hb1.size
    obtain ⟨v0, v1⟩ := hbx.get2
    generalize w1.heap.size = g1 at *
    clear hW hre hbx hb1 hbW
    have hbx := (BoxL.new W [.int .i64 (k : Int), .slice Ae N ce, .slice B2 (n - m) (c - m), .slice none 0 0, .int .i64 0, .int .i64 0, .nilIface, .bool false] 90).drew
    have hbn : Below W.heap.size W (W.alloc (.cells #[.int .i64 (k : Int), .slice Ae N ce, .slice B2 (n - m) (c - m), .slice none 0 0, .int .i64 0, .int .i64 0, .nilIface, .bool false] 90)).drew := by repeat (first | with_reducible exact Below.refl _ _ | with_reducible assumption | with_reducible refine Below.drew ?_ | with_reducible refine below_drewN ?_ _ | with_reducible refine Below.alloc ?_ (by (first | assumption | omega | (simp; done) | (simp; omega))) _ | with_reducible refine below_set ?_ (by (first | assumption | omega | (simp; done) | (simp; omega))) _ _)
    have HF : Hid (JIn (fun k => k = W.heap.size ∨ (B ≤ k ∧ k < w.heap.size)) (W.alloc (.cells #[.int .i64 (k : Int), .slice Ae N ce, .slice B2 (n - m) (c - m), .slice none 0 0, .int .i64 0, .int .i64 0, .nilIface, .bool false] 90)).drew W.heap.size (jnewF bs) ∧ Below w.heap.size w (W.alloc (.cells #[.int .i64 (k : Int), .slice Ae N ce, .slice B2 (n - m) (c - m), .slice none 0 0, .int .i64 0, .int .i64 0, .nilIface, .bool false] 90)).drew) := Lib.hid (by
      have hml : (bs.drop m).length = n - m := by rw [List.length_drop, HL.out]
      have hs := hbh.slice hmn
      rw [hB2] at hs
      have hWB : B ≤ W.heap.size := by have := HB.out; omega
      refine ⟨?_, hbw.trans (hbn.mono hbw.size)⟩
      rw [HN.out]
      refine ⟨Ae, B2, none, ce, c - m, 0, .inl rfl, ?_, ?_, ?_, rd_no0 _ _, ?_, ?_, Off.none_ _ _⟩
      · unfold jcells
        simp only
        rw [HNN.out, hml]
        exact hbx
      · simp only
        rw [HNN.out]
        exact (hrW.below hbn).more hbn.size
      · simp only
        rw [hml]
        exact ((hs.below (hbn.mono hWB)).more (Nat.le_trans hWB hbn.size))
      · simp only
        rw [HNN.out]
        exact fun h0 ad e hp => by
          obtain ⟨ad', e', k1, k2⟩ := HBE.out h0
          rw [e] at e'
          injection e' with e'
          subst e'
          rcases hp with hp | ⟨_, hp⟩ <;> omega
      · simp only
        rw [hml, ← hB2]
        exact (Off.ahead (P := fun k => k = W.heap.size ∨ (B ≤ k ∧ k < w.heap.size)) HA.out (fun k e => by rcases e with e | ⟨e, _⟩ <;> omega)).cut (Nat.sub_le _ _) c m m)
    have HW : Hid (w.heap.size ≤ W.heap.size) := Lib.hid hbw.size
    clear hbx hbn hrW hbh hbw hsW hs1
    go_region_with (fail)
    all_goals
      go_wp2_with fail
      go_ret
      exact ⟨_, rfl, HW.out, HF.out.1, HF.out.2⟩

theorem jnew_any (A : Option Addr) (n c B : Nat) (bs : List Nat) (w : World) (h : Rd w B A n c bs) (hB : B ≤ w.heap.size) (hb : ∀ u ∈ bs, u < 256) (hn : n ≤ 140737488355328) :
    Calls Tryz.prog 16 #[.slice A n c] w fun e w' => ∃ g, e = .returned (.pointer (some ⟨g, 0, none⟩)) ∧ w.heap.size ≤ g ∧ JIn (fun k => k = g) w' g (jnewF bs) ∧ Below w.heap.size w w' :=
  (jnew_anyG A n c B bs w h hB hb hn).mono (by
    rintro e w' ⟨g, rfl, hg, hj, hb⟩
    exact ⟨g, rfl, hg, hj.also (fun k hk _ => .inl hk) rfl, hb⟩)

end Go.Proofs.YtaebljoacffghaaGreatDoor

/-
  The contracts of sort.Search by the question that layer 19's SeekTo asks.
-/
namespace Go.Proofs.YtaebljoacffghaaGreatDoor
open Go.RowKit

set_option maxRecDepth 20000 in
set_option maxHeartbeats 2000000 in
theorem jasked_any (br bt n c i B : Nat) (A : Option Addr) (xs : List (Int × Nat)) (t : Int) (w : World) (h : RdQ w B A n c xs) (hi : i < n) (hr : w.cell? ⟨br, 0, none⟩ = some (.slice A n c)) (ht : w.cell? ⟨bt, 0, none⟩ = some (.int .i64 t)) :
    Calls Tryz.prog 52 #[.int .i64 i, .pointer (some ⟨br, 0, none⟩), .pointer (some ⟨bt, 0, none⟩)] w fun e w' => e = .returned (.bool (decide (t ≤ (xs.getD i (0, 0)).1))) ∧ Below w.heap.size w w' := by
  obtain ⟨ad, rfl, hbl, hc0, hc1⟩ := h.at_ hi
  have hii : (i : Int) < (n : Int) := by omega
  generalize (xs.getD i (0, 0)).1 = x at *
  clear hc1
  go_enter Tryz.func52, Tryz.ntmps52
  go_upto_region 1 with fail
  go_quiet (fail)
  go_wp2
  go_ret
  exact ⟨rfl, by repeat (first | with_reducible exact Below.refl _ _ | with_reducible assumption | with_reducible refine Below.drew ?_ | with_reducible refine below_drewN ?_ _ | with_reducible refine Below.alloc ?_ (by (first | assumption | omega | (simp; done) | (simp; omega))) _ | with_reducible refine below_set ?_ (by (first | assumption | omega | (simp; done) | (simp; omega))) _ _)⟩

set_option maxRecDepth 20000 in
set_option maxHeartbeats 2000000 in
theorem jsearch_any (br bt n c B : Nat) (A : Option Addr) (xs : List (Int × Nat)) (t : Int) (w : World) (h : RdQ w B A n c xs) (hB : B ≤ w.heap.size) (hbr : br < w.heap.size) (hbt : bt < w.heap.size) (hn : n ≤ 100000) (hri : RiseQ xs)
    (hr : w.cell? ⟨br, 0, none⟩ = some (.slice A n c)) (ht : w.cell? ⟨bt, 0, none⟩ = some (.int .i64 t)) :
    Calls Tryz.prog 51 #[.int .i64 n, .func (.func 52) #[] #[.pointer (some ⟨br, 0, none⟩), .pointer (some ⟨bt, 0, none⟩)]] w fun e w' => (∃ k : Nat, e = .returned (.int .i64 k) ∧ Sought xs t 0 k) ∧ Below w.heap.size w w' := by
  have HL := Lib.hid h.len
  have HR := Lib.hid hri
  clear hri
  have HQ := Lib.hid (fun (i : Nat) (hi : i < n) (w' : World) (hb : Below w.heap.size w w') => jasked_any br bt n c i B A xs t w' (h.below (hb.mono hB)) hi ((hb.cell (p := ⟨br, 0, none⟩) hbr).trans hr) ((hb.cell (p := ⟨bt, 0, none⟩) hbt).trans ht))
  clear h hr ht
  go_enter Tryz.func51, Tryz.ntmps51
  go_wp2
  go_loopw [5, 6] (fun s5 s6 wr => ∃ lo hi : Nat, s5 = .int .i64 lo ∧ s6 = .int .i64 hi ∧ lo ≤ hi ∧ hi ≤ n ∧ Below w.heap.size w wr ∧ Hid ((∀ i, i < lo → (xs.getD i (0, 0)).1 < t) ∧ (hi < n → t ≤ (xs.getD hi (0, 0)).1))) (fun s5 s6 _ => (intOf s6).toNat - (intOf s5).toNat)
  case atStart => exact ⟨0, n, rfl, rfl, by omega, by omega, Below.refl _ _, Lib.hid ⟨fun i hi => absurd hi (by omega), fun hi => absurd hi (by omega)⟩⟩
  case round =>
    obtain ⟨lo, hi, rfl, rfl, h1, h2, hwr, HI⟩ := hrel
    by_cases hlt : lo < hi
    · have hc := HQ.out ((lo + hi) / 2) (by omega) _ hwr
      rw [show (((lo + hi) / 2 : Nat) : Int) = ((lo : Int) + (hi : Int)) / 2 by omega] at hc
      cases hp : decide (t ≤ (xs.getD ((lo + hi) / 2) (0, 0)).1) <;> rw [hp] at hc
      · have HP := Lib.hid (of_decide_eq_false hp)
        clear hp
        go_wp2_with (go_at_call 52; refine hc.mono ?_; rintro e w' ⟨rfl, hb⟩)
        go_roundw
        case measure => simp [intOf]; omega
        case rel =>
          refine ⟨(lo + hi) / 2 + 1, hi, by rw [show ((lo : Int) + (hi : Int)) / 2 + 1 = (((lo + hi) / 2 + 1 : Nat) : Int) by omega], rfl, by omega, h2, hwr.trans (hb.mono hwr.size), Lib.hid ⟨fun i hi' => ?_, HI.out.2⟩⟩
          have := HR.out.le (i := i) (j := (lo + hi) / 2) (by omega) (by rw [HL.out]; omega)
          have := HP.out
          omega
      · have HP := Lib.hid (of_decide_eq_true hp)
        clear hp
        go_wp2_with (go_at_call 52; refine hc.mono ?_; rintro e w' ⟨rfl, hb⟩)
        go_roundw
        case measure => simp [intOf]; omega
        case rel => exact ⟨lo, (lo + hi) / 2, rfl, by rw [show ((lo : Int) + (hi : Int)) / 2 = (((lo + hi) / 2 : Nat) : Int) by omega], by omega, by omega, hwr.trans (hb.mono hwr.size), Lib.hid ⟨HI.out.1, fun _ => HP.out⟩⟩
    · obtain rfl : hi = lo := by omega
      go_wp2
      go_ret
      refine ⟨⟨hi, rfl, by omega, by rw [HL.out]; exact h2, fun i _ h => HI.out.1 i h, fun h => HI.out.2 (by rw [← HL.out]; exact h)⟩, hwr⟩

end Go.Proofs.YtaebljoacffghaaGreatDoor

/-
  The contracts of layer 19's reaches and SeekTo.
-/
namespace Go.Proofs.YtaebljoacffghaaGreatDoor
open Go.RowKit

/-- what reaches comes to -/
def RetRe (w : World) (s : JS) (t : Int) (e : Ending) (w' : World) : Prop := ∃ b : Bool, e = .returned (.bool b) ∧ (b = true ↔ s.Reach t) ∧ Below w.heap.size w w'
/-- how many chunks are ahead, by the iterator's box -/
def aheadN (g : Nat) (w : World) : Nat := match w.cell? ⟨g, 1, none⟩ with
  | some (.slice _ n _) => n
  | _ => 0
theorem JIn.ahead {P : Nat → Prop} {w : World} {g : Nat} {s : JS} (h : JIn P w g s) : aheadN g w = s.es.length := by
  obtain ⟨A1, A2, A3, c1, c2, c3, h⟩ := h
  unfold aheadN
  rw [h.box.cell 1 (.slice A1 s.es.length c1) rfl]

set_option maxRecDepth 20000 in
set_option maxHeartbeats 2000000 in
theorem jreach_any (P : Nat → Prop) (g : Nat) (s : JS) (t : Int) (w : World) (h : JIn P w g s) (hm : JMay s) :
    Calls Tryz.prog 49 #[.pointer (some ⟨g, 0, none⟩), .int .i64 t] w (RetRe w s t) := by
  obtain ⟨A1, A2, A3, c1, c2, c3, h⟩ := h
  have hbx := h.box
  unfold jcells at hbx
  have hq := h.q3
  have hfew := hm.few
  obtain ⟨u0, u1, u2, u3, u4, u5, u6, u7⟩ := hbx.get8
  have HRE : Hid (s.Reach t ↔ 1 ≤ s.ys.length ∧ t ≤ (s.ys.getD (s.ys.length - 1) (0, 0)).1) := Lib.hid Iff.rfl
  generalize errV s.bad = eb at *
  rcases Nat.eq_zero_or_pos s.ys.length with h0 | h0
  · rw [h0] at u3 HRE
    clear h hm hq hbx
    go_enter Tryz.func49, Tryz.ntmps49
    go_wp2
    go_ret
    exact ⟨false, rfl, by rw [HRE.out]; simp, by repeat (first | with_reducible exact Below.refl _ _ | with_reducible assumption | with_reducible refine Below.drew ?_ | with_reducible refine below_drewN ?_ _ | with_reducible refine Below.alloc ?_ (by (first | assumption | omega | (simp; done) | (simp; omega))) _ | with_reducible refine below_set ?_ (by (first | assumption | omega | (simp; done) | (simp; omega))) _ _)⟩
  · obtain ⟨p, hp⟩ : ∃ p, s.ys.length = p + 1 := ⟨s.ys.length - 1, by omega⟩
    obtain ⟨ad, rfl, hbl, hc0, hc1⟩ := hq.at_ (k := p) (by omega)
    rw [hp, Nat.add_sub_cancel] at HRE
    generalize (s.ys.getD p (0, 0)).1 = x at *
    generalize s.ys.length = n at *
    have hsub : IntKind.i64.wrap ((n : Int) - 1) = (p : Int) := by rw [show (n : Int) - 1 = (p : Int) by omega]; exact IntWalk.i64_in _ (by omega)
    have hsub2 : (n : Int) - 1 = (p : Int) := by omega
    have hpi : (p : Int) < (n : Int) := by omega
    have hn0 : (0 : Int) < (n : Int) := by omega
    have HP := Lib.hid hp
    clear h hm hq hbx hc1 hp
    by_cases hx : t ≤ x
    · have hx' : ¬ x < t := by omega
      go_enter Tryz.func49, Tryz.ntmps49
      go_wp2
      go_ret
      exact ⟨true, rfl, by rw [HRE.out]; simp; omega, by repeat (first | with_reducible exact Below.refl _ _ | with_reducible assumption | with_reducible refine Below.drew ?_ | with_reducible refine below_drewN ?_ _ | with_reducible refine Below.alloc ?_ (by (first | assumption | omega | (simp; done) | (simp; omega))) _ | with_reducible refine below_set ?_ (by (first | assumption | omega | (simp; done) | (simp; omega))) _ _)⟩
    · have hx' : x < t := by omega
      go_enter Tryz.func49, Tryz.ntmps49
      go_wp2
      go_ret
      exact ⟨false, rfl, by rw [HRE.out]; simp; omega, by repeat (first | with_reducible exact Below.refl _ _ | with_reducible assumption | with_reducible refine Below.drew ?_ | with_reducible refine below_drewN ?_ _ | with_reducible refine Below.alloc ?_ (by (first | assumption | omega | (simp; done) | (simp; omega))) _ | with_reducible refine below_set ?_ (by (first | assumption | omega | (simp; done) | (simp; omega))) _ _)⟩

set_option maxRecDepth 20000 in
set_option maxHeartbeats 4000000 in
theorem jseek_any (P : Nat → Prop) (W : JW) (g : Nat) (s : JS) (a t : Int) (d : Bool) (w : World) (h : JIn P w g s) (hP : ∀ k, P k → k < w.heap.size) (hT : TabsW w) (hTl : TabsLt g) (hat : JAt W s a d) (hf : JFix W) (ha : a < W.xs.length) :
    Calls Tryz.prog 30 #[.pointer (some ⟨g, 0, none⟩), .int .i64 t] w (RetJ P W w g s.ck (SeekR W.xs t a d)) := by
  have hgw : g < w.heap.size := by
    obtain ⟨_, _, _, _, _, _, h⟩ := h
    exact h.box.lt
  have HSK := Lib.hid (hat.seek t)
  have HA := Lib.hid ha
  have HPW := Lib.hid hP
  have HTL := Lib.hid hTl
  clear hat hP hTl ha
  go_enter Tryz.func30, Tryz.ntmps30
  go_upto_block 0 with fail
  obtain ⟨V, hV⟩ : ∃ V, V = w.alloc (.cells #[.int .i64 t] 2) := ⟨_, rfl⟩
  have hbV : Below w.heap.size w V := by rw [hV]; exact (Below.refl _ _).alloc (Nat.le_refl _) _
  have bxV : BoxL V w.heap.size [.int .i64 t] := by rw [hV]; exact BoxL.new w [.int .i64 t] _
  rw [← hV]
  have hjV := h.below hbV
  have HTV := Lib.hid (hT.bel hbV)
  have HBV := Lib.hid hbV
  have HXV := Lib.hid bxV
  obtain ⟨bt, hbt⟩ : ∃ bt, w.heap.size = bt := ⟨_, rfl⟩
  rw [hbt] at hgw HXV
  rw [show w.heap.size = bt from hbt]
  have HBT := Lib.hid hbt
  clear hV h hT hbV bxV hbt
  go_wp2_with fail
  go_loopw [4] (fun x4 wr => ∃ s', JIn P wr g s' ∧ JSeek W t a d s' ∧ V.grownBy wr (some g) ∧ s.ck ≤ s'.ck) (fun _ wr => aheadN g wr)
  case atStart => exact ⟨s, hjV, HSK.out, World.grownBy.refl _ _, Nat.le_refl _⟩
  case round =>
    clear hjV
    obtain ⟨s', hj, hsk, hgr, hck⟩ := hrel
    have hm := hsk.may hf.cn hf.er
    have hx := (HXV.out.grown hgr (by simp; omega)).cell 0 _ rfl
    have hRe := jreach_any P g s' t wr hj hm
    have HM := Lib.hid hm
    have HC := Lib.hid hck
    clear hm hck
    go_wp2_with fail
    refine hRe.mono ?_
    rintro e w5 ⟨b, rfl, hb, hbel⟩
    have hj5 := hj.below hbel
    have hg5 := hgr.trans (grown_below hbel (some g))
    have HT5 := Lib.hid (HTV.out.grown hg5 HTL.out)
    cases b
    · have HNO : Hid (¬ s'.Reach t) := Lib.hid (fun h => absurd (hb.2 h) (by simp))
      obtain ⟨A1, A2, A3, c1, c2, c3, hjm⟩ := hj5
      have hL := jload_any P g s' A1 A2 A3 c1 c2 c3 w5 hjm (fun k hk => by have h1 := HPW.out k hk; have h2 := HBV.out.size; have h3 := hg5.size; omega) HT5.out HM.out
      have HSQ := Lib.hid hsk
      have HAH := Lib.hid hj.ahead
      clear hb hbel hRe hx hgr hjm hsk hj
      go_wp2_with fail
      refine hL.mono ?_
      rintro e w6 ⟨ok, s2, hl, rfl, hj6, hg6⟩
      have hg7 := hg5.trans hg6
      have HLD := Lib.hid hl
      clear hL hg5 hg6 hl
      cases ok
      · go_wp2
        go_ret
        obtain ⟨r1, r2, r3⟩ := HSQ.out.loadNo HNO.out HLD.out HA.out
        exact ⟨false, a, s2, rfl, r1, r2, hj6, (grown_below HBV.out (some g)).trans hg7, by have := HC.out; omega⟩
      · have HN := Lib.hid (HSQ.out.loadOk HNO.out HLD.out)
        go_wp2
        go_roundw
        case rel => exact ⟨s2, hj6, HN.out.1, hg7, by have := HC.out; have := HN.out.2.2; omega⟩
        case measure => rw [hj6.ahead, HAH.out]; exact HN.out.2.1
    · have HYES := Lib.hid (hb.1 rfl)
      have HPL := Lib.hid (hsk.place HYES.out)
      have hpl := HPL.out
      obtain ⟨A1, A2, A3, c1, c2, c3, hjm⟩ := hj5
      have hbx := hjm.box
      unfold jcells at hbx
      have hq := hjm.q3
      have hcap := hq.cap
      have HSQ := Lib.hid hsk
      have HJM := Lib.hid hjm
      have bx5 := (HXV.out.grown hg5 (by simp; omega))
      obtain ⟨ad, rfl, _⟩ := hq.at_ hpl
      obtain ⟨n, hn⟩ : ∃ n, s'.ys.length = n := ⟨_, rfl⟩
      obtain ⟨m, hm⟩ : ∃ m, s'.p = m := ⟨_, rfl⟩
      rw [hn, hm] at hpl
      rw [hn] at hq hcap hbx
      rw [hm] at hbx
      have HNM := Lib.hid (And.intro hn hm)
      have hmi : (m : Int) ≤ (n : Int) := by omega
      have hmc : (m : Int) ≤ (c3 : Int) := by omega
      have hm0 : ¬ c3 = m := by omega
      clear hb hbel hRe hx hgr hjm hsk hj hn hm
      have HSS : Hid (∀ X, Below w5.heap.size w5 X → X.cell? ⟨g, 3, none⟩ = some (.slice (some ad) n c3) ∧ X.cell? ⟨g, 4, none⟩ = some (.int .i64 (m : Int))) := Lib.hid (fun X hX => ⟨(hbx.below hX).cell 3 _ rfl, (hbx.below hX).cell 4 _ rfl⟩)
      have hsd := HSS.out w5.drew (Below.refl _ _).drew
      go_upto_region 4 with fail
      go_region_held3 (fun X => X.cell? ⟨g, 3, none⟩ = some (.slice (some ad) n c3) ∧ X.cell? ⟨g, 4, none⟩ = some (.int .i64 (m : Int))) (first | exact hsd | exact HSS.out _ (by repeat (first | with_reducible exact Below.refl _ _ | with_reducible assumption | with_reducible refine Below.drew ?_ | with_reducible refine below_drewN ?_ _ | with_reducible refine Below.alloc ?_ (by (first | assumption | omega | (simp; done) | (simp; omega))) _ | with_reducible refine below_set ?_ (by (first | assumption | omega | (simp; done) | (simp; omega))) _ _))) (fail)
      all_goals
        obtain ⟨X, hX⟩ : ∃ X, X = (w5.alloc (.cells #[.slice (some (ad.add (m * 2))) (n - m) (c3 - m)] 31)).drew := ⟨_, rfl⟩
        have hbX : Below w5.heap.size w5 X := by rw [hX]; exact (by repeat (first | with_reducible exact Below.refl _ _ | with_reducible assumption | with_reducible refine Below.drew ?_ | with_reducible refine below_drewN ?_ _ | with_reducible refine Below.alloc ?_ (by (first | assumption | omega | (simp; done) | (simp; omega))) _ | with_reducible refine below_set ?_ (by (first | assumption | omega | (simp; done) | (simp; omega))) _ _))
        have bxX : BoxL X w5.heap.size [.slice (some (ad.add (m * 2))) (n - m) (c3 - m)] := by rw [hX]; exact (BoxL.new w5 [.slice (some (ad.add (m * 2))) (n - m) (c3 - m)] _).drew
        rw [← hX]
        have hS := jsearch_any w5.heap.size bt (n - m) (c3 - m) w5.heap.size (some (ad.add (m * 2))) (s'.ys.drop m) t X.drew (((hq.from_ (by omega)).below hbX).drew) hbX.size bxX.lt (by have h1 := bx5.lt; have h2 := hbX.size; show bt < X.heap.size; omega) (by have h1 := HM.out.few; have h2 := HNM.out.1; omega) (HM.out.rise.drop m) (bxX.cell 0 _ rfl) ((bx5.below hbX).cell 0 _ rfl)
        have hgX := (hbx.below hbX)
        have brX := bxX.drew.cell 0 _ rfl
        have g4X := hgX.drew.cell 4 _ rfl
        have hn6 : n ≤ 65535 := by have h1 := HM.out.few; have h2 := HNM.out.1; omega
        have hml : (s'.ys.drop m).length = n - m := by rw [List.length_drop, HNM.out.1]
        have HML := Lib.hid hml
        have HBX := Lib.hid hbX
        have HGX := Lib.hid hgX
        obtain ⟨br, hbr⟩ : ∃ br, w5.heap.size = br := ⟨_, rfl⟩
        rw [hbr] at hS brX
        rw [show w5.heap.size = br from hbr]
        clear hX hbX bxX hgX hml hsd hbr
        go_upto_region 5 with fail
        go_cut [4] (fun x4 wx => x4 = u4 ∧ ∃ (k : Nat) (w7 : World), Sought (s'.ys.drop m) t 0 k ∧ Below X.heap.size X w7 ∧ wx = w7.setCell ⟨g, 4, none⟩ (.int .i64 ((m : Int) + (k : Int))))
        case first =>
          go_region_with (first
            | (go_at_call 51; refine hS.mono ?_; rintro e w7 ⟨⟨k, rfl, hk⟩, hb7⟩; have HK := Lib.hid hk; have hkn : k ≤ n - m := (by have h1 := hk.hi; have h2 := HML.out; omega); clear hk; have hw := IntWalk.i64_in ((m : Int) + (k : Int)) (by omega); have g47 := (HGX.out.below (undrew hb7)).cell 4 _ rfl; have f47 := (HGX.out.below (undrew hb7)).free 4 _ rfl))
          all_goals
            go_wp2_with fail
            go_meet
            exact ⟨rfl, k, w7, HK.out, undrew hb7, rfl⟩
        case rest =>
          obtain ⟨rfl, k, w7, hk, hb7, hwc⟩ := hcut
          have hgc : w5.grownBy wc (some g) := by rw [hwc]; exact ((grown_below HBX.out (some g)).trans (grown_below hb7 (some g))).trans (only_set _ _ _ _)
          have bxc : BoxL wc g [.int .i64 s'.z, .slice A1 s'.es.length c1, .slice A2 s'.rest.length c2, .slice (some ad) n c3, .int .i64 ((m : Int) + (k : Int)), .int .i64 (s'.ck : Int), errV s'.bad, .bool s'.d] := by rw [hwc]; exact (HGX.out.below hb7).put 4 (.int .i64 ((m : Int) + (k : Int)))
          have HF : Hid (∃ a', SeekR W.xs t a d true a' ∧ JAt W { s' with p := s'.p + k } a' false ∧ JIn P wc g { s' with p := s'.p + k } ∧ w.grownBy wc (some g) ∧ s.ck ≤ s'.ck) := Lib.hid (by
            obtain ⟨n1, n2⟩ := HNM.out
            subst n1 n2
            obtain ⟨r1, a', r2, r3⟩ := HSQ.out.found HYES.out hk
            refine ⟨a', r2, r3, ⟨A1, A2, some ad, c1, c2, c3, HJM.out.upd hgc ?_ rfl rfl rfl⟩, ((grown_below HBV.out (some g)).trans hg5).trans hgc, HC.out⟩
            unfold jcells
            rw [show (({ s' with p := s'.p + k } : JS).p : Int) = (s'.p : Int) + (k : Int) from Int.natCast_add ..]
            exact bxc)
          clear hk hwc hgc bxc hS g4X brX hq hcap hbx bx5 hg5
          go_wp2_with fail
          go_ret
          obtain ⟨a', r1, r2, r3, r4, r5⟩ := HF.out
          exact ⟨true, a', _, rfl, r1, r2, r3, r4, r5⟩

end Go.Proofs.YtaebljoacffghaaGreatDoor
