/-
  Plain facts (no program): samples' bits, one behind the other, the states behind them, and what bits begin with in a state.
-/
import Derived.Test.YtldodfdbaonmkaaDoorXor1
namespace Go.Proofs.YtldodfdbaonmkaaDoor

/-- a number of 64 bits of two's complement -/
def w64 (x : Int) : Int := (x + 9223372036854775808) % 18446744073709551616 - 9223372036854775808
theorem w64_in (x : Int) : -9223372036854775808 ≤ w64 x ∧ w64 x ≤ 9223372036854775807 := by unfold w64; omega

/-- a state: how many samples, the last one's time and value, by how much they went on, and layer 7's state -/
structure KS where
  n : Nat
  t : Int
  d : Int
  v : Nat
  e : Nat
  x : XS
/-- it may be -/
structure KS.May (s : KS) : Prop where
  t : -9223372036854775808 ≤ s.t ∧ s.t ≤ 9223372036854775807
  d : -9223372036854775808 ≤ s.d ∧ s.d ≤ 9223372036854775807
  v : s.v ≤ 18446744073709551615
  e : s.e ≤ 18446744073709551615
  x : s.x.May
def zeroK : KS := ⟨0, 0, 0, 0, 0, zeroX⟩
theorem zeroK_may : zeroK.May := ⟨by simp [zeroK], by simp [zeroK], by simp [zeroK], by simp [zeroK], zeroX_may⟩

/-- by how much the step of a time is another one -/
def stepT (s : KS) (t : Int) : Int := w64 (t - s.t - s.d)
/-- by how much the step of a value is another one -/
def stepE (s : KS) (v : Nat) : Int := w64 ((v : Int) - (s.v : Int) - (s.e : Int))
def timeK (s : KS) (t : Int) : List Bool := if s.n = 0 then low (un64 t) 64 else codeD (stepT s t)
def valK (k : Nat) (s : KS) (v : Nat) : List Bool := if s.n = 0 then low v 64 else if k = 1 then codeX s.x v else codeD (stepE s v)
/-- a sample's bits -/
def putK (k : Nat) (s : KS) (t : Int) (v : Nat) : List Bool := timeK s t ++ valK k s v
/-- the state behind a sample, y being layer 7's -/
def afterK (k : Nat) (s : KS) (t : Int) (v : Nat) (y : XS) : KS :=
  if s.n = 0 then ⟨1, t, 0, v, 0, if k = 1 then ⟨v, 0, 0⟩ else zeroX⟩
  else ⟨s.n + 1, t, w64 (t - s.t), v, if k = 1 then 0 else un64 ((v : Int) - (s.v : Int)), if k = 1 then y else zeroX⟩
def nextK (k : Nat) (s : KS) (t : Int) (v : Nat) : KS := afterK k s t v (nextX s.x v)
/-- may a sample stand behind a state? -/
def risesK (s : KS) (t : Int) : Bool := decide (s.n = 0) || decide (s.t < t)

theorem afterK_may {k : Nat} {s : KS} {t : Int} {v : Nat} {y : XS} (ht : -9223372036854775808 ≤ t ∧ t ≤ 9223372036854775807) (hv : v ≤ 18446744073709551615) (hy : y.May) : (afterK k s t v y).May := by
  unfold afterK
  split
  · exact ⟨ht, by simp, hv, by simp, by simp only; split; exact ⟨hv, by simp, by simp, fun _ => rfl⟩; exact zeroX_may⟩
  · exact ⟨ht, w64_in _, hv, by simp only; split; omega; exact un64_lt _, by simp only; split; exact hy; exact zeroX_may⟩
theorem afterK_n (k : Nat) (s : KS) (t : Int) (v : Nat) (y : XS) : (afterK k s t v y).n = s.n + 1 := by
  unfold afterK
  split
  · rename_i h; rw [h]
  · rfl
theorem nextK_may {k : Nat} {s : KS} {t : Int} {v : Nat} (h : s.May) (ht : -9223372036854775808 ≤ t ∧ t ≤ 9223372036854775807) (hv : v ≤ 18446744073709551615) : (nextK k s t v).May :=
  afterK_may ht hv (nextX_may h.x hv)
theorem stepT_in (s : KS) (t : Int) : -9223372036854775808 ≤ stepT s t ∧ stepT s t ≤ 9223372036854775807 := w64_in _
theorem stepE_in (s : KS) (v : Nat) : -9223372036854775808 ≤ stepE s v ∧ stepE s v ≤ 9223372036854775807 := w64_in _
theorem timeK_len (s : KS) (t : Int) : 1 ≤ (timeK s t).length ∧ (timeK s t).length ≤ 68 := by
  unfold timeK
  split
  · rw [low_length]; omega
  · exact codeD_pos _
theorem valK_len {k : Nat} {s : KS} {v : Nat} (h : s.May) (hv : v ≤ 18446744073709551615) : 1 ≤ (valK k s v).length ∧ (valK k s v).length ≤ 78 := by
  unfold valK
  split
  · rw [low_length]; omega
  · split
    · exact codeX_pos h.x hv
    · have := codeD_pos (stepE s v); omega
theorem putK_len {k : Nat} {s : KS} {t : Int} {v : Nat} (h : s.May) (hv : v ≤ 18446744073709551615) : 2 ≤ (putK k s t v).length ∧ (putK k s t v).length ≤ 146 := by
  have h1 := timeK_len s t
  have h2 := valK_len (k := k) h hv
  unfold putK
  rw [List.length_append]
  omega

/-- what bits begin with: a sample, the state behind it, how many bits it has, an error's number -/
structure KA where
  t : Int
  v : Nat
  s : KS
  n : Nat
  e : Nat
def badK (e : Nat) : KA := ⟨0, 0, zeroK, 0, e⟩
/-- what a value's bits tell, behind the first sample -/
def VGets (k : Nat) (s : KS) (q : List Bool) (v : Nat) (y : XS) (m e : Nat) : Prop :=
  if k = 1 then v = (getX s.x q).v ∧ y = (getX s.x q).s ∧ m = (getX s.x q).n ∧ e = (getX s.x q).e
  else ∃ step, DGets q step m e ∧ v = un64 ((s.v : Int) + (s.e : Int) + step) ∧ y = zeroX
/-- the first sample -/
def firstK (k : Nat) (s : KS) (p : List Bool) : KA :=
  if p.length < 128 then badK 2 else ⟨sgnN (num (cut p 0 64)) 64, num (cut p 64 64), afterK k s (sgnN (num (cut p 0 64)) 64) (num (cut p 64 64)) zeroX, 128, 0⟩
/-- each other one, of the two parts' answers -/
def laterK (k : Nat) (s : KS) (step : Int) (n e : Nat) (v : Nat) (y : XS) (m e2 : Nat) : KA :=
  if e ≠ 0 then badK e else if e2 ≠ 0 then badK e2 else if w64 (s.t + s.d + step) ≤ s.t then badK 4
  else ⟨w64 (s.t + s.d + step), v, afterK k s (w64 (s.t + s.d + step)) v y, n + m, 0⟩
def KGets (k : Nat) (s : KS) (p : List Bool) (r : KA) : Prop :=
  (s.n = 0 ∧ r = firstK k s p) ∨ (s.n ≠ 0 ∧ ∃ step n e v y m e2, DGets p step n e ∧ VGets k s (p.drop n) v y m e2 ∧ r = laterK k s step n e v y m e2)

theorem VGets.same {k : Nat} {s : KS} {q : List Bool} {v v' : Nat} {y y' : XS} {m m' e e' : Nat} (h : VGets k s q v y m e) (h' : VGets k s q v' y' m' e') : v = v' ∧ y = y' ∧ m = m' ∧ e = e' := by
  unfold VGets at h h'
  split at h
  · rename_i hk
    rw [if_pos hk] at h'
    obtain ⟨rfl, rfl, rfl, rfl⟩ := h
    obtain ⟨rfl, rfl, rfl, rfl⟩ := h'
    exact ⟨rfl, rfl, rfl, rfl⟩
  · rename_i hk
    rw [if_neg hk] at h'
    obtain ⟨st, h1, rfl, rfl⟩ := h
    obtain ⟨st', h1', rfl, rfl⟩ := h'
    obtain ⟨rfl, rfl, rfl⟩ := h1.same h1'
    exact ⟨rfl, rfl, rfl, rfl⟩
theorem KGets.same {k : Nat} {s : KS} {p : List Bool} {r r' : KA} (h : KGets k s p r) (h' : KGets k s p r') : r = r' := by
  rcases h with ⟨h0, rfl⟩ | ⟨h0, st, n, e, v, y, m, e2, h1, h2, rfl⟩
  · rcases h' with ⟨_, rfl⟩ | ⟨h0', _⟩
    · rfl
    · exact absurd h0 h0'
  · rcases h' with ⟨h0', _⟩ | ⟨_, st', n', e', v', y', m', e2', h1', h2', rfl⟩
    · exact absurd h0' h0
    · obtain ⟨rfl, rfl, rfl⟩ := h1.same h1'
      obtain ⟨rfl, rfl, rfl, rfl⟩ := h2.same h2'
      rfl
theorem vgets_in {k : Nat} {s : KS} {q : List Bool} {v : Nat} {y : XS} {m e : Nat} (hs : s.May) (h : VGets k s q v y m e) : v ≤ 18446744073709551615 ∧ y.May ∧ m ≤ 78 ∧ e ≤ 3 := by
  unfold VGets at h
  split at h
  · obtain ⟨rfl, rfl, rfl, rfl⟩ := h
    exact getX_in q hs.x
  · obtain ⟨st, h1, rfl, rfl⟩ := h
    have := gets_in h1
    exact ⟨un64_lt _, zeroX_may, by omega, by omega⟩
/-- what is got fits -/
theorem vgets_len {k : Nat} {s : KS} {q : List Bool} {v : Nat} {y : XS} {m e : Nat} (h : VGets k s q v y m e) (he : e = 0) : m ≤ q.length := by
  unfold VGets at h
  split at h
  · obtain ⟨rfl, rfl, rfl, rfl⟩ := h
    have := getX_back he
    exact this.2.2.2
  · obtain ⟨st, h1, rfl, rfl⟩ := h
    exact (gets_in h1).2.2.2 he
theorem zeroK_in : (badK 0).s.May := zeroK_may
theorem sgn64_in (x : Nat) : -9223372036854775808 ≤ sgnN x 64 ∧ sgnN x 64 ≤ 9223372036854775807 := sgn_in x (k := 4) (by omega)
theorem kgets_in {k : Nat} {s : KS} {p : List Bool} {r : KA} (hs : s.May) (h : KGets k s p r) :
    (-9223372036854775808 ≤ r.t ∧ r.t ≤ 9223372036854775807) ∧ r.v ≤ 18446744073709551615 ∧ r.s.May ∧ r.n ≤ 146 ∧ r.e ≤ 4 ∧ (r.e = 0 → r.n ≤ p.length ∧ r.s.n = s.n + 1 ∧ 2 ≤ r.n) := by
  rcases h with ⟨h0, rfl⟩ | ⟨h0, st, n, e, v, y, m, e2, h1, h2, rfl⟩
  · unfold firstK
    split
    · exact ⟨by simp [badK], by simp [badK], zeroK_may, by simp [badK], by simp [badK], fun h => by simp [badK] at h⟩
    · rename_i hl
      have hn := num_cut_lt p 64 64
      have hn' : num (cut p 64 64) ≤ 18446744073709551615 := by omega
      exact ⟨sgn64_in _, hn', afterK_may (sgn64_in _) hn' zeroX_may, by simp, by simp, fun _ => ⟨by simp only; omega, afterK_n _ _ _ _ _, by simp⟩⟩
  · have g1 := gets_in h1
    have g2 := vgets_in hs h2
    have g3 := vgets_len h2
    unfold laterK
    split
    · exact ⟨by simp [badK], by simp [badK], zeroK_may, by simp [badK], by simp [badK]; omega, fun h => by simp [badK] at h; omega⟩
    · rename_i he
      split
      · exact ⟨by simp [badK], by simp [badK], zeroK_may, by simp [badK], by simp [badK]; omega, fun h => by simp [badK] at h; omega⟩
      · rename_i he2
        split
        · exact ⟨by simp [badK], by simp [badK], zeroK_may, by simp [badK], by simp [badK], fun h => by simp [badK] at h⟩
        · have he' : e = 0 := by omega
          have he2' : e2 = 0 := by omega
          have g4 := g1.2.2.2 he'
          have g5 := g3 he2'
          rw [List.length_drop] at g5
          refine ⟨w64_in _, g2.1, afterK_may (w64_in _) g2.1 g2.2.1, by simp only; omega, by simp, fun _ => ⟨by simp only; omega, afterK_n _ _ _ _ _, ?_⟩⟩
          subst he' he2'
          have p1 := dgets_back h1
          have c1 := (codeD_pos st).1
          have p2 : 1 ≤ m := by
            unfold VGets at h2
            split at h2
            · obtain ⟨rfl, rfl, rfl, h3⟩ := h2
              have := getX_back h3.symm
              have c2 := (codeX_pos hs.x g2.1).1
              have h4 := congrArg List.length this.1
              rw [List.length_take] at h4
              omega
            · obtain ⟨st2, h3, rfl, rfl⟩ := h2
              have q1 := dgets_back h3
              have c2 := (codeD_pos st2).1
              rw [q1.1, List.length_take] at c2
              omega
          have p3 : 1 ≤ n := by
            rw [p1.1, List.length_take] at c1
            omega
          simp only
          omega

theorem un64_back {t : Int} (ht : -9223372036854775808 ≤ t ∧ t ≤ 9223372036854775807) : sgnN (un64 t) 64 = t :=
  (sgn_room ht (k := 4) (by omega)).2 (onesN_le t)
theorem cut_first (p q : List Bool) : cut (p ++ q) 0 p.length = p := by
  unfold cut
  rw [List.drop_zero, List.take_left]
theorem cut_second (p q r : List Bool) : cut (p ++ (q ++ r)) p.length q.length = q := by
  unfold cut
  rw [List.drop_left, List.take_left]
/-- what was put is got -/
theorem kgets_put {k : Nat} {s : KS} {t : Int} {v : Nat} (hs : s.May) (ht : -9223372036854775808 ≤ t ∧ t ≤ 9223372036854775807) (hv : v ≤ 18446744073709551615) (hr : risesK s t = true) (q : List Bool) :
    KGets k s (putK k s t v ++ q) ⟨t, v, nextK k s t v, (putK k s t v).length, 0⟩ := by
  by_cases h0 : s.n = 0
  · left
    refine ⟨h0, ?_⟩
    have e1 : timeK s t = low (un64 t) 64 := by unfold timeK; rw [if_pos h0]
    have e2 : valK k s v = low v 64 := by unfold valK; rw [if_pos h0]
    have l1 := low_length (un64 t) 64
    have l2 := low_length v 64
    have c1 : cut (putK k s t v ++ q) 0 64 = low (un64 t) 64 := by
      unfold putK
      rw [e1, e2, List.append_assoc]
      have := cut_first (low (un64 t) 64) (low v 64 ++ q)
      rwa [l1] at this
    have c2 : cut (putK k s t v ++ q) 64 64 = low v 64 := by
      unfold putK
      rw [e1, e2, List.append_assoc]
      have := cut_second (low (un64 t) 64) (low v 64) q
      rwa [l1, l2] at this
    have n1 : num (low (un64 t) 64) = un64 t := by rw [num_low]; exact Nat.mod_eq_of_lt (by have := un64_lt t; omega)
    have n2 : num (low v 64) = v := by rw [num_low]; exact Nat.mod_eq_of_lt (by omega)
    have hl : (putK k s t v).length = 128 := by unfold putK; rw [e1, e2, List.length_append, l1, l2]
    unfold firstK
    rw [if_neg (by rw [List.length_append, hl]; omega), c1, c2, n1, n2, un64_back ht, hl]
    unfold nextK afterK
    rw [if_pos h0, if_pos h0]
  · right
    refine ⟨h0, stepT s t, (timeK s t).length, 0, v, (if k = 1 then nextX s.x v else zeroX), (valK k s v).length, 0, ?_, ?_, ?_⟩
    · unfold putK
      have e1 : timeK s t = codeD (stepT s t) := by unfold timeK; rw [if_neg h0]
      rw [e1, List.append_assoc]
      exact dgets_put (stepT_in s t) _
    · have e1 : (putK k s t v ++ q).drop (timeK s t).length = valK k s v ++ q := by
        unfold putK
        rw [List.append_assoc, List.drop_left]
      rw [e1]
      unfold VGets valK
      rw [if_neg h0]
      split
      · have := getX_put hs.x hv q
        rw [this]
        exact ⟨rfl, rfl, rfl, rfl⟩
      · refine ⟨stepE s v, dgets_put (stepE_in s v) _, ?_, rfl⟩
        have h1 := hs.v
        have h2 := hs.e
        unfold stepE w64 un64
        omega
    · have h1 : s.t < t := by
        unfold risesK at hr
        simpa [h0] using hr
      have h2 : w64 (s.t + s.d + stepT s t) = t := by
        have g1 := hs.t
        have g2 := hs.d
        unfold stepT w64
        omega
      unfold laterK
      rw [if_neg (by simp), if_neg (by simp), h2, if_neg (by omega)]
      unfold putK nextK afterK
      rw [if_neg h0, if_neg h0, List.length_append]
      split <;> rfl

end Go.Proofs.YtldodfdbaonmkaaDoor
