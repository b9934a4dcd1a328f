/-
  What XorBack's walk wants: a state and a value in memory; the region that codes a value, behind its two boxes.
-/
import Derived.Test.YtfehlkilnghhiaaDoorXorUp
import Derived.Test.YtfehlkilnghhiaaDoorXorBits
import Derived.Test.YtfehlkilnghhiaaDoorU64s
import Derived.Test.YtfehlkilnghhiaaDoorWays
import Derived.Test.YtfehlkilnghhiaaDoorIs
import Derived.Test.YtfehlkilnghhiaaDoorFlat
namespace Go.Proofs.YtfehlkilnghhiaaDoor
open Go.RowKit

/-- a state's box, and a value's cell -/
structure Src (w : World) (g : Nat) (s : XS) (ad : Addr) (v : Nat) : Prop where
  b : Box3 w g (.int .u64 (s.prev : Int)) (.int .i64 (s.lead : Int)) (.int .i64 (s.len : Int))
  hv : ad.block < w.heap.size
  v : w.cell? ad = some (.int .u64 (v : Int))
section
variable {w w' : World} {g : Nat} {s : XS} {ad : Addr} {v : Nat}
theorem Src.below (h : Src w g s ad v) (hb : Below w.heap.size w w') : Src w' g s ad v := ⟨h.b.below hb, Nat.lt_of_lt_of_le h.hv hb.size, (hb.cell h.hv).trans h.v⟩
theorem Src.onA (h : Src w g s ad v) (o : Obj) : Src (w.alloc o) g s ad v := h.below ((Below.refl _ _).alloc (Nat.le_refl _) o)
theorem Src.drew (h : Src w g s ad v) : Src w.drew g s ad v := ⟨h.b.drew, h.hv, h.v⟩
theorem Src.set (h : Src w g s ad v) {d : Nat} (hd : g ≠ d) (hd2 : ad.block < d) (k : Nat) (u : Value) : Src (w.setCell ⟨d, k, none⟩ u) g s ad v :=
  ⟨h.b.other hd k u, by simpa using h.hv, (((Below.refl d w).setCell (p := ⟨d, k, none⟩) (Nat.le_refl d) u).cell hd2).trans h.v⟩
end

theorem Mid.keep {w0 w w2 : World} {B : Nat} {v : Value} {bs : List Nat} (h : Mid w0 B w v bs) (hb : Below w.heap.size w w2) : Mid w0 B w2 v bs := by
  refine ⟨⟨h.row.1, ?_⟩, h.bel.trans (hb.mono h.bel.size), h.le⟩
  rcases h.row.2 with h1 | ⟨g, cap, cur, hv, hg, hh, r⟩
  · exact .inl h1
  · refine .inr ⟨g, cap, cur, hv, hg, ?_, r⟩
    rw [hb.block g (by
      rcases Nat.lt_or_ge g w.heap.size with hlt | hge
      · exact hlt
      · rw [Array.getElem?_eq_none hge] at hh; cases hh)]
    exact hh
/-- a value's code in a box of its own, and the state behind it in another one, both new -/
def CodeAt (wr : World) (ck : List Bool) (CM v : Nat) (nx : XS) (gx gs : Nat) (wx : World) : Prop :=
  ∃ A c, BoxAt wx gx (.slice A (pack ck).length c) (.int .i64 (CM : Int)) ∧ Rd wx wx.heap.size A (pack ck).length c (pack ck) ∧ Box3 wx gs (.int .u64 (v : Int)) (.int .i64 (nx.lead : Int)) (.int .i64 (nx.len : Int)) ∧
    Below wr.heap.size wr wx ∧ wr.heap.size ≤ gx ∧ wr.heap.size ≤ gs
section
variable {wr X w : World} {ck : List Bool} {CM v : Nat} {nx : XS} {A : Option Addr} {c : Nat}
theorem codeAt1 (ho : Own X w (.slice A (pack ck).length c) (pack ck)) (hX : Below wr.heap.size wr X) :
    CodeAt wr ck CM v nx w.heap.size (w.heap.size + 1) ((w.alloc (.cells #[.slice A (pack ck).length c, .int .i64 (CM : Int)] 31)).alloc (.cells #[.int .u64 (v : Int), .int .i64 (nx.lead : Int), .int .i64 (nx.len : Int)] 24)) := by
  have hb := hX.trans (ho.bel.mono hX.size)
  have b14 := Box3.new (w.alloc (.cells #[.slice A (pack ck).length c, .int .i64 (CM : Int)] 31)) (.int .u64 (v : Int)) (.int .i64 (nx.lead : Int)) (.int .i64 (nx.len : Int)) 24
  simp only [World.size_alloc] at b14
  exact ⟨A, c, (BoxAt.new w _ _ _).onA _, (ho.rd.onA _).onA _, b14, hb.trans ((two_below w _ _).mono hb.size), hb.size, Nat.le_succ_of_le hb.size⟩
theorem codeAt2 (ho : Own X w (.slice A (pack ck).length c) (pack ck)) (hX : Below wr.heap.size wr X) :
    CodeAt wr ck CM v nx (w.heap.size + 1) w.heap.size ((w.alloc (.cells #[.int .u64 (v : Int), .int .i64 (nx.lead : Int), .int .i64 (nx.len : Int)] 24)).alloc (.cells #[.slice A (pack ck).length c, .int .i64 (CM : Int)] 31)) := by
  have hb := hX.trans (ho.bel.mono hX.size)
  have b13 := BoxAt.new (w.alloc (.cells #[.int .u64 (v : Int), .int .i64 (nx.lead : Int), .int .i64 (nx.len : Int)] 24)) (.slice A (pack ck).length c) (.int .i64 (CM : Int)) 31
  simp only [World.size_alloc] at b13
  exact ⟨A, c, b13, (ho.rd.onA _).onA _, (Box3.new w _ _ _ _).onA _, hb.trans ((two_below w _ _).mono hb.size), Nat.le_succ_of_le hb.size, hb.size⟩
theorem codeAt3 {g : Nat} {u u' : Value} (ho : Own X w (.slice A (pack ck).length c) (pack ck)) (hX : Below wr.heap.size wr X) (x13 : BoxAt w g u u') (hg : wr.heap.size ≤ g) (hl : g < X.heap.size) :
    CodeAt wr ck CM v nx g w.heap.size (((w.setCell ⟨g, 0, none⟩ (.slice A (pack ck).length c)).setCell ⟨g, 1, none⟩ (.int .i64 (CM : Int))).alloc (.cells #[.int .u64 (v : Int), .int .i64 (nx.lead : Int), .int .i64 (nx.len : Int)] 24)) := by
  have hm := ((Mid.of ho hX).set ⟨g, 0, none⟩ (.slice A (pack ck).length c) hg hl).set ⟨g, 1, none⟩ (.int .i64 (CM : Int)) hg hl
  have hn := Box3.new ((w.setCell ⟨g, 0, none⟩ (.slice A (pack ck).length c)).setCell ⟨g, 1, none⟩ (.int .i64 (CM : Int))) (.int .u64 (v : Int)) (.int .i64 (nx.lead : Int)) (.int .i64 (nx.len : Int)) 24
  simp only [World.size_setCell] at hn
  have hb := hX.trans (ho.bel.mono hX.size)
  exact ⟨A, c, (x13.set _ _).onA _, hm.own.rd.onA _, hn, hm.bel.alloc hm.bel.size _, hg, hb.size⟩
theorem codeAt4 {g g' : Nat} {u u' x y z : Value} (ho : Own X w (.slice A (pack ck).length c) (pack ck)) (hX : Below wr.heap.size wr X) (x13 : BoxAt w g u u') (x14 : Box3 w g' x y z) (hne : g ≠ g') (hg : wr.heap.size ≤ g) (hl : g < X.heap.size) (hg' : wr.heap.size ≤ g') (hl' : g' < X.heap.size) :
    CodeAt wr ck CM v nx g g' (((((w.setCell ⟨g, 0, none⟩ (.slice A (pack ck).length c)).setCell ⟨g, 1, none⟩ (.int .i64 (CM : Int))).setCell ⟨g', 0, none⟩ (.int .u64 (v : Int))).setCell ⟨g', 1, none⟩ (.int .i64 (nx.lead : Int))).setCell ⟨g', 2, none⟩ (.int .i64 (nx.len : Int))) := by
  have hm := ((((Mid.of ho hX).set ⟨g, 0, none⟩ (.slice A (pack ck).length c) hg hl).set ⟨g, 1, none⟩ (.int .i64 (CM : Int)) hg hl).set ⟨g', 0, none⟩ (.int .u64 (v : Int)) hg' hl').set ⟨g', 1, none⟩ (.int .i64 (nx.lead : Int)) hg' hl' |>.set ⟨g', 2, none⟩ (.int .i64 (nx.len : Int)) hg' hl'
  exact ⟨A, c, (((x13.set _ _).oth hne 0 _).oth hne 1 _).oth hne 2 _, hm.own.rd, ((x14.other (Ne.symm hne) 0 _).other (Ne.symm hne) 1 _).set _ _ _, hm.bel, hg, hg'⟩
theorem codeAt5 {g : Nat} {x y z : Value} (ho : Own X w (.slice A (pack ck).length c) (pack ck)) (hX : Below wr.heap.size wr X) (x14 : Box3 w g x y z) (hg : wr.heap.size ≤ g) (hl : g < X.heap.size) :
    CodeAt wr ck CM v nx w.heap.size g ((((w.setCell ⟨g, 0, none⟩ (.int .u64 (v : Int))).setCell ⟨g, 1, none⟩ (.int .i64 (nx.lead : Int))).setCell ⟨g, 2, none⟩ (.int .i64 (nx.len : Int))).alloc (.cells #[.slice A (pack ck).length c, .int .i64 (CM : Int)] 31)) := by
  have hm := (((Mid.of ho hX).set ⟨g, 0, none⟩ (.int .u64 (v : Int)) hg hl).set ⟨g, 1, none⟩ (.int .i64 (nx.lead : Int)) hg hl).set ⟨g, 2, none⟩ (.int .i64 (nx.len : Int)) hg hl
  have hn := BoxAt.new (((w.setCell ⟨g, 0, none⟩ (.int .u64 (v : Int))).setCell ⟨g, 1, none⟩ (.int .i64 (nx.lead : Int))).setCell ⟨g, 2, none⟩ (.int .i64 (nx.len : Int))) (.slice A (pack ck).length c) (.int .i64 (CM : Int)) 31
  simp only [World.size_setCell] at hn
  have hb := hX.trans (ho.bel.mono hX.size)
  exact ⟨A, c, hn, hm.own.rd.onA _, (x14.set _ _ _).onA _, hm.bel.alloc hm.bel.size _, hb.size, hg⟩
end

end Go.Proofs.YtfehlkilnghhiaaDoor
