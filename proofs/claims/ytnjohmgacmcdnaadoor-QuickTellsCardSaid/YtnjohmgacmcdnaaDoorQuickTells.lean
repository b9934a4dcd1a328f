/-
  QuickTells, walked: it returns true, whatever the arguments.
-/
import Derived.Test.YtnjohmgacmcdnaaDoorQuickUp
import Derived.Test.YtnjohmgacmcdnaaDoorRefSlow
import Derived.Test.YtnjohmgacmcdnaaDoorWords
namespace Go.Proofs.YtnjohmgacmcdnaaDoor
open Go.RowKit

set_option maxRecDepth 20000 in
set_option maxHeartbeats 1000000 in
theorem qtells_big (A : Option Addr) (m c : Nat) (z n : Int) (w : World) (_hl : m ≤ 9223372036854775807) (h : 600 < m) (hT : TabsW w) :
    Calls Tryd.prog 3 #[.int .i64 z, .slice A m c, .int .i64 n] w (RetTrue w) := by
  go_enter Tryd.func3, Tryd.ntmps3
  go_wp2_with (go_at_call 5; refine (up12_any _ hT).mono ?_; rintro e w1 ⟨rfl, hb1⟩)
  go_ret
  exact ⟨rfl, hb1⟩

set_option maxRecDepth 20000 in
set_option maxHeartbeats 4000000 in
theorem qtells_in (A : Option Addr) (m c : Nat) (z n : Int) (bs : List Nat) (w : World) (hn : -9223372036854775808 ≤ n ∧ n ≤ 9223372036854775807) (h1 : Rd w w.heap.size A m c bs) (hb : ∀ x ∈ bs, x < 256) (hm : m ≤ 600) (hT : TabsW w) :
    Calls Tryd.prog 3 #[.int .i64 z, .slice A m c, .int .i64 n] w (RetTrue w) := by
  have HB := Lib.hid hb
  have HLE : Hid (∀ xs e, DecA z bs n xs e → xs.length ≤ 100000) := Lib.hid fun xs e h => h.many
  clear hb
  go_enter Tryd.func3, Tryd.ntmps3
  go_wp2_with fail
  refine (up12_any w hT).mono ?_
  rintro e w1 ⟨rfl, hb1⟩
  go_wp2_with fail
  refine (quickdec_any A m c bs z n w1 hn ((h1.below hb1).more hb1.size) HB.out (by omega) (hT.bel hb1)).mono ?_
  rintro e w2 ⟨xs, er, A2, c2, hd, rfl, ho2⟩
  have hb2 := hb1.trans (ho2.bel.mono hb1.size)
  have hr2 := ho2.rd
  clear ho2 hb1
  go_wp2_with fail
  refine (rslowdec_any A m c bs z n w2 hn ((h1.below hb2).more hb2.size) HB.out (by omega)).mono ?_
  rintro e w3 ⟨xs', er', A3, c3, hd', rfl, ho3⟩
  obtain ⟨rfl, rfl⟩ := hd.same hd'
  have hb3 := hb2.trans (ho3.bel.mono hb2.size)
  have hr3 := ho3.rd
  replace hr2 := (hr2.below ho3.bel).more ho3.bel.size
  have he6 := hd.le
  have hxl := HLE.out _ _ hd
  clear ho3 hb2 hd hd' h1
  obtain ⟨L, HL⟩ : ∃ L, Hid (xs.length = L) := ⟨_, Lib.hid rfl⟩
  rw [HL.out] at hr2 hr3 hxl ⊢
  have hS := same_any A2 A3 L c2 L c3 xs xs w3 hr2 hr3 (by omega) (by omega)
  have hC := fun X => code_any er X (by omega)
  clear hr2 hr3
  go_wp2_with fail
  refine hS.mono ?_
  rintro e w5 ⟨⟨b, rfl, hb⟩, hb5⟩
  obtain rfl := hb.2 (by first | rfl | trivial)
  clear hS hb
  go_wp2_with fail
  refine (hC _).mono ?_
  rintro e w6 ⟨rfl, rfl⟩
  clear hC
  go_wp2
  go_ret
  exact ⟨rfl, hb3.trans (hb5.mono hb3.size)⟩

end Go.Proofs.YtnjohmgacmcdnaaDoor
