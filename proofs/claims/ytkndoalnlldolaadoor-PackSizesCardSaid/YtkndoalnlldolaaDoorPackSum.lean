/-
  The contract of the program's summed: a chunk's bytes, with their sum behind them.
-/
import Derived.Test.YtkndoalnlldolaaDoorChunks
import Derived.Test.YtkndoalnlldolaaDoorPack1
import Derived.Test.YtkndoalnlldolaaDoorCrc
namespace Go.Proofs.YtkndoalnlldolaaDoor
open Go.RowKit

theorem lit_four {w0 w : World} (h : Below w0.heap.size w0 w) (a b c d : Nat) : Own w0 (w.alloc (.cells #[.int .u8 (a : Int), .int .u8 (b : Int), .int .u8 (c : Int), .int .u8 (d : Int)] 5)) (.slice (some ⟨w.heap.size, 0, none⟩) 4 4) [a, b, c, d] :=
  ⟨World.ownsRow_lit w #[.int .u8 (a : Int), .int .u8 (b : Int), .int .u8 (c : Int), .int .u8 (d : Int)] 4 h.size (by unfold maxLen; omega) rfl, h.alloc h.size _⟩
theorem big_four {v : Nat} (h : v < 4294967296) : bigB 4 v = [v / 16777216, v / 65536 % 256, v / 256 % 256, v % 256] := by
  rw [bigB_cons, bigB_cons, bigB_cons, bigB_cons]
  have : v / 16777216 % 256 = v / 16777216 := by omega
  simp [bigB, this]
theorem enc_ok {k : Nat} {xs : List (Int × Nat)} (h1 : xs.length ≠ 0) (hk : k = 1 ∨ k = 2) (hr : Rises xs) : EncE (k : Int) xs 0 := .inr ⟨h1, .inr ⟨k, rfl, hk, .inr ⟨hr, rfl⟩⟩⟩

/-- what summed comes to -/
def RetSum (w : World) (k : Nat) (xs : List (Int × Nat)) (e : Ending) (w' : World) : Prop :=
  ∃ A c, e = .returned (.tuple #[.slice A (sumQ k xs).length c, .nilIface]) ∧ Own w w' (.slice A (sumQ k xs).length c) (sumQ k xs)

set_option maxRecDepth 20000 in
set_option maxHeartbeats 1000000 in
theorem summed_any (k : Nat) (A : Option Addr) (n c : Nat) (xs : List (Int × Nat)) (w : World) (h : RdQ w w.heap.size A n c xs) (h1 : 1 ≤ n) (hn : n ≤ 5000) (hk : k = 1 ∨ k = 2) (hr : Rises xs) (hR : RoomW w) (hT : TzW w) :
    Calls Tryd.prog 13 #[.int .i64 (k : Int), .slice A n c] w (RetSum w k xs) := by
  have HL := Lib.hid h.len
  have HE := Lib.hid (enc_ok (by rw [HL.out]; omega) hk hr)
  have hE := encode_any A n c (k : Int) xs w h hn hR hT
  have HB : Hid (pack (encP (k : Int) xs 0) = bytQ k xs) := Lib.hid (by unfold encP bytQ; rw [if_pos rfl]; rfl)
  have HBL : Hid ((bytQ k xs).length ≤ 100000) := Lib.hid (by have := byt_len (k := k) h.all; rw [HL.out] at this; omega)
  have HLT := Lib.hid (byt_lt k xs)
  have HSQ : Hid (sumQ k xs = bytQ k xs ++ bigB 4 (crcS (bytQ k xs))) := Lib.hid rfl
  clear h hr hR hT
  go_enter Tryd.func13, Tryd.ntmps13
  go_wp2_with fail
  refine hE.mono ?_
  rintro e w1 ⟨er, A1, c1, her, rfl, ho1⟩
  obtain rfl := her.same HE.out
  rw [HB.out] at ho1 ⊢
  rw [show errV 0 = .nilIface from rfl]
  clear her hE
  have hlt32 : crcS (bytQ k xs) < 4294967296 := crcS_lt HLT.out
  have hS := sum_any A1 _ c1 _ _ w1 ho1.rd HLT.out (by have := HBL.out; omega)
  generalize bytQ k xs = p at *
  generalize hpl : p.length = pl at *
  replace hpl := Lib.hid hpl
  have HB4 := Lib.hid (big_four hlt32)
  generalize crcS p = cs at *
  go_wp2_with fail
  refine hS.mono ?_
  rintro e w2 ⟨rfl, rfl⟩
  clear hS
  have h4 := lit_four (Below.refl w1.heap.size w1) (cs / 16777216) (cs / 65536 % 256) (cs / 256 % 256) (cs % 256)
  rw [show ((cs / 16777216 : Nat) : Int) = (cs : Int) / 16777216 by omega, show ((cs / 65536 % 256 : Nat) : Int) = (cs : Int) / 65536 % 256 by omega, show ((cs / 256 % 256 : Nat) : Int) = (cs : Int) / 256 % 256 by omega, show ((cs % 256 : Nat) : Int) = (cs : Int) % 256 by omega, ← HB4.out] at h4
  go_wp2_with (at_builtin; (refine wpList_app rfl (.tmp 20) (.tmp 32) rfl rfl rfl (ho1.alloc _) h4.rd (by have := HBL.out; rw [hpl.out]; omega) ?_; intro v3 w3 ho3))
  rw [← HSQ.out] at ho3
  obtain ⟨A3, c3, rfl, _⟩ := ho3.form
  go_ret2
  exact ⟨A3, c3, rfl, ho3⟩

end Go.Proofs.YtkndoalnlldolaaDoor
