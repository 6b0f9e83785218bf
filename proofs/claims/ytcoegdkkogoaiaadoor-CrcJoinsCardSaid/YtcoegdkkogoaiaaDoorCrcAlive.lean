/- The chapter's example is met: the first test of each law. -/
import Derived.Test.YtcoegdkkogoaiaaDoorCrcSum
import Derived.Lib.SlBytesConst
namespace Go.Proofs.YtcoegdkkogoaiaaDoor
open Go.RowKit

theorem Crc.sum_example : Crc.sum [49, 50, 51, 52, 53, 54, 55, 56, 57] = 3421780262 := by decide +kernel

set_option maxHeartbeats 400000 in
theorem alive_any (w : World) (h0 : 0 < w.heap.size) (ht : Tab w) :
    Calls Tryd.prog 10 #[] w fun e w' => e = .returned (.bool true) ∧ Below w.heap.size w w' := by
  have kc := fun (w : World) (C : Array Value) (n c : Nat) => Lib.run_convert_bytes_const (P := Tryd.prog) w 22 5 C n c Tryd.underlying22 Tryd.underlying5
  have hb := bytesNew w [49, 50, 51, 52, 53, 54, 55, 56, 57] _ 5 (9, 10) rfl 9 rfl
  have hbl := belowNew w (.cells (byteCells [49, 50, 51, 52, 53, 54, 55, 56, 57]) 5 (9, 10))
  have ht' := ht.below hbl h0
  have hsum := sum_any _ _ 9 _ _ (by decide) (by simp) ht' hb
  have HC := hide hsum
  clear hsum hb ht'
  rw [Crc.sum_example] at HC
  go_enter Tryd.func10, Tryd.ntmps10
  go_wp2_with (go_at_call 11; refine HC.out.mono ?_; rintro e w' ⟨rfl, hb2⟩)
  go_ret
  exact ⟨rfl, hbl.trans (hb2.mono (by simp))⟩
end Go.Proofs.YtcoegdkkogoaiaaDoor
