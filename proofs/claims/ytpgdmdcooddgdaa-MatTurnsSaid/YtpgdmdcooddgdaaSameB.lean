/- Are two rows of bytes the same? -/
import Derived.Test.YtpgdmdcooddgdaaOwn
namespace Go.Proofs.Ytpgdmdcooddgdaa
open Go.RowKit

def sameB (a b : List UInt8) : Bool := decide (a = b)
theorem sameB_true {a b : List UInt8} (h : a = b) : sameB a b = true := decide_eq_true h
theorem sameB_false {a b : List UInt8} (h : a ≠ b) : sameB a b = false := decide_eq_false h
end Go.Proofs.Ytpgdmdcooddgdaa
