/- Are two rows of bytes the same? -/
import Derived.Test.YtlelcapbpkccjaaOwn
namespace Go.Proofs.Ytlelcapbpkccjaa
open Go.RowKit

def sameB (a b : List UInt8) : Bool := decide (a = b)
theorem sameB_true {a b : List UInt8} (h : a = b) : sameB a b = true := decide_eq_true h
theorem sameB_false {a b : List UInt8} (h : a ≠ b) : sameB a b = false := decide_eq_false h
end Go.Proofs.Ytlelcapbpkccjaa
