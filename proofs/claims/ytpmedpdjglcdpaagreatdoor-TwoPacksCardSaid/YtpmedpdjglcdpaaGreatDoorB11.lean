/- Contracts of the library's LeadingZeros8 and of the row's zerosFrom. Contracts of the reader: NewReader, Left, Get, Skip, Peek, Unary, Pad. Contracts of the reader: Peek, Unary, Pad, NewReader. -/
import Derived.Test.YtpmedpdjglcdpaaGreatDoorB02
import Derived.Test.YtpmedpdjglcdpaaGreatDoorB06
import Derived.Test.YtpmedpdjglcdpaaGreatDoorB09
import Derived.Deep.QuietTactic
import Derived.BigQuiet
import Derived.Lib.BitFns
import Derived.Laws.Tables
namespace Go.Proofs.YtpmedpdjglcdpaaGreatDoor
section
open Go.RowKit
theorem JB:∀ n:Fin 256,n.val≠0→Lib.bitLen n.val=n.val.log2+1:=by decide +kernel
end
section
open Go.RowKit
namespace Bit
def rest (l:List UInt8)(q:Nat):Nat→Bool:=fun i=>at_ l (q+i)
end Bit
end
end Go.Proofs.YtpmedpdjglcdpaaGreatDoor
