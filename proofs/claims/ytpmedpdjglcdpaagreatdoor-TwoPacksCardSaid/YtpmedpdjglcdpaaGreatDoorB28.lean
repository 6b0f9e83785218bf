/- The document's Read of chapter 17. What the laws of chapter 17 ask of the program; the example; RecsChecks, RecsBytes, RecsGroups, RecsReads, RecsOne. -/
import Derived.Test.YtpmedpdjglcdpaaGreatDoorB02
import Derived.Test.YtpmedpdjglcdpaaGreatDoorB06
import Derived.Test.YtpmedpdjglcdpaaGreatDoorB07
import Derived.Test.YtpmedpdjglcdpaaGreatDoorB08
import Derived.Test.YtpmedpdjglcdpaaGreatDoorB09
import Derived.Test.YtpmedpdjglcdpaaGreatDoorB16
import Derived.Test.YtpmedpdjglcdpaaGreatDoorB19
namespace Go.Proofs.YtpmedpdjglcdpaaGreatDoor
section
open Go.RowKit Rcs Num
theorem Rcs.groups_is (size:Int)(whole:Bool)(l:List Rc):groupsI size whole l=restI (if size<1 then 1 else size) whole l 0:=by simp[groupsI,restI,groupsE,groupsAt]
theorem Yh (size:Int)(whole:Bool)(A:Option Addr)(n c:Nat)(l:List Rc)(w:World)(hs:vI size)(h:RcsAt w w.heap.size A n l)(hw:weightE l≤1000000) :
  Calls Tryz.prog 59 #[.int .i64 size,.bool whole,.slice A n c] w (YA w (groupsI size whole l)):=by
 rw[groups_is]
 unfold vI at hs
 exact YX _ whole A n c l w size (by
  by_cases h1:size<1
  ·exact .inl ⟨h1,by rw[if_pos h1]⟩
  ·exact .inr ⟨by omega,by rw[if_neg h1]⟩) (by split<;>omega) h hw
end
end Go.Proofs.YtpmedpdjglcdpaaGreatDoor
