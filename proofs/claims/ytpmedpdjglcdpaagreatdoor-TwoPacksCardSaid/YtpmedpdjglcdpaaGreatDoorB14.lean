/- Contracts of the document's reader: Left, Peek, Get, Skip, Unary, Pad. Contracts of the document's reader: Get, Skip, Unary, Pad. The document's example; a new reader. A writer of the program and one of the document, side by side. The contract of the document's Reader: what makes it. -/
import Derived.Test.YtpmedpdjglcdpaaGreatDoorB10
import Derived.Test.YtpmedpdjglcdpaaGreatDoorB11
import Derived.Deep.RegionLaw
namespace Go.Proofs.YtpmedpdjglcdpaaGreatDoor
section
open Go.RowKit
theorem Wrt.new (w:World):Wrt (w.alloc (.cells #[.slice none 0 0,.int .i64 0] 168)) w.heap.size w.heap.size none [] :=
 ⟨.slice none 0 0,[],⟨Whole.new w _ _,OwnB.nil _ _,by simp[Value.ownBlock],Nat.le_refl _⟩,Bit.Packs.nil,rfl⟩
end
section
open Go.RowKit
theorem RefW.new (w:World):RefW (w.alloc (.cells #[.slice none 0 0] 121)) w.heap.size w.heap.size none [] :=
 ⟨.slice none 0 0,Whole.new w _ _,OwnB.nil _ _,by simp[Value.ownBlock],Nat.le_refl _,rfl⟩
end
end Go.Proofs.YtpmedpdjglcdpaaGreatDoor
