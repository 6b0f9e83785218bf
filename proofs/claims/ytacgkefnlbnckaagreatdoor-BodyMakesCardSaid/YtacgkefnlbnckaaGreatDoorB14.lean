/- Contracts of the document's reader: Left, Peek, Get, Skip, Unary, Pad. Contracts of the document's reader: Get, Skip, Unary, Pad. The document's example; a new reader. A writer of the program and one of the document, side by side. The contract of the document's Reader: what makes it. -/
import Derived.Test.YtacgkefnlbnckaaGreatDoorB10
import Derived.Test.YtacgkefnlbnckaaGreatDoorB11
import Derived.Deep.RegionLaw
namespace Go.Proofs.YtacgkefnlbnckaaGreatDoor
section
open Go.RowKit
theorem Wrt.new (w:World):Wrt (w.alloc (.cells #[.slice none 0 0,.int .i64 0] 164)) w.heap.size w.heap.size none [] :=
 ⟨.slice none 0 0,[],⟨Whole.new w _ _,OwnB.nil _ _,by simp [Value.ownBlock],Nat.le_refl _⟩,Bit.Packs.nil,rfl⟩
end
section
open Go.RowKit
theorem RefW.new (w:World):RefW (w.alloc (.cells #[.slice none 0 0] 112)) w.heap.size w.heap.size none [] :=
 ⟨.slice none 0 0,Whole.new w _ _,OwnB.nil _ _,by simp [Value.ownBlock],Nat.le_refl _,rfl⟩
end
end Go.Proofs.YtacgkefnlbnckaaGreatDoor
