/- What arguments that came in read as: slices of bytes, and slices of those. What a slice of calls (Op) that came in reads as. -/
import Derived.Test.YtaogpmombefmmaaGreatDoorB02
import Derived.ProofKit
import Derived.OpenShut
import Derived.Deep.Slices
import Derived.Deep.Strs
namespace Go.Proofs.YtaogpmombefmmaaGreatDoor
section
open Go.ChangeShapes Go.WideShapes Go.ChangeAt Go.WideMaps Go.WideElems Go.RowKit
theorem own:ownKnob Tryz.prog.godebug=none:=by kernel_rfl
theorem laidOut:laidOutB Tryz.prog=true:=by kernel_rfl
end
end Go.Proofs.YtaogpmombefmmaaGreatDoor
