/- The beginning of a slice of bytes; numbers of 64 bits. -/
import Derived.Test.YtaogpmombefmmaaGreatDoorB07
import Derived.OpenShut
namespace Go.Proofs.YtaogpmombefmmaaGreatDoor
section
open Go.RowKit
def IsI64 (x:Int):Prop:=-9223372036854775808≤x∧x≤9223372036854775807
open Go.WideMaps in
end
end Go.Proofs.YtaogpmombefmmaaGreatDoor
