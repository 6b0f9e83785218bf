/- The beginning of a slice of bytes; numbers of 64 bits. -/
import Derived.Test.YtpmedpdjglcdpaaGreatDoorB06
import Derived.OpenShut
namespace Go.Proofs.YtpmedpdjglcdpaaGreatDoor
section
open Go.RowKit
def vI (x:Int):Prop:=-9223372036854775808≤x∧x≤9223372036854775807
open Go.WideMaps in
end
end Go.Proofs.YtpmedpdjglcdpaaGreatDoor
