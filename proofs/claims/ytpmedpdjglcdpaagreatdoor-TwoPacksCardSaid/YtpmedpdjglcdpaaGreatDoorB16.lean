/- Contracts of the document's cursor: Int, Take, Fail, End. Contracts of the document's cursor: Byte, Fixed, Text. -/
import Derived.Test.YtpmedpdjglcdpaaGreatDoorB02
import Derived.Test.YtpmedpdjglcdpaaGreatDoorB10
import Derived.Deep.RegionHeld3
import Derived.Deep.RegionWith
