/- Contracts of the cut of a sum, the program's and the document's. Plain facts: bits that are turned side by side are told by the sum. -/
import Derived.Test.YtpmedpdjglcdpaaGreatDoorB03
import Derived.Deep.RegionHeld3
import Derived.Deep.RegionWith
