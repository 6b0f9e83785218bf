/- From what the row lists of the table to its sixteen cells; the world in which the door has laid it. -/
import Derived.Test.YtkfipfhmbhmamaaDoorB02
import Derived.Test.YtkfipfhmbhmamaaDoorB24
import Derived.ProofKit
import Derived.LaidMore
import Derived.OpenShut
import Derived.Stop.Joined
import Derived.Lib.LaidTab
namespace Go.Proofs.YtkfipfhmbhmamaaDoor
open Go.ChangeShapes Go.WideShapes Go.ChangeAt Go.WideMaps Go.WideElems Go.RowKit

abbrev laidTab : List (String × DataW Unit) := [("firkin/crc.fourShifts", Rows.laid_firkin_crc_fourShifts)]
def tabInts : List Int := Crc.tab.map Int.ofNat
theorem tab_data : (Rows.laid_firkin_crc_fourShifts : DataW Unit) = Lib.tabData .u32 tabInts := by rfl
theorem door_met (os : Os) (args : Array Value) : laidMetH Tryd.prog laidTab ((World.doorLaid Tryd.prog 400 os).forCall (fun _ _ => 0) ⟨#[], args, []⟩).memory :=
  laidMetH_of_parts3 (fuel := 8) (laidMet_of_run' 8 (by kernel_rfl) (by kernel_rfl)) (by kernel_rfl) (by kernel_rfl)
theorem tab_of_laid {W : World} (h : laidMetH Tryd.prog laidTab W) : Tab W := by
  rw [MakeChecks.laidMetH_plain _ _ _ (by kernel_rfl)] at h
  have g0 : Tryd.prog.globalNamed "firkin/crc.fourShifts" = some 0 := by kernel_rfl
  have h1 : laidMet Tryd.prog (("firkin/crc.fourShifts", Lib.tabData .u32 tabInts) :: []) W := h
  have h2 := Lib.tabIs_of_head g0 (t := 125) (by kernel_rfl) Tryd.underlying125 Tryd.underlying72 (by kernel_rfl) (by kernel_rfl) h1
  intro i hi
  have h3 := World.var?_cell g0 h2 i
  rw [h3]
  have : ∀ i, i < 16 → (tabInts.map fun z => Value.int .u32 z).toArray[i]? = some (.int .u32 ((Crc.tab.getD i 0 : Nat) : Int)) := by
    intro i hi
    simp only [tabInts, List.map_map, List.getElem?_toArray, List.getElem?_map]
    have hl : Crc.tab.length = 16 := rfl
    rw [List.getD_eq_getElem?_getD, List.getElem?_eq_getElem (by omega)]
    rfl
  exact this i hi
theorem Tab.pos {w : World} (h : Tab w) : 0 < w.heap.size := World.block_lt_of_cell? w _ (h 0 (by omega))
end Go.Proofs.YtkfipfhmbhmamaaDoor

