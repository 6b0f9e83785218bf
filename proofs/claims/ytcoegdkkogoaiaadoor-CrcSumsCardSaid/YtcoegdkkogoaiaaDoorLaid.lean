/- From what the row lists of the table to its sixteen cells; the world in which the door has laid it. -/
import Derived.Test.YtcoegdkkogoaiaaDoorCrcBit
import Derived.ProofKit
import Derived.LaidMore
import Derived.OpenShut
import Derived.Stop.Joined
import Derived.Lib.LaidTab
namespace Go.Proofs.YtcoegdkkogoaiaaDoor
open Go.ChangeShapes Go.WideShapes Go.ChangeAt Go.WideMaps Go.WideElems Go.RowKit

theorem own : ownKnob Tryd.prog.godebug = none := by kernel_rfl
theorem laidOut : laidOutB Tryd.prog = true := by kernel_rfl
abbrev laidTab : List (String × DataW Unit) := [("firkin/crc.fourShifts", Rows.laid_firkin_crc_fourShifts)]
def tabInts : List Int := Crc.tab.map Int.ofNat
theorem tab_data : (Rows.laid_firkin_crc_fourShifts : DataW Unit) = Lib.tabData .u32 tabInts := by rfl
theorem door_met (os : Os) (args : Array Value) : laidMetH Tryd.prog laidTab ((World.doorLaid Tryd.prog 400 os).forCall (fun _ _ => 0) ⟨#[], args, []⟩).memory :=
  laidMetH_of_parts3 (fuel := 8) (laidMet_of_run' 8 (by kernel_rfl) (by kernel_rfl)) (by kernel_rfl) (by kernel_rfl)
theorem tab_of_laid {W : World} (h : laidMetH Tryd.prog laidTab W) : Tab W := by
  rw [MakeChecks.laidMetH_plain _ _ _ (by kernel_rfl)] at h
  have g0 : Tryd.prog.globalNamed "firkin/crc.fourShifts" = some 0 := by kernel_rfl
  have h1 : laidMet Tryd.prog (("firkin/crc.fourShifts", Lib.tabData .u32 tabInts) :: []) W := h
  have h2 := Lib.tabIs_of_head g0 (t := 50) (by kernel_rfl) Tryd.underlying50 Tryd.underlying25 (by kernel_rfl) (by kernel_rfl) h1
  intro i hi
  have h3 := World.var?_cell g0 h2 i
  rw [h3]
  have : ∀ i, i < 16 → (tabInts.map fun z => Value.int .u32 z).toArray[i]? = some (.int .u32 ((Crc.tab.getD i 0 : Nat) : Int)) := by
    intro i hi
    simp only [tabInts, List.map_map, List.getElem?_toArray, List.getElem?_map]
    have hl : Crc.tab.length = 16 := rfl
    rw [List.getD_eq_getElem?_getD, List.getElem?_eq_getElem (by omega)]
    rfl
  exact this i hi
/-- A slice of bytes that came in: what it reads as. -/
theorem open_bytes {H : Type} {enc : TypeId × Value → H} {W : World} {a : Option Addr} {n c : Nat} {d : DataW H} {p : List MemPlace} (h : DataW.Trod enc Tryd.prog W 0 (fun _ => true) true 22 (.slice a n c) d p) :
    ∃ l : List UInt8, n ≤ c ∧ c ≤ maxLen ∧ Bytes W W.heap.size a n l := by
  obtain ⟨fuel, hf⟩ := h
  rcases open_ints Tryd.underlying22 Tryd.underlying5 (by kernel_rfl) hf with ⟨hcs, _⟩ | ⟨x, l, c, zs, hcs, _, hl, hm, hz, _, hcell, hwz⟩
  · simp [Value.cells] at hcs
    obtain ⟨rfl, rfl, rfl⟩ := hcs
    exact ⟨[], by omega, by unfold maxLen; omega, Bytes.none _ _ _⟩
  · simp [Value.cells] at hcs
    obtain ⟨rfl, rfl, rfl⟩ := hcs
    have hz' : zs.length = c := by simpa using hz
    refine ⟨(zs.take n).map fun z => UInt8.ofNat z.toNat, hl, hm, by simp; omega, ?_⟩
    rcases Nat.eq_zero_or_pos n with h0 | h0
    · exact .inl h0
    obtain ⟨b, off, spot⟩ := x
    have hc0 := hcell 0 (by omega)
    have hspot : spot = none := by simpa [Addr.add] using World.cell?_spot hc0
    subst hspot
    refine .inr ⟨b, off, rfl, by simpa [Addr.add] using World.block_lt_of_cell? W _ hc0, fun i hi => ?_⟩
    have h1 := hcell i (by omega)
    have hr : 0 ≤ zs.getD i 0 ∧ zs.getD i 0 ≤ 255 := by
      have := range_u8 hwz i
      rwa [List.getD_eq_getElem?_getD]
    have e : ((((zs.take n).map fun z => UInt8.ofNat z.toNat).getD i 0).toNat : Int) = zs.getD i 0 := by
      have hi' : i < zs.length := by omega
      simp only [List.getD_eq_getElem?_getD, List.getElem?_map, List.getElem?_take, if_pos hi, List.getElem?_eq_getElem hi', Option.map_some, Option.getD_some] at hr ⊢
      rw [UInt8.toNat_ofNat']
      omega
    rw [e]
    have hadd : (⟨b, off, none⟩ : Addr).add i = ⟨b, off + i, none⟩ := by unfold Addr.add; split <;> simp_all
    rwa [hadd] at h1
theorem Tab.pos {w : World} (h : Tab w) : 0 < w.heap.size := World.block_lt_of_cell? w _ (h 0 (by omega))
end Go.Proofs.YtcoegdkkogoaiaaDoor
