/- The library's sort at the program's items: its contract laid at this program, and what it leaves of a row of the call's own. -/
import Derived.Test.YtijelijooecoeaaLenPLeaves
import Derived.Shelf.SlSortCmp.NoneTotal
import Derived.Ground.SlsfProg
namespace Go.Proofs.Ytijelijooecoeaa
open Go.Shelf Go.RowKit Go.Sort Len
def laysSort_ren : Go.Shelf.Ren := ⟨fun | 6 => 27 | 15 => 32 | 14 => 31 | 28 => 43 | 29 => 44 | 20 => 35 | 21 => 36 | 22 => 37 | 23 => 38 | 24 => 39 | 25 => 40 | 26 => 41 | 27 => 42 | 46 => 46 | 47 => 47 | 48 => 48 | 49 => 49 | 50 => 50 | 57 => 51 | n => n, fun | 22 => 46 | 24 => 41 | 25 => 45 | 3 => 3 | 39 => 66 | 0 => 0 | 53 => 36 | 55 => 32 | 4 => 4 | 46 => 73 | 45 => 72 | 50 => 77 | 5 => 5 | 9 => 9 | 66 => 82 | 70 => 86 | 76 => 88 | 77 => 89 | n => n, fun | n => n⟩
theorem laysSort : Go.Proofs.SlLaysF0.n6 Try.prog laysSort_ren := {
  mixed := by kernel_rfl
  f6 := ⟨Try.f27.name, by decide, Try.func27.trans (congrArg some (by kernel_rfl))⟩
  f14 := ⟨Try.f31.name, by decide, Try.func31.trans (congrArg some (by kernel_rfl))⟩
  f15 := Try.func32.trans (congrArg some (by kernel_rfl))
  f20 := ⟨Try.f35.name, by decide, Try.func35.trans (congrArg some (by kernel_rfl))⟩
  f21 := ⟨Try.f36.name, by decide, Try.func36.trans (congrArg some (by kernel_rfl))⟩
  f22 := ⟨Try.f37.name, by decide, Try.func37.trans (congrArg some (by kernel_rfl))⟩
  f23 := ⟨Try.f38.name, by decide, Try.func38.trans (congrArg some (by kernel_rfl))⟩
  f24 := ⟨Try.f39.name, by decide, Try.func39.trans (congrArg some (by kernel_rfl))⟩
  f25 := ⟨Try.f40.name, by decide, Try.func40.trans (congrArg some (by kernel_rfl))⟩
  f26 := ⟨Try.f41.name, by decide, Try.func41.trans (congrArg some (by kernel_rfl))⟩
  f27 := ⟨Try.f42.name, by decide, Try.func42.trans (congrArg some (by kernel_rfl))⟩
  f28 := Try.func43.trans (congrArg some (by kernel_rfl))
  f29 := Try.func44.trans (congrArg some (by kernel_rfl))
  f46 := ⟨Try.f46.name, by decide, Try.func46.trans (congrArg some (by kernel_rfl))⟩
  f47 := Try.func47.trans (congrArg some (by kernel_rfl))
  f48 := Try.func48.trans (congrArg some (by kernel_rfl))
  f49 := ⟨Try.f49.name, by decide, Try.func49.trans (congrArg some (by kernel_rfl))⟩
  f50 := ⟨Try.f50.name, by decide, Try.func50.trans (congrArg some (by kernel_rfl))⟩
  f57 := ⟨Try.f51.name, by decide, Try.func51.trans (congrArg some (by kernel_rfl))⟩
  t0 := Try.underlying0
  a0 := Try.isAgg0
  z0 := Try.sizeOf0
  v0 := Try.zeroValue0
  t3 := Try.underlying3
  a3 := Try.isAgg3
  z3 := Try.sizeOf3
  v3 := Try.zeroValue3
  t4 := Try.underlying4
  a4 := Try.isAgg4
  z4 := Try.sizeOf4
  v4 := Try.zeroValue4
  t5 := Try.underlying5
  a5 := Try.isAgg5
  z5 := Try.sizeOf5
  v5 := Try.zeroValue5
  t9 := Try.underlying9
  a9 := Try.isAgg9
  z9 := Try.sizeOf9
  v9 := Try.zeroValue9
  t22 := Try.underlying46
  a22 := Try.isAgg46
  z22 := Try.sizeOf46
  v22 := Try.zeroValue46
  t25 := Try.underlying45
  a25 := Try.isAgg45
  z25 := Try.sizeOf45
  v25 := Try.zeroValue45
  t39 := Try.underlying66
  a39 := Try.isAgg66
  z39 := Try.sizeOf66
  v39 := Try.zeroValue66
  t45 := Try.underlying72
  a45 := Try.isAgg72
  z45 := Try.sizeOf72
  v45 := Try.zeroValue72
  t46 := Try.underlying73
  a46 := Try.isAgg73
  z46 := Try.sizeOf73
  v46 := Try.zeroValue73
  t50 := Try.underlying77
  a50 := Try.isAgg77
  z50 := Try.sizeOf77
  v50 := Try.zeroValue77
  t53 := Try.underlying36
  a53 := Try.isAgg36
  z53 := Try.sizeOf36
  v53 := Try.zeroValue36
  t55 := Try.underlying32
  a55 := Try.isAgg32
  z55 := Try.sizeOf32
  v55 := Try.zeroValue32
  t66 := Try.underlying82
  a66 := Try.isAgg82
  z66 := Try.sizeOf82
  v66 := Try.zeroValue82
  t70 := Try.underlying86
  a70 := Try.isAgg86
  z70 := Try.sizeOf86
  v70 := Try.zeroValue86
  t76 := Try.underlying88
  a76 := Try.isAgg88
  z76 := Try.sizeOf88
  v76 := Try.zeroValue88
  t77 := Try.underlying89
  a77 := Try.isAgg89
  z77 := Try.sizeOf89
  v77 := Try.zeroValue89 }
theorem flat_pC (L : List PI) : flatK pC 2 L.toArray = (L.flatMap pC).toArray := by
  apply Array.ext
  · rw [size_flatK, List.size_toArray, List.size_toArray, pC_len]
  · intro i h1 h2
    rw [size_flatK, List.size_toArray] at h1
    have h3 := get_flatK pC 2 L.toArray i (by simpa using h1)
    rw [getElem!_pos _ i (by rw [size_flatK, List.size_toArray]; exact h1)] at h3
    rw [h3]
    have hi : i / 2 < L.length := by omega
    have hd : i = i / 2 * 2 + i % 2 := by omega
    have h4 := pC_get L (i / 2) (i % 2) hi (by omega)
    rw [← hd, List.getElem?_eq_getElem (by rw [pC_len]; exact h1)] at h4
    rw [List.getElem_toArray]
    rw [getElem!_pos L.toArray (i / 2) (by simpa using hi), List.getElem_toArray]
    rw [List.getD_eq_getElem?_getD, List.getElem?_eq_getElem hi, Option.getD_some] at h4
    have hm : i % 2 < (pC L[i / 2]).length := by simp [pC]; omega
    rw [List.getElem?_eq_getElem hm] at h4
    rw [getElem!_pos (pC L[i / 2]) (i % 2) hm]
    exact (Option.some.inj h4).symm
section
variable {w : World} {g cap n m : Nat} {os : Array Obj} {cur : Array Value} {e : TypeId} {L : List PI}
theorem holds_row (hb : w.heap[g]? = some (.cells cur e (0, 0))) (ht : cur.toList.take (L.length * 2) = L.flatMap pC) : HoldsK pC 2 w g 0 L.toArray := by
  unfold HoldsK
  rw [flat_pC]
  intro j hj
  have hj' : j < L.length * 2 := by rw [List.size_toArray, pC_len] at hj; exact hj
  rw [Nat.zero_add]
  refine ⟨?_, frozen_of_row w g j cur e hb⟩
  rw [cell_of_row w g j cur e (0, 0) hb]
  have h1 : (cur.toList.take (L.length * 2))[j]? = (L.flatMap pC)[j]? := by rw [ht]
  rw [List.getElem?_take_of_lt hj', Array.getElem?_toList] at h1
  rw [h1, getElem!_pos _ j hj, List.getElem_toArray, List.getElem?_eq_getElem (by rw [pC_len]; exact hj')]
  rfl
theorem heap_row (F : Array Value) (hb : w.heap[g]? = some (.cells cur e (0, 0))) : (grow (putRow id (Go.Sort.ahead w n) g 0 F) os).heap[g]? = some (.cells (putCells id 0 F cur) e (0, 0)) := by
  have hg : g < w.heap.size := (Array.getElem?_eq_some_iff.1 hb).1
  rw [heap_grow_old _ _ (by simpa using hg)]
  simp [putRow, mapBlock, Go.Sort.ahead, Array.getElem?_modify, hb, onCells]
theorem grown_row (F : Array Value) : w.grownBy (grow (putRow id (Go.Sort.ahead w n) g 0 F) os) (some g) := by
  refine ⟨rfl, rfl, rfl, by simp, fun k hk hne => ?_⟩
  rw [heap_grow_old _ _ (by simpa using hk)]
  have : g ≠ k := fun e => hne (by rw [e])
  simp [putRow, mapBlock, Go.Sort.ahead, Array.getElem?_modify, this]
theorem take_row (F : Array Value) (h : F.size ≤ cur.size) : (putCells id 0 F cur).toList.take F.size = F.toList := by
  apply List.ext_getElem?
  intro j
  by_cases hj : j < F.size
  · rw [List.getElem?_take_of_lt hj, Array.getElem?_toList]
    simp [putCells, hj, show j < cur.size by omega]
  · rw [List.getElem?_take_eq_none (by omega), List.getElem?_eq_none (by simp; omega)]
end
theorem swo_ltP : SWO (ltOf cmpPI) where
  irrefl x := by
    rw [← Bool.not_eq_true]
    intro h
    have := (ltP_iff (x := x) (y := x)).1 h
    unfold LexP at this
    omega
  trans x y z h1 h2 := by
    have k1 := (ltP_iff (x := x) (y := y)).1 h1
    have k2 := (ltP_iff (x := y) (y := z)).1 h2
    refine (ltP_iff (x := x) (y := z)).2 ?_
    unfold LexP at *
    omega
  ntrans x y z h1 h2 := by
    rw [← Bool.not_eq_true] at *
    intro h
    have k := (ltP_iff (x := x) (y := z)).1 h
    have k1 : ¬ LexP x y := fun h => h1 ((ltP_iff (x := x) (y := y)).2 h)
    have k2 : ¬ LexP y z := fun h => h2 ((ltP_iff (x := y) (y := z)).2 h)
    unfold LexP at *
    omega
theorem sortC_holds : SortC := by
  intro w base v L hO hL
  have hone : ∀ x : PI, ∀ u ∈ pC x, u.oneCell' = true := fun x u hu => by
    simp only [pC, List.mem_cons, List.not_mem_nil, or_false] at hu
    rcases hu with rfl | rfl <;> rfl
  rcases hO.2 with ⟨rfl, h0⟩ | ⟨g, cap, cur, rfl, hb, hgg, hn, hc, hs, ht⟩
  · obtain rfl := List.eq_nil_of_length_eq_zero h0
    refine (AnyF.slices_SortFunc_none laysSort none 0 (.func (.func 17) #[] #[]) w).mono ?_
    rintro e w' ⟨rfl, rfl⟩
    exact ⟨rfl, by unfold sortP; rw [List.mergeSort_nil]; exact hO, World.grownBy.refl _ _⟩
  · have hcon := AnyQ.slices_SortFunc_total laysSort 2 Try.isAgg41 Try.sizeOf41 pC (fun _ => rfl) hone cmpPI swo_ltP 17 #[] g 0 cap L.toArray w (enters_of Try.func17 (by kernel_rfl) rfl)
      (fun _ _ _ _ x y => (order_any x y _).mono fun e w' ⟨he, q, os, hw⟩ => ⟨he, q, os, hw⟩) (holds_row hgg ht) (Array.getElem?_eq_some_iff.1 hgg).1 (by rw [List.size_toArray]; omega) (fun x y h1 h2 => by
        have k1 : ¬ LexP x y := fun h => by rw [show ltOf cmpPI x y = true from (ltP_iff (x := x) (y := y)).2 h] at h1; cases h1
        have k2 : ¬ LexP y x := fun h => by rw [show ltOf cmpPI y x = true from (ltP_iff (x := y) (y := x)).2 h] at h2; cases h2
        unfold LexP at k1 k2
        exact Prod.ext (by omega) (by omega))
    rw [List.size_toArray] at hcon
    refine hcon.mono ?_
    rintro e w' ⟨rfl, n, os, rfl⟩
    have hsl : (sortP L).length = L.length := List.length_mergeSort _
    refine ⟨rfl, ⟨by rw [pC_len], .inr ⟨g, cap, _, by rw [hsl], hb, heap_row _ hgg, by rw [hsl]; exact hn, hc, by simp [putCells, hs], ?_⟩⟩, grown_row _⟩
    rw [show (L.toArray.toList.mergeSort fun x y => !ltOf cmpPI y x).toArray = (sortP L).toArray from rfl, flat_pC]
    have h3 := take_row (cur := cur) ((sortP L).flatMap pC).toArray (by rw [List.size_toArray, pC_len, hs, hsl]; omega)
    rw [List.size_toArray, pC_len] at h3
    exact h3
end Go.Proofs.Ytijelijooecoeaa
