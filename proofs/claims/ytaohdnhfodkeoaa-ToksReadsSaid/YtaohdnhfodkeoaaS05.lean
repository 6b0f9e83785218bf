/- Contracts of the program's counts of lengths (right, firsts). Contracts of the program's countOut and Check. Contracts of the program's items: itemOf, isRow, write, readItem. Contract of the program's readItem. Contract of the program's Write. The symbols in the order of their words, as the program's table keeps them, and the symbol that the next bits begin with. Plain mathematics of chapter 9. The library's slices.BinarySearch at []uint16. The program's table of a code: length and find. Contract of the program's Codes. The contract of the library's slices.Clone at bytes (named uint8). Lists of numbers of the call's own. The program's tableOf. -/
import Derived.Test.YtaohdnhfodkeoaaS01
import Derived.Test.YtaohdnhfodkeoaaS02
import Derived.Test.YtaohdnhfodkeoaaS03
import Derived.Test.YtaohdnhfodkeoaaS04
import Derived.BigQuiet
import Derived.IntWalk
import Derived.Deep.QuietTactic
import Derived.Lib.SliceRun
import Derived.Laws.OwnMore
import Derived.Maps.AppendAt
import Derived.Deep.RegionLaw
namespace Go.Proofs.Ytaohdnhfodkeoaa
open Go.RowKit Len Can
def Can.cntV (f : Nat → Nat) : Array Value := ((List.range 16).map fun k => Value.int .i64 ((f k : Nat) : Int)).toArray
theorem Can.cntV_size (f : Nat → Nat) : (cntV f).size = 16 := by simp [cntV]
theorem Can.cntV_at (f : Nat → Nat) {k : Nat} (hk : k < 16) : (cntV f)[k]? = some (.int .i64 ((f k : Nat) : Int)) := by simp [cntV, hk]
theorem Can.cntV_one (f : Nat → Nat) : (cntV f).all (·.oneCell') = true := by
  simp [cntV]
  intros
  rfl
theorem cnt_info : (Try.prog.info? 170).map (·.size) = some 16 := by kernel_rfl
set_option maxHeartbeats 2000000 in
set_option maxRecDepth 100000 in
theorem cRight_any (f : Nat → Nat) (hf : ∀ k, f k ≤ 300) (w : World) : Calls Try.prog 111 #[.agg (cntV f)] w fun e w' => e = .returned (.bool (rightF f)) ∧ Ext w w' := by
  have hE1 := extNew w (.cells (cntV f) 170)
  have hW1 := Whole.new w 170 (cntV f)
  have HA := hide (show ∀ k, k < 16 → (cntV f)[k]? = some (.int .i64 ((f k : Nat) : Int)) from fun k hk => cntV_at f hk)
  have HF := hide hf
  have HW0 := hide (show wordsF f 0 = 0 from rfl)
  have HG0 := hide (show weightF f 0 = 0 from rfl)
  have HWS := hide (show ∀ j, wordsF f (j + 1) = wordsF f j + f (j + 1) from fun _ => rfl)
  have HGS := hide (show ∀ j, weightF f (j + 1) = weightF f j + f (j + 1) * 2 ^ (15 - (j + 1)) from fun _ => rfl)
  have HWL := hide (wordsF_le hf)
  have HGL := hide (weightF_le hf)
  have HR := hide (show ∀ r : Prop, ((wordsF f 15 = 0 ∨ wordsF f 15 = 1 ∧ f 1 = 1 ∨ weightF f 15 = 32768) ↔ r) → (r → rightF f = true) ∧ (¬ r → rightF f = false) from fun r hr => ⟨fun h => decide_eq_true (hr.2 h), fun h => decide_eq_false fun h2 => h (hr.1 h2)⟩)
  clear hf
  generalize cntV f = cs at *
  generalize rightF f = res at *
  go_enter Try.func111, Try.ntmps111
  go_wp2
  go_loopw [5, 3, 4] (fun x a b wr => ∃ j u v : Nat, j ≤ 15 ∧ x = .int .i64 ((j + 1 : Nat) : Int) ∧ a = .int .i64 (u : Int) ∧ b = .int .i64 (v : Int) ∧ u = wordsF f j ∧ v = weightF f j ∧ Whole wr w.heap.size 170 cs ∧ Ext w wr) (fun x _ _ _ => 17 - (intOf x).toNat)
  case atStart => exact ⟨0, 0, 0, by omega, rfl, rfl, rfl, HW0.out.symm, HG0.out.symm, hW1, hE1⟩
  case round =>
    obtain ⟨j, u, v, hj, rfl, rfl, rfl, hu, hv, hW, hE⟩ := hrel
    have hub := HWL.out j
    have hvb := HGL.out j
    rw [← hu] at hub
    rw [← hv] at hvb
    by_cases hlt : j < 15
    · have hjI : ((j + 1 : Nat) : Int) ≤ 15 := by omega
      have hc := hW.at (j + 1) (HA.out (j + 1) (by omega))
      have hyl := HF.out (j + 1)
      have HU := HWS.out j
      have HV := HGS.out j
      rw [← hu] at HU
      rw [← hv] at HV
      generalize f (j + 1) = y at *
      have hp : 2 ^ (15 - (j + 1)) ≤ 32768 := Nat.le_trans (Nat.pow_le_pow_right (by omega) (show 15 - (j + 1) ≤ 15 by omega)) (by decide)
      have hyp := Nat.mul_le_mul hyl hp
      have HUh := hide HU
      have HVh := hide HV
      clear HU HV hu hv
      go_wp2
      have hw : wrap64 ((v : Int) + wrap64 ((y : Int) * 2 ^ (14 - j))) = ((v + y * 2 ^ (15 - (j + 1)) : Nat) : Int) := by
        have e : (y : Int) * 2 ^ (14 - j) = ((y * 2 ^ (15 - (j + 1)) : Nat) : Int) := by rw [Int.natCast_mul, Int.natCast_pow, show 15 - (j + 1) = 14 - j by omega]; rfl
        rw [e]
        generalize y * 2 ^ (15 - (j + 1)) = z at *
        unfold wrap64
        omega
      rw [hw]
      go_roundw
      case rel => exact ⟨j + 1, u + y, v + y * 2 ^ (15 - (j + 1)), by omega, by go_num, by go_num, rfl, HUh.out.symm, HVh.out.symm, hW, hE⟩
      case measure => simp [intOf]; omega
    · obtain rfl : j = 15 := by omega
      have hjI : ¬ ((15 + 1 : Nat) : Int) ≤ 15 := by omega
      have HRu := hide (HR.out (u = 0 ∨ u = 1 ∧ f 1 = 1 ∨ v = 32768) (by rw [hu, hv]))
      have hc := hW.at 1 (HA.out 1 (by omega))
      clear hu hv
      generalize f 1 = y at *
      by_cases h0 : u = 0
      · have HK := hide (HRu.out.1 (.inl h0))
        clear HRu
        subst h0
        go_wp2
        go_ret
        exact ⟨ret_bool HK.out.symm, hE⟩
      · have h0b : ((u : Int) == 0) = false := by rw [beq_eq_false_iff_ne]; omega
        by_cases hv : v = 32768
        · have HK := hide (HRu.out.1 (.inr (.inr hv)))
          clear HRu
          subst hv
          by_cases h1 : u = 1
          · subst h1
            by_cases hy : y = 1
            · subst hy
              go_wp2
              go_ret
              exact ⟨ret_bool HK.out.symm, hE⟩
            · have hyb : ((y : Int) == 1) = false := by rw [beq_eq_false_iff_ne]; omega
              go_wp2
              go_ret
              exact ⟨ret_bool HK.out.symm, hE⟩
          · have h1b : ((u : Int) == 1) = false := by rw [beq_eq_false_iff_ne]; omega
            go_wp2
            go_ret
            exact ⟨ret_bool HK.out.symm, hE⟩
        · have hvb2 : ((v : Int) == 32768) = false := by rw [beq_eq_false_iff_ne]; omega
          by_cases h1 : u = 1
          · by_cases hy : y = 1
            · have HK := hide (HRu.out.1 (.inr (.inl ⟨h1, hy⟩)))
              clear HRu
              subst h1
              subst hy
              go_wp2
              go_ret
              exact ⟨ret_bool HK.out.symm, hE⟩
            · have hyb : ((y : Int) == 1) = false := by rw [beq_eq_false_iff_ne]; omega
              have HK := hide (HRu.out.2 (by omega))
              clear HRu
              subst h1
              go_wp2
              go_ret
              exact ⟨ret_bool HK.out.symm, hE⟩
          · have h1b : ((u : Int) == 1) = false := by rw [beq_eq_false_iff_ne]; omega
            have HK := hide (HRu.out.2 (by omega))
            clear HRu
            go_wp2
            go_ret
            exact ⟨ret_bool HK.out.symm, hE⟩
def Can.h16A (f : Nat → Nat) : Array Value := ((List.range 16).map fun k => h16V (f k)).toArray
theorem Can.h16A_size (f : Nat → Nat) : (h16A f).size = 16 := by simp [h16A]
theorem Can.h16A_at (f : Nat → Nat) {k : Nat} (hk : k < 16) : (h16A f)[k]? = some (.int .u16 ((f k : Nat) : Int)) := by simp [h16A, hk, h16V]
theorem Can.h16A_one (f : Nat → Nat) : (h16A f).all (·.oneCell') = true := by
  simp [h16A, h16V]
  intros
  rfl
theorem Can.h16A_set (f g : Nat → Nat) (k x : Nat) (h : ∀ j, j < 16 → g j = if j = k then x else f j) : (h16A f).setIfInBounds k (.int .u16 (x : Int)) = h16A g := by
  apply Array.ext_getElem?
  intro i
  rcases Nat.lt_or_ge i 16 with hi | hi
  · rw [h16A_at g hi, h i hi]
    by_cases e : k = i
    · subst e
      rw [Array.getElem?_setIfInBounds_self_of_lt (by rw [h16A_size]; exact hi), if_pos rfl]
    · rw [Array.getElem?_setIfInBounds_ne e, h16A_at f hi, if_neg (by omega)]
  · rw [Array.getElem?_eq_none (by rw [Array.size_setIfInBounds, h16A_size]; exact hi), Array.getElem?_eq_none (by rw [h16A_size]; exact hi)]
theorem f16_info : (Try.prog.info? 181).map (·.size) = some 16 := by kernel_rfl
def Can.fstTo (l : List UInt8) (n k : Nat) : Nat := if k < n then fst l k else 0
theorem Can.fstTo_one (l : List UInt8) : h16A (fstTo l 1) = #[.int .u16 0, .int .u16 0, .int .u16 0, .int .u16 0, .int .u16 0, .int .u16 0, .int .u16 0, .int .u16 0, .int .u16 0, .int .u16 0, .int .u16 0, .int .u16 0, .int .u16 0, .int .u16 0, .int .u16 0, .int .u16 0] := rfl
theorem Can.fstTo_all (l : List UInt8) : h16A (fstTo l 16) = h16A (fst l) := by
  unfold h16A
  congr 1
theorem Can.fstTo_step (l : List UInt8) {k : Nat} : (h16A (fstTo l k)).setIfInBounds k (.int .u16 (fst l k : Nat)) = h16A (fstTo l (k + 1)) := h16A_set _ _ _ _ fun j _ => by
  unfold fstTo
  by_cases h : j = k
  · rw [if_pos h, if_pos (by omega), h]
  · rw [if_neg h]
    by_cases h2 : j < k
    · rw [if_pos h2, if_pos (by omega)]
    · rw [if_neg h2, if_neg (by omega)]
set_option maxHeartbeats 2000000 in
set_option maxRecDepth 100000 in
theorem cFirsts_any (l : List UInt8) (hr : right l = true) (w : World) : Calls Try.prog 112 #[.agg (cntV (cnt l l.length))] w fun e w' => e = .returned (.agg (h16A (fst l))) ∧ Ext w w' := by
  have hE1 := extNew w (.cells (cntV (cnt l l.length)) 170)
  have hW1 := Whole.new w 170 (cntV (cnt l l.length))
  have HA := hide (show ∀ k, k < 16 → (cntV (cnt l l.length))[k]? = some (.int .i64 ((cnt l l.length k : Nat) : Int)) from fun k hk => cntV_at _ hk)
  have HRoom := hide (show ∀ k, 1 ≤ k → fst l k + cnt l l.length k ≤ 32768 from fun k hk => fst_room hr hk _ (Nat.le_refl _))
  have HNext := hide (show ∀ k, 1 ≤ k → k < 15 → fst l (k + 1) = (fst l k + cnt l l.length k) * 2 from fun k hk h15 => fst_next l hk h15)
  have H1 := hide (fst_one l)
  have HZ := hide (fstTo_one l)
  have HS := hide (show ∀ k, (h16A (fstTo l k)).setIfInBounds k (.int .u16 (fst l k : Nat)) = h16A (fstTo l (k + 1)) from fun k => fstTo_step l)
  have HAll := hide (fstTo_all l)
  have HSz := hide (show ∀ k, (h16A (fstTo l k)).size = 16 from fun k => h16A_size _)
  have HSzA := hide (h16A_size (fst l))
  have HOne := hide (h16A_one (fst l))
  clear hr
  generalize cntV (cnt l l.length) = cs at *
  generalize cnt l l.length = f at *
  have hE2 := (hE1.alloc (.cells (h16A (fstTo l 1)) 181)).alloc (.cells (h16A (fstTo l 1)) 181)
  have hW2 := (hW1.alloc (.cells (h16A (fstTo l 1)) 181)).alloc (.cells (h16A (fstTo l 1)) 181)
  have hR2 := (Whole.new (w.alloc (.cells cs 170)) 181 (h16A (fstTo l 1))).alloc (.cells (h16A (fstTo l 1)) 181)
  have hF2 := Whole.new ((w.alloc (.cells cs 170)).alloc (.cells (h16A (fstTo l 1)) 181)) 181 (h16A (fstTo l 1))
  simp only [World.size_alloc] at hR2 hF2
  go_enter Try.func112, Try.ntmps112
  go_wp2
  rw [← HZ.out]
  obtain ⟨Z, hZ⟩ : ∃ Z, Z = h16A (fstTo l 1) := ⟨_, rfl⟩
  have HZs := hide (show Z.size = 16 by rw [hZ]; exact HSz.out 1)
  rw [← hZ] at hR2
  have HZe := hide hZ
  clear hZ
  go_loopw [5, 4] (fun x a wr => ∃ j s : Nat, j ≤ 15 ∧ x = .int .i64 ((j + 1 : Nat) : Int) ∧ a = .int .i64 (s : Int) ∧ (j < 15 → fst l (j + 1) = s * 2) ∧ s ≤ 32768 ∧ Whole wr w.heap.size 170 cs ∧ Whole wr (w.heap.size + 1) 181 Z ∧ Whole wr (w.heap.size + 1 + 1) 181 (h16A (fstTo l (j + 1))) ∧ Ext w wr) (fun x _ _ => 17 - (intOf x).toNat)
  case atStart => exact ⟨0, 0, by omega, rfl, rfl, fun _ => H1.out, by omega, hW2, by rw [HZe.out] at hR2 ⊢; exact hR2, hF2, hE2⟩
  case round =>
    clear hE1 hW1 hE2 hW2 hR2 hF2
    obtain ⟨j, s, hj, rfl, rfl, hs, hsb, hW, hR, hF, hE⟩ := hrel
    by_cases hlt : j < 15
    · have hjI : ((j + 1 : Nat) : Int) ≤ 15 := by omega
      have hcs := HA.out (j + 1) (by omega)
      have hS := HS.out (j + 1)
      rw [hs hlt] at hS
      have hrm := HRoom.out (j + 1) (by omega)
      rw [hs hlt] at hrm
      have hnx := HNext.out (j + 1) (by omega)
      rw [hs hlt] at hnx
      have hsz := HSz.out (j + 1)
      generalize f (j + 1) = y at *
      have HSh := hide hS
      have HNx := hide hnx
      clear hs hS hnx
      have hu16 : IntKind.u16.wrap ((s : Int) * 2) = ((s * 2 : Nat) : Int) := by simp [IntKind.wrap, IntKind.bits, IntKind.signed]; omega
      have hb1 : (Try.prog.info? 111).map (·.size) = some 1 := by kernel_rfl
      have hszl : j + 1 < (h16A (fstTo l (j + 1))).size := by omega
      have HSzl := hide hszl
      have HCs := hide hcs
      clear hsz hszl hcs
      generalize h16A (fstTo l (j + 1)) = V at *
      generalize hV2 : h16A (fstTo l (j + 1 + 1)) = V2 at *
      have HV2 := hide hV2
      clear hV2
      go_wp2_with (refine wpList_storeC rfl 111 (.tmp 15) (.tmp 14) rfl _ rfl rfl hF HSzl.out hb1 rfl rfl HSh.out ?_; intro w3 hF3 hG3; have hW3 := hW.grown hG3 (by omega); have hc3 := hW3.at (j + 1) HCs.out)
      go_roundw
      case rel => exact ⟨j + 1, s * 2 + y, by omega, by go_num, by go_num, HNx.out, hrm, hW3, hR.grown hG3 (by omega), by rw [HV2.out]; exact hF3, Below.grown hE hG3 hE.le (fun k hk => by cases hk; omega)⟩
      case measure => simp [intOf]; omega
    · obtain rfl : j = 15 := by omega
      have hjI : ¬ ((15 + 1 : Nat) : Int) ≤ 15 := by omega
      rw [show 15 + 1 = 16 from rfl, HAll.out] at hF
      have hsz := HSzA.out
      have hinf : (Try.prog.info? 181).map (·.size) = some (h16A (fst l)).size := by rw [hsz]; exact f16_info
      have hss : (h16A (fst l)).size = Z.size := by rw [hsz, HZs.out]
      have hone := HOne.out
      clear hs hW hsz
      obtain ⟨V, hV⟩ : ∃ V, V = h16A (fst l) := ⟨_, rfl⟩
      rw [← hV] at hF hinf hss hone
      have HVV := hide hV
      clear hV
      go_wp2_with (first
        | (refine wpList_load_row rfl 181 (.tmp 3) rfl _ rfl _ _ _ _ hF Try.underlying181 rfl hinf ?_)
        | (refine wpList_storeW rfl 181 (.tmp 2) (.tmp 21) rfl rfl rfl hR hss hinf hone ?_; intro w5 hW5 hG5 _))
      refine bodyPost_ret (results_cell_row rfl _ _ _ _ _ _ _ rfl hW5 Try.underlying181 rfl hinf) rfl ?_
      exact ⟨by rw [HVV.out], Below.grown hE hG5 hE.le (fun k hk => by cases hk; omega)⟩
theorem Can.cntV_zero : cntV (fun _ => 0) = #[.int .i64 0, .int .i64 0, .int .i64 0, .int .i64 0, .int .i64 0, .int .i64 0, .int .i64 0, .int .i64 0, .int .i64 0, .int .i64 0, .int .i64 0, .int .i64 0, .int .i64 0, .int .i64 0, .int .i64 0, .int .i64 0] := rfl
theorem Can.cntV_set (f g : Nat → Nat) (k x : Nat) (h : ∀ j, j < 16 → g j = if j = k then x else f j) : (cntV f).setIfInBounds k (.int .i64 (x : Int)) = cntV g := by
  apply Array.ext_getElem?
  intro i
  rcases Nat.lt_or_ge i 16 with hi | hi
  · rw [cntV_at g hi, h i hi]
    by_cases e : k = i
    · subst e
      rw [Array.getElem?_setIfInBounds_self_of_lt (by rw [cntV_size]; exact hi), if_pos rfl]
    · rw [Array.getElem?_setIfInBounds_ne e, cntV_at f hi, if_neg (by omega)]
  · rw [Array.getElem?_eq_none (by rw [Array.size_setIfInBounds, cntV_size]; exact hi), Array.getElem?_eq_none (by rw [cntV_size]; exact hi)]
end Go.Proofs.Ytaohdnhfodkeoaa
namespace Go.Proofs.Ytaohdnhfodkeoaa
open Go.RowKit Len Can
def Can.outF (l : List UInt8) : Nat → Nat := if right l then cnt l l.length else fun _ => 0
def Counted (w : World) (l : List UInt8) (e : Ending) (w' : World) : Prop := e = .returned (.tuple #[.agg (cntV (outF l)), .int .i64 (checkE l)]) ∧ Ext w w'
theorem Can.cnt_step (l : List UInt8) (i : Nat) : (cntV (cnt l i)).setIfInBounds (lenAt l i) (.int .i64 ((cnt l i (lenAt l i) + 1 : Nat) : Int)) = cntV (cnt l (i + 1)) := cntV_set _ _ _ _ fun j _ => by
  rw [cnt_succ]
  by_cases h : j = lenAt l i
  · rw [if_pos h, if_pos h.symm, h]
  · rw [if_neg h, if_neg (fun e => h e.symm), Nat.add_zero]
theorem Can.cnt_none (l : List UInt8) : cntV (cnt l 0) = cntV fun _ => 0 := rfl
set_option maxHeartbeats 2000000 in
set_option maxRecDepth 100000 in
theorem countOut_any (A : Option Addr) (n c : Nat) (l : List UInt8) (w : World) (h : Bytes w w.heap.size A n l) : Calls Try.prog 104 #[.slice A n c] w (Counted w l) := by
  have hl := h.1
  subst hl
  have hR1 := Whole.new w 170 (cntV fun _ => 0)
  have hE1 := extNew w (.cells (cntV fun _ => 0) 170)
  have HNo := hide (show right l = false → outF l = fun _ => 0 from fun h => by unfold outF; rw [h]; rfl)
  have HNo7 := hide (show right l = false → checkE l = 7 from check_wrong)
  have hinf : (Try.prog.info? 170).map (·.size) = some (cntV fun _ => 0).size := by rw [cntV_size]; exact cnt_info
  by_cases hbig : (300 : Int) < (l.length : Int)
  · have HN := hide (HNo.out (wrong_long (by omega)))
    have H7 := hide (HNo7.out (wrong_long (by omega)))
    go_enter Try.func104, Try.ntmps104
    go_wp2
    refine bodyPost_ret (results_row2 rfl _ rfl rfl (run_loadVar_row _ _ _ _ _ _ _ hR1 Try.underlying170 rfl hinf)) rfl ?_
    exact ⟨by rw [HN.out, H7.out]; rfl, hE1⟩
  · have hE2 := hE1.alloc (.cells (cntV fun _ => 0) 170)
    have hR2 := hR1.alloc (.cells (cntV fun _ => 0) 170)
    have hM2 := Whole.new (w.alloc (.cells (cntV fun _ => 0) 170)) 170 (cntV fun _ => 0)
    simp only [World.size_alloc] at hM2
    have HS := hide (cnt_step l)
    have H0 := hide (cnt_none l)
    have HZ := hide cntV_zero
    have HLe := hide (show ∀ i k, cnt l i k ≤ i from fun i k => cnt_le l k i)
    have HRt := hide (show (∀ i, i < l.length → lenAt l i ≤ 15) → rightF (cnt l l.length) = right l from right_of_counts (by omega))
    have HYes := hide (show right l = true → outF l = cnt l l.length from fun h => by unfold outF; rw [h]; rfl)
    have HYes0 := hide (show right l = true → checkE l = 0 from check_right)
    have HWr := hide (show ∀ i, i < l.length → 15 < lenAt l i → right l = false from fun i hi h => wrong_high hi h)
    have HSz := hide (show ∀ f, (cntV f).size = 16 from cntV_size)
    have HOne := hide (show ∀ f, (cntV f).all (·.oneCell') = true from cntV_one)
    have HAt := hide (show ∀ f k, k < 16 → (cntV f)[k]? = some (.int .i64 ((f k : Nat) : Int)) from fun f k h => cntV_at f h)
    go_enter Try.func104, Try.ntmps104
    go_wp2
    rw [← HZ.out]
    go_loopw [13] (fun x wr => ∃ i : Nat, i ≤ l.length ∧ x = .int .i64 (i : Int) ∧ (∀ q, q < i → lenAt l q ≤ 15) ∧ Whole wr w.heap.size 170 (cntV fun _ => 0) ∧ Whole wr (w.heap.size + 1) 170 (cntV (cnt l i)) ∧ Ext w wr) (fun x _ => l.length - (intOf x).toNat)
    case atStart => exact ⟨0, by omega, rfl, fun q hq => absurd hq (by omega), hR2, by rw [H0.out]; exact hM2, hE2⟩
    case round =>
      clear hE1 hR1 hE2 hR2 hM2
      obtain ⟨i, hi, rfl, hall, hR, hM, hE⟩ := hrel
      have HAll := hide hall
      clear hall
      by_cases hlt : i < l.length
      · rcases (hE.bytes h).2 with h0 | ⟨b, o, rfl, hB, hc⟩
        · omega
        have hk := hc i hlt
        have hyl := UInt8.toNat_lt (l.getD i 0)
        have hS := HS.out i
        have hW := HWr.out i hlt
        obtain ⟨y, hy⟩ : ∃ y, y = lenAt l i := ⟨_, rfl⟩
        have hk2 : wr.cell? ⟨b, o + i, none⟩ = some (.int .u8 (y : Int)) := by rw [hy]; exact hk
        have hyl2 : y < 256 := by rw [hy]; exact hyl
        rw [← hy] at hS hW
        have HY := hide hy
        have hil : (i : Int) < (l.length : Int) := by omega
        clear hc hy hk hyl
        by_cases h15 : (15 : Int) < (y : Int)
        · have HN := hide (HNo.out (hW (by omega)))
          have H7 := hide (HNo7.out (hW (by omega)))
          have hone := HOne.out fun _ => 0
          clear hS hW
          go_wp2_with (refine wpList_storeW rfl 170 (.tmp 2) (.tmp 19) rfl rfl (congrArg Value.agg HZ.out.symm) hR rfl hinf hone ?_; intro w5 hW5 hG5 _)
          refine bodyPost_ret (results_row2 rfl _ rfl rfl (run_loadVar_row _ _ _ _ _ _ _ hW5 Try.underlying170 rfl hinf)) rfl ?_
          exact ⟨by rw [HN.out, H7.out]; rfl, Below.grown hE hG5 hE.le (fun k hk => by cases hk; omega)⟩
        · have HS2 := hide hS
          have hcy := hM.at y (HAt.out _ y (by omega))
          have hle := HLe.out i y
          have hb1 : (Try.prog.info? 3).map (·.size) = some 1 := by kernel_rfl
          have hys : y < (cntV (cnt l i)).size := by rw [HSz.out]; omega
          have HYs := hide hys
          clear hS hW hys
          obtain ⟨V, hV⟩ : ∃ V, V = cntV (cnt l i) := ⟨_, rfl⟩
          rw [← hV] at hM HYs HS2
          obtain ⟨V2, hV2⟩ : ∃ V2, V2 = cntV (cnt l (i + 1)) := ⟨_, rfl⟩
          rw [← hV2] at HS2
          have HV2 := hide hV2
          clear hV hV2
          generalize cnt l i y = m at *
          go_wp2_with (refine wpList_storeC rfl 3 (.tmp 24) (.tmp 23) rfl _ rfl rfl hM HYs.out hb1 rfl rfl HS2.out ?_; intro w3 hM3 hG3)
          go_roundw
          case rel => exact ⟨i + 1, by omega, by go_num, fun q hq => (by
            by_cases hqi : q = i
            · rw [hqi, ← HY.out]; omega
            · exact HAll.out q (by omega)), hR.grown hG3 (by omega), by rw [← HV2.out]; exact hM3, Below.grown hE hG3 hE.le (fun k hk => by cases hk; omega)⟩
          case measure => simp [intOf]; omega
      · obtain rfl : l.length = i := by omega
        have hrt := HRt.out HAll.out
        have C := fun W => cRight_any (cnt l l.length) (fun k => Nat.le_trans (HLe.out _ k) (by omega)) W
        rw [hrt] at C
        have hsz := HSz.out (cnt l l.length)
        have hinf2 : (Try.prog.info? 170).map (·.size) = some (cntV (cnt l l.length)).size := by rw [hsz]; exact cnt_info
        have hss : (cntV (cnt l l.length)).size = (cntV fun _ => 0).size := by rw [hsz, HSz.out]
        have hone := HOne.out (cnt l l.length)
        have hone0 := HOne.out fun _ => 0
        clear hrt hsz
        generalize right l = r at *
        obtain ⟨V, hV⟩ : ∃ V, V = cntV (cnt l l.length) := ⟨_, rfl⟩
        rw [← hV] at C hM hinf2 hss hone
        have HV := hide hV
        clear hV
        go_wp2_with (refine wpList_load_row rfl 170 (.tmp 4) rfl _ rfl _ _ _ _ hM Try.underlying170 rfl hinf2 ?_)
        refine (C _).mono ?_
        rintro e w4 ⟨rfl, hE4⟩
        have hM4 := hM.ext hE4
        have hR4 := hR.ext hE4
        have hF4 := hE.trans hE4
        clear hM hR hE hE4 C
        cases r with
        | false =>
          have HN := hide (HNo.out rfl)
          have H7 := hide (HNo7.out rfl)
          go_wp2_with (refine wpList_storeW rfl 170 (.tmp 2) (.tmp 29) rfl rfl (congrArg Value.agg HZ.out.symm) hR4 rfl hinf hone0 ?_; intro w5 hW5 hG5 _)
          refine bodyPost_ret (results_row2 rfl _ rfl rfl (run_loadVar_row _ _ _ _ _ _ _ hW5 Try.underlying170 rfl hinf)) rfl ?_
          exact ⟨by rw [HN.out, H7.out]; rfl, Below.grown hF4 hG5 hF4.le (fun k hk => by cases hk; omega)⟩
        | true =>
          have HN := hide (HYes.out rfl)
          have H0' := hide (HYes0.out rfl)
          go_wp2_with (first
            | (refine wpList_load_row rfl 170 (.tmp 4) rfl _ rfl _ _ _ _ hM4 Try.underlying170 rfl hinf2 ?_)
            | (refine wpList_storeW rfl 170 (.tmp 2) (.tmp 30) rfl rfl rfl hR4 hss hinf2 hone ?_; intro w5 hW5 hG5 _))
          refine bodyPost_ret (results_row2 rfl _ rfl rfl (run_loadVar_row _ _ _ _ _ _ _ hW5 Try.underlying170 rfl hinf2)) rfl ?_
          exact ⟨by rw [HN.out, H0'.out, HV.out]; rfl, Below.grown hF4 hG5 hF4.le (fun k hk => by cases hk; omega)⟩
set_option maxHeartbeats 2000000 in
set_option maxRecDepth 100000 in
theorem check_any (A : Option Addr) (n c : Nat) (l : List UInt8) (w : World) (h : Bytes w w.heap.size A n l) : Calls Try.prog 86 #[.slice A n c] w fun e w' => e = .returned (.int .i64 (checkE l)) ∧ Ext w w' := by
  have C := countOut_any A n c l w h
  unfold Counted at C
  have hsz := cntV_size (outF l)
  have hone := cntV_one (outF l)
  have hinf : (Try.prog.info? 170).map (·.size) = some (cntV (outF l)).size := by rw [hsz]; exact cnt_info
  have hss : (cntV (outF l)).size = (cntV fun _ => 0).size := by rw [hsz, cntV_size]
  have HZ := hide cntV_zero
  generalize cntV (outF l) = V at *
  generalize checkE l = ck at *
  go_enter Try.func86, Try.ntmps86
  go_wp2_with fail
  refine C.mono ?_
  rintro e w2 ⟨rfl, hE⟩
  have hM := Whole.new w2 170 (cntV fun _ => 0)
  have hE2 := hE.alloc (.cells (cntV fun _ => 0) 170)
  rw [HZ.out] at hM hE2
  rw [HZ.out] at hss
  go_wp2_with (refine wpList_storeW rfl 170 (.tmp 3) (.tmp 8) rfl rfl rfl hM hss hinf hone ?_; intro w5 hW5 hG5 _)
  go_ret
  exact ⟨rfl, Below.grown hE2 hG5 hE2.le (fun k hk => by cases hk; exact hE.le)⟩
end Go.Proofs.Ytaohdnhfodkeoaa

namespace Go.Proofs.Ytaohdnhfodkeoaa
open Go.RowKit Len Can
def Can.itemV (x m : Nat) : Array Value := #[.int .u8 (x : Int), .int .i64 (m : Int)]
theorem canItem_info : (Try.prog.info? 150).map (·.size) = some 2 := by kernel_rfl
theorem Can.itemV_one (x m : Nat) : (itemV x m).all (·.oneCell') = true := by
  simp [itemV]
  exact ⟨rfl, rfl⟩
set_option maxHeartbeats 1000000 in
theorem isRow_any (x m : Nat) (hx : x < 256) (w : World) : Calls Try.prog 92 #[.agg (itemV x m)] w fun e w' => e = .returned (.bool (decide (x = 0))) ∧ Ext w w' := by
  have hE1 := extNew w (.cells (itemV x m) 150)
  have hW1 := Whole.new w 150 (itemV x m)
  have c0 := hW1.at 0 (u := .int .u8 (x : Int)) rfl
  have HG := hide (show decide (x = 0) = ((x : Int) == 0) by
    by_cases h : x = 0
    · subst h; rfl
    · rw [decide_eq_false h]
      symm
      rw [beq_eq_false_iff_ne]
      omega)
  generalize decide (x = 0) = r at *
  generalize itemV x m = V at *
  go_enter Try.func92, Try.ntmps92
  go_wp2
  go_ret
  exact ⟨ret_bool HG.out.symm, hE1⟩
def Can.headM (x : UInt8) (r : List UInt8) : Nat := if x = 0 then zrun 63 r + 1 else 1
set_option maxHeartbeats 1000000 in
set_option maxRecDepth 1000000 in
theorem itemOf_any (A : Option Addr) (n c : Nat) (x : UInt8) (r : List UInt8) (w : World) (hr : r.length ≤ 400) (h : Bytes w w.heap.size A n (x :: r)) : Calls Try.prog 87 #[.slice A n c] w fun e w' => e = .returned (.agg (itemV x.toNat (headM x r))) ∧ Ext w w' := by
  have hl := h.1
  subst hl
  have hE1 := extNew w (.cells #[.int .u8 0, .int .i64 0] 150)
  have hW1 := Whole.new w 150 #[.int .u8 0, .int .i64 0]
  rcases (hE1.bytes h).2 with h0 | ⟨b, o, rfl, hB, hc⟩
  · simp at h0
  have hc0 := hc 0 (by simp)
  rw [Nat.add_zero, List.getD_cons_zero] at hc0
  have hx8 := UInt8.toNat_lt x
  have hinf : (Try.prog.info? 150).map (·.size) = some (itemV x.toNat (headM x r)).size := canItem_info
  by_cases h0 : x = 0
  · subst h0
    have hz := zrun_le 63 r
    have HZ := hide (show ∀ i, i < zrun 63 r → r.getD i 0 = 0 from fun i hi => by
      have := congrArg (fun l => l[i]?) (zrun_zero 63 r)
      simp only [List.getElem?_take, if_pos hi, List.getElem?_replicate] at this
      rw [List.getD_eq_getElem?_getD, this]
      rfl)
    have HS := hide (show zrun 63 r < 63 → zrun 63 r < r.length → r.getD (zrun 63 r) 0 ≠ 0 from fun h1 h2 => zrun_stop 63 r h1 _ (by rw [List.head?_drop, List.getD_eq_getElem?_getD, List.getElem?_eq_getElem h2]; rfl))
    have HM := hide (show headM 0 r = zrun 63 r + 1 from if_pos rfl)
    generalize zrun 63 r = m at *
    have HC := hide (show ∀ i, i < r.length → (w.alloc (.cells #[.int .u8 0, .int .i64 0] 150)).cell? ⟨b, o + (i + 1), none⟩ = some (.int .u8 ((r.getD i 0).toNat : Int)) from fun i hi => hc (i + 1) (by simp; omega))
    have hmin : ∃ M : Int, (if (64 : Int) < ((r.length : Int) + 1) then 64 else (r.length : Int) + 1) = M ∧ M = (min (r.length + 1) 64 : Nat) := ⟨_, rfl, by split <;> omega⟩
    obtain ⟨M, hM, hM2⟩ := hmin
    have HMn := hide hM
    have HM2 := hide hM2
    clear hc h hM hM2
    change (w.alloc (.cells #[.int .u8 0, .int .i64 0] 150)).cell? ⟨b, o, none⟩ = some (.int .u8 0) at hc0
    clear hinf
    go_enter Try.func87, Try.ntmps87
    go_wp2_with fail
    go_loopw [3] (fun a wq => ∃ j : Nat, j ≤ m ∧ a = .int .i64 ((j + 1 : Nat) : Int) ∧ wq = w.alloc (.cells #[.int .u8 0, .int .i64 0] 150)) (fun a _ => 64 - (intOf a).toNat)
    case atStart => exact ⟨0, by omega, rfl, rfl⟩
    case round =>
      obtain ⟨j, hj, rfl, rfl⟩ := hrel
      have hM2 := HM2.out
      by_cases hjm : j < m
      · have h0j := HZ.out j hjm
        have hcj := HC.out j (by omega)
        rw [h0j] at hcj
        change (w.alloc (.cells #[.int .u8 0, .int .i64 0] 150)).cell? ⟨b, o + (j + 1), none⟩ = some (.int .u8 0) at hcj
        have hjM : ((j + 1 : Nat) : Int) < M := by omega
        have hjr : j + 1 < r.length + 1 := by omega
        clear h0j hM2
        go_wp2_with (refine wpList_min rfl (.tmp 14) (.const (.int .i64 64)) rfl rfl rfl HMn.out ?_)
        go_roundw
        case rel => exact ⟨j + 1, by omega, by go_num, trivial⟩
        case measure => simp [intOf]; omega
      · obtain rfl : j = m := by omega
        by_cases hjM : ((j + 1 : Nat) : Int) < M
        · have hne := HS.out (by omega) (by omega)
          have hcj := HC.out j (by omega)
          have hy8 := UInt8.toNat_lt (r.getD j 0)
          have hyne : (r.getD j 0).toNat ≠ 0 := fun e => hne (UInt8.toNat_inj.1 e)
          generalize (r.getD j 0).toNat = y at *
          have hyb : ((y : Int) == 0) = false := by rw [beq_eq_false_iff_ne]; omega
          have hjr : j + 1 < r.length + 1 := by omega
          clear hne hM2 hyne
          go_wp2_with (refine wpList_min rfl (.tmp 14) (.const (.int .i64 64)) rfl rfl rfl HMn.out ?_)
          refine bodyPost_ret (results_cell_row rfl _ _ _ _ _ _ _ rfl (Whole.new w _ _) Try.underlying150 rfl canItem_info) rfl ?_
          exact ⟨by rw [HM.out]; rfl, extNew w _⟩
        · clear hM2
          go_wp2_with (refine wpList_min rfl (.tmp 14) (.const (.int .i64 64)) rfl rfl rfl HMn.out ?_)
          refine bodyPost_ret (results_cell_row rfl _ _ _ _ _ _ _ rfl (Whole.new w _ _) Try.underlying150 rfl canItem_info) rfl ?_
          exact ⟨by rw [HM.out]; rfl, extNew w _⟩
  · have hx0 : (0 : Int) < (x.toNat : Int) := by
      have : x.toNat ≠ 0 := fun e => h0 (UInt8.toNat_inj.1 e)
      omega
    have HM := hide (show headM x r = 1 from if_neg h0)
    have hE5 := extNew w (.cells (itemV x.toNat 1) 150)
    have hW5 := Whole.new w 150 (itemV x.toNat 1)
    go_enter Try.func87, Try.ntmps87
    go_wp2
    refine bodyPost_ret (results_cell_row rfl _ _ _ _ _ _ _ rfl hW5 Try.underlying150 rfl canItem_info) rfl ?_
    exact ⟨by rw [HM.out], hE5⟩
def Can.itemB (x m : Nat) : List Bool := Bit.num x 4 ++ if x = 0 then Bit.num (m - 1) 6 else []
theorem Can.put4I {x : Nat} (h : x < 16) : Bit.putErr x 4 = 0 ∧ Bit.putBits x 4 = Bit.num x 4 := Bit.put_good (decide_eq_true ⟨by omega, by omega, h⟩)
theorem Can.put6I {x : Nat} (h : x < 64) : Bit.putErr x 6 = 0 ∧ Bit.putBits x 6 = Bit.num x 6 := Bit.put_good (decide_eq_true ⟨by omega, by omega, h⟩)
set_option maxHeartbeats 100000 in
set_option maxRecDepth 1000000 in
theorem itemWrite_any (x m : Nat) (hx : x < 16) (hm : x = 0 → 1 ≤ m ∧ m ≤ 64) {t : TypeId} {R : List Value} {w : World} {base g : Nat} {ob : Option Nat} {B : List Bool} (h : WrtX t R w base g ob B) (hfit : B.length ≤ 800000000) :
    Calls Try.prog 88 #[.agg (itemV x m), .pointer (some ⟨g, 0, none⟩)] w fun e w' => e = .returned (.tuple #[]) ∧ ∃ ob', WrtX t R w' base g ob' (B ++ itemB x m) ∧ NewOb w ob ob' ∧ Mod w w' g ob := by
  have hE1 := extNew w (.cells (itemV x m) 150)
  have hW1 := Whole.new w 150 (itemV x m)
  have c0 := hW1.at 0 (u := .int .u8 (x : Int)) rfl
  have CP := put_any (h.ext hE1) x 4 (by omega)
  rw [(put4I hx).1, (put4I hx).2] at CP
  have CR := fun W => isRow_any x m (by omega) W
  have HN := hide (Bit.num_length x 4)
  have HI := hide (show itemB x m = Bit.num x 4 ++ if x = 0 then Bit.num (m - 1) 6 else [] from rfl)
  have hgl := h.lt
  have hne := h.ne
  have hob := h.ob
  obtain ⟨V, hV⟩ : ∃ V, V = itemV x m := ⟨_, rfl⟩
  have HVs := hide (show V.size = 2 by rw [hV]; rfl)
  have HV1 := hide (show V[1]? = some (.int .i64 (m : Int)) by rw [hV]; rfl)
  rw [← hV] at hE1 hW1 c0 CP CR ⊢
  clear hV
  go_enter Try.func88, Try.ntmps88
  go_wp2_with fail
  refine CP.mono ?_
  rintro e w2 ⟨rfl, ob2, hR2, hO2, hM2⟩
  have hW2 := hM2.whole hW1 (by omega) (fun e => by have := (hob _ e).2; omega)
  have hMw : Mod w w2 g ob := (Mod.ofExt hE1).trans hM2 (.inl rfl)
  have hNw : NewOb w ob ob2 := (NewOb.same w ob).trans hE1.le hO2
  have hsz := hE1.le
  have hg2 : w.heap.size < w2.heap.size := hW2.lt
  clear hW1 c0 CP hE1 hO2 hM2
  have hinf : (Try.prog.info? 150).map (·.size) = some V.size := by rw [HVs.out]; exact canItem_info
  by_cases h0 : x = 0
  · rw [decide_eq_true h0] at CR
    have hm0 := hm h0
    have HI2 := hide (show itemB x m = Bit.num x 4 ++ Bit.num (m - 1) 6 by rw [HI.out, if_pos h0])
    go_wp2_with (refine wpList_load_row rfl 150 (.tmp 2) rfl _ rfl _ _ _ _ hW2 Try.underlying150 rfl hinf ?_)
    refine (CR _).mono ?_
    rintro e w3 ⟨rfl, hE3⟩
    have hW3 := hW2.ext hE3
    have c1 := hW3.at 1 HV1.out
    have CP := put_any (hR2.ext hE3) (m - 1) 6 (by rw [List.length_append, HN.out]; omega)
    rw [(put6I (x := m - 1) (by omega)).1, (put6I (x := m - 1) (by omega)).2] at CP
    have hm1 : (1 : Int) ≤ (m : Int) := by omega
    have hm64 : (m : Int) ≤ 64 := by omega
    have hcv : ((m - 1 : Nat) : Int) = (m : Int) - 1 := by omega
    rw [hcv] at CP
    have HCv := hide hcv
    clear hcv CR hm hm0
    go_wp2_with fail
    refine CP.mono ?_
    rintro e w4 ⟨rfl, ob4, hR4, hO4, hM4⟩
    have hE23 := Mod.ofExt (g := g) (ob := ob2) hE3
    have hMf := hMw.trans (hE23.trans hM4 (.inl rfl)) hNw
    have hNf := hNw.trans hMw.size ((NewOb.same w2 ob2).trans hE3.le hO4)
    go_wp2
    go_end0
    refine ⟨rfl, ob4, ?_, hNf, hMf⟩
    rw [HI2.out, ← List.append_assoc]
    exact hR4
  · rw [decide_eq_false h0] at CR
    have HI2 := hide (show itemB x m = Bit.num x 4 by rw [HI.out, if_neg h0, List.append_nil])
    go_wp2_with (refine wpList_load_row rfl 150 (.tmp 2) rfl _ rfl _ _ _ _ hW2 Try.underlying150 rfl hinf ?_)
    refine (CR _).mono ?_
    rintro e w3 ⟨rfl, hE3⟩
    clear CR
    go_wp2
    go_end0
    refine ⟨rfl, ob2, ?_, hNw, hMw.trans (Mod.ofExt (ob := ob2) hE3) hNw⟩
    rw [HI2.out]
    exact hR2.ext hE3
end Go.Proofs.Ytaohdnhfodkeoaa
namespace Go.Proofs.Ytaohdnhfodkeoaa
open Go.RowKit Len Can
def Can.itemE (b : List UInt8) (q : Nat) : (Nat × Nat) × Int × Nat :=
  if Bit.getErr (8 * b.length - q) 4 = 0 then
    if Bit.getNum b q 4 = 0 then
      if Bit.getErr (8 * b.length - (q + 4)) 6 = 0 then ((0, Bit.getNum b (q + 4) 6 + 1), 0, q + 10)
      else ((0, 0), 1, q + 4)
    else ((Bit.getNum b q 4, 1), 0, q + 4)
  else ((0, 0), 1, q)
def ItemAt (w : World) (base g : Nat) (b : List UInt8) (r : (Nat × Nat) × Int × Nat) (e : Ending) (w' : World) : Prop :=
  e = .returned (.tuple #[.agg (itemV r.1.1 r.1.2), .int .i64 r.2.1]) ∧ Rdr w' base g b r.2.2 ∧ Mod w w' g none
set_option maxHeartbeats 1000000 in
set_option maxRecDepth 1000000 in
theorem readItem_any {w : World} {base g q : Nat} {b : List UInt8} (h : Rdr w base g b q) : Calls Try.prog 91 #[.pointer (some ⟨g, 0, none⟩)] w (ItemAt w base g b (itemE b q)) := by
  have hE1 := extNew w (.cells (itemV 0 0) 150)
  have hW1 := Whole.new w 150 (itemV 0 0)
  have hgl := h.lt
  have CG := get_any (h.ext hE1) 4
  have hL := getNum_lt b q 4
  change Bit.getNum b q 4 < 16 at hL
  by_cases h4 : Bit.getErr (8 * b.length - q) 4 = 0
  · unfold Bit.getTo at CG
    rw [h4, if_pos rfl] at CG
    rw [show (4 : Int).toNat = 4 from rfl] at CG
    have HU := hide (show Bit.getNum b q 4 ≠ 0 → itemE b q = ((Bit.getNum b q 4, 1), 0, q + 4) from fun h0 => by unfold itemE; rw [if_pos h4, if_neg h0])
    have HZ := hide (show Bit.getNum b q 4 = 0 → Bit.getErr (8 * b.length - (q + 4)) 6 = 0 → itemE b q = ((0, Bit.getNum b (q + 4) 6 + 1), 0, q + 10) from fun h0 h6 => by unfold itemE; rw [if_pos h4, if_pos h0, if_pos h6])
    have HZ1 := hide (show Bit.getNum b q 4 = 0 → Bit.getErr (8 * b.length - (q + 4)) 6 ≠ 0 → itemE b q = ((0, 0), 1, q + 4) from fun h0 h6 => by unfold itemE; rw [if_pos h4, if_pos h0, if_neg h6])
    generalize Bit.getNum b q 4 = L at *
    generalize itemE b q = res at *
    clear h4
    unfold itemV at hW1 hE1 CG
    go_enter Try.func91, Try.ntmps91
    go_wp2_with fail
    refine CG.mono ?_
    rintro e w2 ⟨rfl, hR2, hM2⟩
    have hW2 := hM2.whole hW1 (by omega) (by simp)
    have hMw : Mod w w2 g none := (Mod.ofExt hE1).trans hM2 (.inl rfl)
    have hsz := hE1.le
    clear CG hE1 hW1 hM2
    by_cases h0 : L = 0
    · subst h0
      have CG := get_any hR2 6
      have hK := getNum_lt b (q + 4) 6
      change Bit.getNum b (q + 4) 6 < 64 at hK
      by_cases h6 : Bit.getErr (8 * b.length - (q + 4)) 6 = 0
      · unfold Bit.getTo at CG
        rw [h6, if_pos rfl] at CG
        rw [show q + 4 + (6 : Int).toNat = q + 10 by rw [show (6 : Int).toNat = 6 from rfl]] at CG
        have HRes := hide (HZ.out rfl h6)
        clear h6 HU HZ HZ1
        generalize Bit.getNum b (q + 4) 6 = K at *
        go_wp2_with fail
        refine CG.mono ?_
        rintro e w3 ⟨rfl, hR3, hM3⟩
        have hgw : w.heap.size < w2.heap.size := hW2.lt
        have hW3 := hM3.whole hW2 (by omega) (by simp)
        have hMv := hMw.trans hM3 (.inl rfl)
        have hgw3 := hW3.lt
        clear CG hW2 hR2 hM3
        have hinf : (Try.prog.info? 150).map (·.size) = some (itemV 0 (K + 1)).size := canItem_info
        have hone := itemV_one 0 (K + 1)
        have he : Value.agg #[.int .u8 0, .int .i64 ((K : Int) + 1)] = .agg (itemV 0 (K + 1)) := rfl
        have HE := hide he
        clear he
        obtain ⟨V, hV⟩ : ∃ V, V = itemV 0 (K + 1) := ⟨_, rfl⟩
        rw [← hV] at HE hinf hone
        have HV := hide hV
        have hss : V.size = 2 := by rw [hV]; rfl
        clear hV
        go_wp2_with (refine wpList_storeW rfl 150 (.tmp 2) (.tmp 33) rfl rfl HE.out hW3 hss hinf hone ?_; intro w5 hW5 hG5 _)
        refine bodyPost_ret (results_row2 rfl _ rfl rfl (run_loadVar_row _ _ _ _ _ _ _ hW5 Try.underlying150 rfl hinf)) rfl ?_
        rw [HRes.out, HV.out]
        refine ⟨rfl, hR3.below (B := w.heap.size) (Below.grown (Below.refl _ _) hG5 (by omega) (fun k hk => by cases hk; omega)) hgl, hMv.fresh hG5 (fun k hk => by cases hk; omega)⟩
      · have hg1 : Bit.getErr (8 * b.length - (q + 4)) 6 = 1 := getErr_le (n := 6) (by omega) h6
        unfold Bit.getTo at CG
        rw [hg1, if_neg (by omega)] at CG
        have HRes := hide (HZ1.out rfl h6)
        clear h6 HU HZ HZ1 hg1
        generalize Bit.getNum b (q + 4) 6 = K at *
        go_wp2_with fail
        refine CG.mono ?_
        rintro e w3 ⟨rfl, hR3, hM3⟩
        have hgw : w.heap.size < w2.heap.size := hW2.lt
        have hW3 := hM3.whole hW2 (by omega) (by simp)
        have hMv := hMw.trans hM3 (.inl rfl)
        have hgw3 := hW3.lt
        clear CG hW2 hR2 hM3
        have hinf : (Try.prog.info? 150).map (·.size) = some (itemV 0 0).size := canItem_info
        have hone := itemV_one 0 0
        have HE := hide (show Value.agg #[.int .u8 0, .int .i64 0] = .agg (itemV 0 0) from rfl)
        obtain ⟨V, hV⟩ : ∃ V, V = itemV 0 0 := ⟨_, rfl⟩
        rw [← hV] at HE hinf hone
        have HV := hide hV
        have hss : V.size = 2 := by rw [hV]; rfl
        clear hV
        go_wp2_with (refine wpList_storeW rfl 150 (.tmp 2) (.tmp 28) rfl rfl HE.out hW3 hss hinf hone ?_; intro w5 hW5 hG5 _)
        refine bodyPost_ret (results_row2 rfl _ rfl rfl (run_loadVar_row _ _ _ _ _ _ _ hW5 Try.underlying150 rfl hinf)) rfl ?_
        rw [HRes.out, HV.out]
        refine ⟨rfl, hR3.below (B := w.heap.size) (Below.grown (Below.refl _ _) hG5 (by omega) (fun k hk => by cases hk; omega)) hgl, hMv.fresh hG5 (fun k hk => by cases hk; omega)⟩
    · have HRes := hide (HU.out h0)
      have hL0 : (0 : Int) < (L : Int) := by omega
      have hL256 : L < 256 := by omega
      have hu8 : IntKind.u8.wrap (L : Int) = (L : Int) := by simp [IntKind.wrap, IntKind.bits, IntKind.signed]; omega
      have hgw : w.heap.size < w2.heap.size := hW2.lt
      have hinf : (Try.prog.info? 150).map (·.size) = some (itemV L 1).size := canItem_info
      have hone := itemV_one L 1
      have HE := hide (show Value.agg #[.int .u8 (L : Int), .int .i64 1] = .agg (itemV L 1) from rfl)
      clear HU HZ HZ1
      obtain ⟨V, hV⟩ : ∃ V, V = itemV L 1 := ⟨_, rfl⟩
      rw [← hV] at HE hinf hone
      have HV := hide hV
      have hss : V.size = 2 := by rw [hV]; rfl
      clear hV
      go_wp2_with (refine wpList_storeW rfl 150 (.tmp 2) (.tmp 20) rfl rfl HE.out hW2 hss hinf hone ?_; intro w5 hW5 hG5 _)
      refine bodyPost_ret (results_row2 rfl _ rfl rfl (run_loadVar_row _ _ _ _ _ _ _ hW5 Try.underlying150 rfl hinf)) rfl ?_
      rw [HRes.out, HV.out]
      refine ⟨rfl, hR2.below (B := w.heap.size) (Below.grown (Below.refl _ _) hG5 (by omega) (fun k hk => by cases hk; omega)) hgl, hMw.fresh hG5 (fun k hk => by cases hk; omega)⟩
  · have hg1 : Bit.getErr (8 * b.length - q) 4 = 1 := getErr_le (n := 4) (by omega) h4
    unfold Bit.getTo at CG
    rw [hg1, if_neg (by omega)] at CG
    have HRes := hide (show itemE b q = ((0, 0), 1, q) by unfold itemE; rw [if_neg h4])
    generalize Bit.getNum b q 4 = L at *
    generalize itemE b q = res at *
    clear h4 hg1
    unfold itemV at hW1 hE1 CG
    go_enter Try.func91, Try.ntmps91
    go_wp2_with fail
    refine CG.mono ?_
    rintro e w2 ⟨rfl, hR2, hM2⟩
    have hW2 := hM2.whole hW1 (by omega) (by simp)
    have hMw : Mod w w2 g none := (Mod.ofExt hE1).trans hM2 (.inl rfl)
    have hgw : w.heap.size < w2.heap.size := hW2.lt
    clear CG hE1 hW1 hM2
    have hinf : (Try.prog.info? 150).map (·.size) = some (itemV 0 0).size := canItem_info
    have hone := itemV_one 0 0
    have HE := hide (show Value.agg #[.int .u8 0, .int .i64 0] = .agg (itemV 0 0) from rfl)
    obtain ⟨V, hV⟩ : ∃ V, V = itemV 0 0 := ⟨_, rfl⟩
    rw [← hV] at HE hinf hone
    have HV := hide hV
    have hss : V.size = 2 := by rw [hV]; rfl
    clear hV
    go_wp2_with (refine wpList_storeW rfl 150 (.tmp 2) (.tmp 14) rfl rfl HE.out hW2 hss hinf hone ?_; intro w5 hW5 hG5 _)
    refine bodyPost_ret (results_row2 rfl _ rfl rfl (run_loadVar_row _ _ _ _ _ _ _ hW5 Try.underlying150 rfl hinf)) rfl ?_
    rw [HRes.out, HV.out]
    refine ⟨rfl, hR2.below (B := w.heap.size) (Below.grown (Below.refl _ _) hG5 (by omega) (fun k hk => by cases hk; omega)) hgl, hMw.fresh hG5 (fun k hk => by cases hk; omega)⟩
end Go.Proofs.Ytaohdnhfodkeoaa

namespace Go.Proofs.Ytaohdnhfodkeoaa
open Go.RowKit Len Can
theorem Can.head_le (x : UInt8) (r : List UInt8) : 1 ≤ headM x r ∧ headM x r ≤ r.length + 1 ∧ headM x r ≤ 64 := by
  have := zrun_le 63 r
  unfold headM
  split <;> omega
theorem Can.wbits_head (x : UInt8) (r : List UInt8) : wbits (x :: r) = itemB x.toNat (headM x r) ++ wbits ((x :: r).drop (headM x r)) := by
  by_cases h : x = 0
  · subst h
    have e : headM 0 r = zrun 63 r + 1 := if_pos rfl
    rw [wbits_zero, e, List.drop_succ_cons, Nat.add_comm]
    unfold itemB
    rw [show UInt8.toNat 0 = 0 from rfl, if_pos rfl, Nat.add_comm 1, Nat.add_sub_cancel, List.append_assoc]
  · have e : headM x r = 1 := if_neg h
    have hx : x.toNat ≠ 0 := fun e => h (UInt8.toNat_inj.1 e)
    rw [wbits_used r h, e]
    unfold itemB
    rw [if_neg hx, List.append_nil]
    rfl
def Can.sliceLen : Value → Nat
  | .slice _ n _ => n
  | _ => 0
attribute [local go_sem ↓] run_cut
set_option maxHeartbeats 1000000 in
set_option maxRecDepth 100000 in
theorem writeX_any {t : TypeId} {R : List Value} (l : List UInt8) (A : Option Addr) (n c : Nat) (W : World) (base g : Nat) (ob : Option Nat) (B : List Bool) (hn : n ≤ c) (hc : c ≤ maxLen) (hb : ∀ W', Mod W W' g ob → Bytes W' W'.heap.size A n l) (hW : WrtX t R W base g ob B) (hB : B.length ≤ 100000) :
    Calls Try.prog 69 #[.pointer (some ⟨g, 0, none⟩), .slice A n c] W (PutsX t R W base g ob (B ++ if right l then wbits l else []) (checkE l)) := by
  have hl := (hb W (Mod.refl _ _ _)).1
  subst hl
  have C := check_any A l.length c l W (hb W (Mod.refl _ _ _))
  have hne := hW.ne
  cases hr : right l with
  | false =>
    rw [check_wrong hr] at C ⊢
    go_enter Try.func69, Try.ntmps69
    go_wp2_with fail
    refine C.mono ?_
    rintro e w2 ⟨rfl, hE2⟩
    go_wp2
    go_ret
    refine ⟨rfl, ob, ?_, .inl rfl, Mod.ofExt hE2⟩
    have := hW.ext hE2
    simpa using this
  | true =>
    rw [check_right hr] at C ⊢
    obtain ⟨h300, h15, _⟩ := right_facts hr
    have HAll := hide (show ∀ x, x ∈ l → x.toNat ≤ 15 from fun x hx => by
      obtain ⟨i, hi, rfl⟩ := List.mem_iff_getElem.1 hx
      have := h15 i hi
      unfold lenAt at this
      rwa [List.getD_eq_getElem?_getD, List.getElem?_eq_getElem hi] at this)
    have hWL := wbits_len l
    rw [if_pos rfl]
    have hG : B ++ wbits l = B ++ wbits l := rfl
    obtain ⟨G, hGe⟩ : ∃ G, G = B ++ wbits l := ⟨_, rfl⟩
    rw [← hGe]
    have HG := hide hGe
    have hGl : G.length ≤ 200000 := by rw [hGe, List.length_append]; omega
    have hbase := hW.bound
    have hbg := hW.le
    have HOb := hide (show ∀ k, ob = some k → base ≤ k from fun k hk => (hW.ob k hk).1)
    have HW := hide hW
    have HB := hide hb
    clear hG hGe hr h15 hWL hb hW hB
    go_enter Try.func69, Try.ntmps69
    go_wp2_with fail
    refine C.mono ?_
    rintro e w2 ⟨rfl, hE2⟩
    clear C
    go_wp2_with fail
    go_loopw [1] (fun a wr => ∃ A' c' suf ob' B', a = .slice A' suf.length c' ∧ suf.length ≤ c' ∧ c' ≤ maxLen ∧ suf.length ≤ 300 ∧ (∀ x, x ∈ suf → x.toNat ≤ 15) ∧ (∀ W', Mod W W' g ob → Bytes W' W'.heap.size A' suf.length suf) ∧ WrtX t R wr base g ob' B' ∧ G = B' ++ wbits suf ∧ NewOb W ob ob' ∧ Mod W wr g ob) (fun a _ => sliceLen a)
    case atStart => exact ⟨A, c, l, ob, B, rfl, hn, hc, h300, HAll.out, HB.out, HW.out.ext hE2, HG.out, .inl rfl, Mod.ofExt hE2⟩
    case round =>
      clear HAll HB HW hE2 HG
      obtain ⟨A', c', suf, ob', B', rfl, hn', hc', hs3, hall, hb', hW', hG', hN, hM⟩ := hrel
      cases suf with
      | nil =>
        rw [wbits_nil, List.append_nil] at hG'
        have HG := hide hG'
        have hnl : ([] : List UInt8).length = 0 := rfl
        rw [hnl] at hb' ⊢
        clear hG' hall
        go_wp2
        go_ret
        refine ⟨rfl, ob', ?_, hN, hM⟩
        rw [HG.out]
        exact hW'
      | cons x r =>
        have hx15 := hall x (List.mem_cons_self ..)
        have hhd := head_le x r
        have hlr : (x :: r).length = r.length + 1 := rfl
        have HAll := hide (show ∀ y, y ∈ (x :: r).drop (headM x r) → y.toNat ≤ 15 from fun y hy => hall y (List.mem_of_mem_drop hy))
        have HG := hide hG'
        rw [wbits_head x r, ← List.append_assoc] at hG'
        have HG2 := hide hG'
        have hBl : B'.length ≤ 200000 := by
          have := congrArg List.length HG.out
          rw [List.length_append] at this
          omega
        have hbr := hb' wr hM
        have C1 := itemOf_any A' (x :: r).length c' x r wr (by omega) hbr
        have HDrop := hide (fun W' hM' => (hb' W' hM').drop (k := headM x r) (c := c') (by omega) hn')
        have hxr : (x :: r).length ≤ 301 := by omega
        have HX0 := hide (show x.toNat = 0 → 1 ≤ headM x r ∧ headM x r ≤ 64 from fun _ => ⟨hhd.1, hhd.2.2⟩)
        have HLd := hide (show ((x :: r).drop (headM x r)).length = (x :: r).length - headM x r from List.length_drop)
        have hm1 := hhd.1
        have hm2 : headM x r ≤ (x :: r).length := hhd.2.1
        have hpos : 0 < (x :: r).length := by omega
        clear hall hG' hhd hlr hbr hb' HG
        generalize headM x r = m at *
        obtain ⟨N, hNe⟩ : ∃ N, N = (x :: r).length := ⟨_, rfl⟩
        rw [← hNe] at hn' hs3 C1 hxr hm2 hpos HDrop HLd ⊢
        have HNe := hide hNe
        clear hNe
        generalize x.toNat = xv at *
        have hposI : (0 : Int) < (N : Int) := by omega
        go_wp2_with fail
        refine C1.mono ?_
        rintro e w3 ⟨rfl, hE3⟩
        clear C1
        have hM3 := Whole.new w3 150 (itemV 0 0)
        have hinf : (Try.prog.info? 150).map (·.size) = some (itemV xv m).size := canItem_info
        have hone := itemV_one xv m
        have hE4 := hE3.alloc (.cells (itemV 0 0) 150)
        have CW := fun (w : World) (base g : Nat) (ob : Option Nat) (B : List Bool) (h : WrtX t R w base g ob B) (hfit : B.length ≤ 800000000) => itemWrite_any xv m (by omega) HX0.out h hfit
        obtain ⟨V, hV⟩ : ∃ V, V = itemV xv m := ⟨_, rfl⟩
        have HV1 := hide (show V[1]? = some (.int .i64 (m : Int)) by rw [hV]; rfl)
        have hss : V.size = 2 := by rw [hV]; rfl
        rw [← hV] at hinf hone CW ⊢
        clear hV
        unfold itemV at hM3 hE4
        go_wp2_with (first
          | (refine wpList_storeW rfl 150 (.tmp 6) (.tmp 18) rfl rfl rfl hM3 hss hinf hone ?_; intro w5 hW5 hG5 hS5; clear hS5)
          | (refine wpList_load_row rfl 150 (.tmp 6) rfl _ rfl _ _ _ _ hW5 Try.underlying150 rfl hinf ?_))
        have hwl := hW'.lt
        have hwo := hW'.ob
        have hwn := hW'.ne
        have hE5 : Ext wr w5 := Below.grown hE4 hG5 hE4.le (fun k hk => by cases hk; exact hE3.le)
        have hW6 := hW'.ext hE5
        have hle3 := hE3.le
        clear hM3 hE4 hG5 hE3
        refine (CW w5 base g ob' B' hW6 (by omega)).mono ?_
        rintro e w6 ⟨rfl, ob6, hW7, hN7, hM7⟩
        have hV6 := hM7.whole hW5 (by omega) (fun e => by have := (hwo _ e).2; omega)
        have c1 := hV6.at 1 HV1.out
        have hMf := hM.trans ((Mod.ofExt (g := g) (ob := ob') hE5).trans hM7 (.inl rfl)) hN
        have hNf := hN.trans hM.size ((NewOb.same wr ob').trans hE5.le hN7)
        clear CW hW5 hW6 hM7 hN7 hE5 hV6 hW' hM hN
        have hmI0 : (0 : Int) ≤ (m : Int) := by omega
        have hmI1 : (m : Int) ≤ (N : Int) := by omega
        go_wp2
        go_roundw
        case rel => exact ⟨cutAt A' c' m, c' - m, (x :: r).drop m, ob6, _, by rw [HLd.out], by rw [HLd.out]; omega, by omega, by rw [HLd.out]; omega, HAll.out, by rw [HLd.out]; exact HDrop.out, hW7, HG2.out, hNf, hMf⟩
        case measure => simp only [sliceLen]; omega
end Go.Proofs.Ytaohdnhfodkeoaa

namespace Go.Proofs.Ytaohdnhfodkeoaa.Huf
open Len Can
def tot (l : List UInt8) (O : List Nat) : Nat := (O.map fun s => 2 ^ (15 - lenAt l s)).sum
def startOf (l : List UInt8) (s : Nat) : Nat := word l s * 2 ^ (15 - lenAt l s)
def starts (l : List UInt8) (O : List Nat) : List Nat := O.map (startOf l)
structure Ord (l : List UInt8) (k s : Nat) (O : List Nat) : Prop where
  acc : Can.acc l k s = tot l O
  all : ∀ t, t < l.length → done l k s t → t ∈ O
  at_ : ∀ i, i < O.length → O.getD i 0 < l.length ∧ lenAt l (O.getD i 0) ≠ 0 ∧ startOf l (O.getD i 0) = tot l (O.take i)
section
variable {l : List UInt8} {k s : Nat} {O : List Nat}
theorem tot_snoc (l : List UInt8) (O : List Nat) (s : Nat) : tot l (O ++ [s]) = tot l O + 2 ^ (15 - lenAt l s) := by simp [tot]
theorem starts_snoc (l : List UInt8) (O : List Nat) (s : Nat) : starts l (O ++ [s]) = starts l O ++ [startOf l s] := by simp [starts]
theorem starts_len (l : List UInt8) (O : List Nat) : (starts l O).length = O.length := by simp [starts]
theorem starts_at {l : List UInt8} {O : List Nat} {i : Nat} (hi : i < O.length) : (starts l O).getD i 0 = startOf l (O.getD i 0) := by simp [starts, List.getD_eq_getElem?_getD, hi]
theorem Ord.start : Ord l 1 0 [] where
  acc := by rw [acc_start]; rfl
  all := fun t _ h => by unfold done at h; omega
  at_ := fun i hi => absurd hi (by simp)
theorem Ord.turn (h : Ord l k l.length O) : Ord l (k + 1) 0 O where
  acc := by rw [acc_turn]; exact h.acc
  all := fun t ht hd => h.all t ht (by unfold done at *; omega)
  at_ := h.at_
theorem Ord.pass (h : Ord l k s O) (hk : 1 ≤ k) (hs : s < l.length) (hne : lenAt l s ≠ k) : Ord l k (s + 1) O where
  acc := by rw [acc_step l hk hs, if_neg hne]; exact h.acc
  all := fun t ht hd => h.all t ht (by
    unfold done at *
    refine ⟨hd.1, ?_⟩
    rcases hd.2 with e | e
    · exact .inl e
    · by_cases e2 : t = s
      · subst e2; omega
      · exact .inr ⟨e.1, by omega⟩)
  at_ := h.at_
theorem Ord.put (h : Ord l k s O) (hk : 1 ≤ k) (hs : s < l.length) (he : lenAt l s = k) : Ord l k (s + 1) (O ++ [s]) where
  acc := by rw [acc_step l hk hs, if_pos he, h.acc, tot_snoc, he]
  all := fun t ht hd => by
    rw [List.mem_append]
    by_cases e2 : t = s
    · exact .inr (by simp [e2])
    · exact .inl (h.all t ht (by unfold done at *; omega))
  at_ := fun i hi => by
    rw [List.length_append] at hi
    simp at hi
    by_cases hlt : i < O.length
    · have := h.at_ i hlt
      rw [List.take_append_of_le_length (by omega)]
      simp only [List.getD_eq_getElem?_getD, List.getElem?_append_left hlt] at *
      exact this
    · obtain rfl : i = O.length := by omega
      have e : (O ++ [s]).getD O.length 0 = s := by simp [List.getD_eq_getElem?_getD]
      rw [e, List.take_append_of_le_length (Nat.le_refl _), List.take_length]
      refine ⟨hs, by omega, ?_⟩
      unfold startOf
      rw [word_mul (by omega), he, h.acc]
theorem Ord.len_le (h : Ord l k s O) (hk : Can.acc l k s ≤ 32768) : ∀ n, n ≤ O.length → n ≤ tot l (O.take n)
  | 0, _ => Nat.zero_le _
  | n + 1, hn => by
    have ih := h.len_le hk n (by omega)
    have e : O.take (n + 1) = O.take n ++ [O.getD n 0] := by
      rw [List.take_succ_eq_append_getElem (by omega), List.getD_eq_getElem?_getD, List.getElem?_eq_getElem (by omega)]; rfl
    rw [e, tot_snoc]
    have : 0 < 2 ^ (15 - lenAt l (O.getD n 0)) := Nat.pow_pos (by omega)
    omega
theorem tot_succ {i : Nat} (hi : i < O.length) : tot l (O.take (i + 1)) = tot l (O.take i) + 2 ^ (15 - lenAt l (O.getD i 0)) := by
  have e : O.take (i + 1) = O.take i ++ [O.getD i 0] := by
    rw [List.take_succ_eq_append_getElem hi, List.getD_eq_getElem?_getD, List.getElem?_eq_getElem hi]; rfl
  rw [e, tot_snoc]
theorem tot_mono : ∀ {i j : Nat}, i ≤ j → j ≤ O.length → tot l (O.take i) ≤ tot l (O.take j)
  | i, 0, h, _ => by
    obtain rfl : i = 0 := by omega
    exact Nat.le_refl _
  | i, j + 1, h, hj => by
    by_cases e : i = j + 1
    · rw [e]; exact Nat.le_refl _
    · have h1 := tot_mono (show i ≤ j by omega) (by omega)
      rw [tot_succ (by omega)]
      exact Nat.le_trans h1 (Nat.le_add_right _ _)
theorem tot_le {i : Nat} (hi : i ≤ O.length) : tot l (O.take i) ≤ tot l O := by
  have := tot_mono (l := l) (O := O) hi (Nat.le_refl _)
  rwa [List.take_length] at this
theorem Ord.lt (h : Ord l k s O) {i j : Nat} (hij : i < j) (hj : j < O.length) : (starts l O).getD i 0 < (starts l O).getD j 0 := by
  rw [starts_at (by omega), starts_at hj, (h.at_ i (by omega)).2.2, (h.at_ j hj).2.2]
  have h1 := tot_mono (l := l) (O := O) (show i + 1 ≤ j by omega) (by omega)
  rw [tot_succ (by omega)] at h1
  have : 0 < 2 ^ (15 - lenAt l (O.getD i 0)) := Nat.pow_pos (by omega)
  omega
theorem Ord.le (h : Ord l k s O) {i j : Nat} (hij : i ≤ j) (hj : j < O.length) : (starts l O).getD i 0 ≤ (starts l O).getD j 0 := by
  by_cases e : i = j
  · rw [e]; exact Nat.le_refl _
  · exact Nat.le_of_lt (h.lt (by omega) hj)
theorem Ord.first (h : Ord l k s O) (h0 : 0 < O.length) : (starts l O).getD 0 0 = 0 := by
  rw [starts_at h0, (h.at_ 0 h0).2.2]
  rfl
theorem startOf_lt (hr : right l = true) (hs : s < l.length) (h0 : lenAt l s ≠ 0) : startOf l s + 2 ^ (15 - lenAt l s) ≤ 32768 := by
  unfold startOf
  have h1 := acc_le l (lenAt l s) (s + 1)
  rw [acc_step l (by omega) hs, if_pos rfl, ← word_mul h0] at h1
  have := (right_facts hr).2.2
  omega
theorem Ord.mem (h : Ord l 16 0 O) (hr : right l = true) {t : Nat} (ht : t < l.length) (h0 : lenAt l t ≠ 0) : ∃ i, i < O.length ∧ O.getD i 0 = t := by
  have hm := h.all t ht ⟨h0, .inl (by have := (right_facts hr).2.1 t ht; omega)⟩
  obtain ⟨i, hi, e⟩ := List.getElem_of_mem hm
  exact ⟨i, hi, by rw [List.getD_eq_getElem?_getD, List.getElem?_eq_getElem hi]; exact e⟩
theorem Ord.len_300 (h : Ord l k s O) (hr : right l = true) : O.length ≤ 32768 := by
  have h2 := acc_le l k s
  have h3 := (right_facts hr).2.2
  have h1 := h.len_le (by omega) O.length (Nat.le_refl _)
  rw [List.take_length, ← h.acc] at h1
  omega
end
section
variable {l b : List UInt8} {q : Nat}
def nextN (b : List UInt8) (q : Nat) : Nat := Bit.peekNum b q 15
def thereN (b : List UInt8) (q : Nat) : Nat := Bit.peekThere (8 * b.length - q) 15
theorem thereN_eq (b : List UInt8) (q : Nat) : thereN b q = min 15 (8 * b.length - q) := rfl
theorem nextN_eq (b : List UInt8) (q : Nat) : nextN b q = Bit.val (Bit.rest b q) (thereN b q) * 2 ^ (15 - thereN b q) := rfl
theorem nextN_lt (b : List UInt8) (q : Nat) : nextN b q < 32768 := by
  rw [nextN_eq]
  have h1 := Bit.val_lt (Bit.rest b q) (thereN b q)
  have h2 : thereN b q ≤ 15 := by rw [thereN_eq]; omega
  have h3 : Bit.val (Bit.rest b q) (thereN b q) * 2 ^ (15 - thereN b q) < 2 ^ thereN b q * 2 ^ (15 - thereN b q) := Nat.mul_lt_mul_of_pos_right h1 (Nat.pow_pos (by omega))
  rw [← Nat.pow_add, show thereN b q + (15 - thereN b q) = 15 by omega] at h3
  exact h3
theorem next_full {y : Nat} (h : y ≤ thereN b q) : nextN b q / 2 ^ (15 - y) = Bit.val (Bit.rest b q) y := by
  have h2 : thereN b q ≤ 15 := by rw [thereN_eq]; omega
  rw [nextN_eq, show 15 - y = (15 - thereN b q) + (thereN b q - y) by omega, Nat.pow_add, ← Nat.div_div_eq_div_mul, Nat.mul_div_cancel _ (Nat.pow_pos (by omega)), val_top _ h]
theorem next_part {y : Nat} (h : thereN b q ≤ y) (hy : y ≤ 15) : nextN b q / 2 ^ (15 - y) = Bit.val (Bit.rest b q) (thereN b q) * 2 ^ (y - thereN b q) := by
  rw [nextN_eq, show 15 - thereN b q = (y - thereN b q) + (15 - y) by omega, Nat.pow_add, ← Nat.mul_assoc, Nat.mul_div_cancel _ (Nat.pow_pos (by omega))]
theorem hit_iff {s : Nat} (h0 : lenAt l s ≠ 0) (h15 : lenAt l s ≤ 15) : hit l b q s = true ↔ lenAt l s ≤ thereN b q ∧ nextN b q / 2 ^ (15 - lenAt l s) = word l s := by
  unfold hit
  rw [decide_eq_true_iff, thereN_eq]
  constructor
  · rintro ⟨_, h1, h2⟩
    have h3 : lenAt l s ≤ thereN b q := by rw [thereN_eq]; omega
    exact ⟨by omega, by rw [next_full h3]; exact h2⟩
  · rintro ⟨h1, h2⟩
    have h3 : lenAt l s ≤ thereN b q := by rw [thereN_eq]; exact h1
    exact ⟨h0, by omega, by rw [← next_full h3]; exact h2⟩
theorem near_next {s : Nat} (h15 : lenAt l s ≤ 15) (h : near l b q s = true) : thereN b q < lenAt l s ∧ nextN b q ≤ startOf l s := by
  obtain ⟨_, h1, h2⟩ := of_decide_eq_true h
  have e : thereN b q = 8 * b.length - q := by rw [thereN_eq]; omega
  refine ⟨by omega, ?_⟩
  rw [nextN_eq, e, h2]
  unfold startOf
  rw [show 15 - (8 * b.length - q) = (lenAt l s - (8 * b.length - q)) + (15 - lenAt l s) by omega, Nat.pow_add, ← Nat.mul_assoc]
  exact Nat.mul_le_mul_right _ (Nat.div_mul_le_self _ _)
theorem near_of {s : Nat} (h0 : lenAt l s ≠ 0) (h15 : lenAt l s ≤ 15) (h : thereN b q < lenAt l s) (he : nextN b q / 2 ^ (15 - lenAt l s) = word l s) : near l b q s = true := by
  have e : thereN b q = 8 * b.length - q := by rw [thereN_eq] at h ⊢; omega
  rw [next_part (by omega) h15, e] at he
  refine decide_eq_true ⟨h0, by omega, ?_⟩
  rw [← he, Nat.mul_div_cancel _ (Nat.pow_pos (by omega))]
theorem in_range {s N : Nat} (h1 : startOf l s ≤ N) (h2 : N < startOf l s + 2 ^ (15 - lenAt l s)) : N / 2 ^ (15 - lenAt l s) = word l s := by
  have hp : 0 < 2 ^ (15 - lenAt l s) := Nat.pow_pos (by omega)
  unfold startOf at *
  refine Nat.div_eq_of_lt_le (by omega) ?_
  rw [Nat.add_mul, Nat.one_mul]
  exact h2
theorem of_range {s N : Nat} (h : N / 2 ^ (15 - lenAt l s) = word l s) : startOf l s ≤ N ∧ N < startOf l s + 2 ^ (15 - lenAt l s) := by
  have hp : 0 < 2 ^ (15 - lenAt l s) := Nat.pow_pos (by omega)
  unfold startOf
  rw [← h]
  have h1 := Nat.div_mul_le_self N (2 ^ (15 - lenAt l s))
  have h2 := Nat.lt_div_mul_add hp (a := N)
  omega
theorem find_none (h : Ord l 16 0 []) (hr : right l = true) : getE l b q = (-1, 7, q) := by
  have h0 : ∀ s, s < l.length → lenAt l s = 0 := fun s hs => Classical.byContradiction fun hn => by
    obtain ⟨i, hi, _⟩ := h.mem hr hs hn
    simp at hi
  rw [getE_none fun s hs => decide_eq_false fun h2 => h2.1 (h0 s hs), if_neg]
  rw [Bool.not_eq_true, List.any_eq_false]
  intro s hs hn
  exact (of_decide_eq_true hn).1 (h0 s (List.mem_range.1 hs))
theorem find_is {O : List Nat} (h : Ord l 16 0 O) (hr : right l = true) {a : Nat} (ha : a < O.length) (h1 : (starts l O).getD a 0 ≤ nextN b q) (h2 : a + 1 < O.length → nextN b q < (starts l O).getD (a + 1) 0) :
    getE l b q = if nextN b q / 2 ^ (15 - lenAt l (O.getD a 0)) ≠ word l (O.getD a 0) then (-1, 7, q) else if thereN b q < lenAt l (O.getD a 0) then (-1, 1, q) else (((O.getD a 0 : Nat) : Int), 0, q + lenAt l (O.getD a 0)) := by
  obtain ⟨hs, h0, hst⟩ := h.at_ a ha
  have h15 := (right_facts hr).2.1
  rw [starts_at ha] at h1
  generalize hse : O.getD a 0 = s at *
  by_cases hw : nextN b q / 2 ^ (15 - lenAt l s) = word l s
  · rw [if_neg (fun hn => hn hw)]
    by_cases ht : thereN b q < lenAt l s
    · rw [if_pos ht]
      have hn := near_of (b := b) (q := q) h0 (h15 s hs) ht hw
      have hno : ∀ t, t < l.length → hit l b q t = false := fun t htl => by
        rw [← Bool.not_eq_true]
        intro hh
        by_cases t0 : lenAt l t = 0
        · exact (of_decide_eq_true hh).1 t0
        obtain ⟨a1, a2⟩ := (hit_iff t0 (h15 t htl)).1 hh
        have hne : t ≠ s := fun e => by subst e; omega
        refine word_apart htl hs hne t0 h0 (h15 s hs) (by omega) ?_
        rw [← hw, Nat.div_div_eq_div_mul, ← Nat.pow_add, show 15 - lenAt l s + (lenAt l s - lenAt l t) = 15 - lenAt l t by have := h15 s hs; omega]
        exact a2
      rw [getE_none hno, if_pos]
      exact List.any_eq_true.2 ⟨s, List.mem_range.2 hs, hn⟩
    · rw [if_neg ht]
      exact getE_hit hr hs ((hit_iff h0 (h15 s hs)).2 ⟨by omega, hw⟩)
  · rw [if_pos hw]
    have hge : startOf l s + 2 ^ (15 - lenAt l s) ≤ nextN b q := by
      rcases Nat.lt_or_ge (nextN b q) (startOf l s + 2 ^ (15 - lenAt l s)) with hlt | hge
      · exact absurd (in_range h1 hlt) hw
      · exact hge
    have hlast : a + 1 = O.length := by
      rcases Nat.lt_or_ge (a + 1) O.length with hlt | hge2
      · have := h2 hlt
        rw [starts_at hlt, (h.at_ (a + 1) hlt).2.2, tot_succ ha, hse, ← hst] at this
        omega
      · omega
    have htot : tot l O ≤ nextN b q := by
      have e : tot l (O.take (a + 1)) = tot l O := by rw [hlast, List.take_length]
      rw [tot_succ ha, hse, ← hst] at e
      omega
    have hend : ∀ t, t < l.length → lenAt l t ≠ 0 → startOf l t + 2 ^ (15 - lenAt l t) ≤ nextN b q := fun t ht t0 => by
      obtain ⟨i, hi, e⟩ := h.mem hr ht t0
      have h3 := h.at_ i hi
      rw [e] at h3
      have h4 := tot_le (l := l) (O := O) (i := i + 1) (by omega)
      rw [tot_succ hi, e, ← h3.2.2] at h4
      omega
    rw [getE_none, if_neg]
    · rw [Bool.not_eq_true, List.any_eq_false]
      intro t ht hn
      have htl := List.mem_range.1 ht
      have t0 : lenAt l t ≠ 0 := fun e => (of_decide_eq_true hn).1 e
      have h3 := near_next (h15 t htl) hn
      have h4 := hend t htl t0
      have : 0 < 2 ^ (15 - lenAt l t) := Nat.pow_pos (by omega)
      omega
    · intro t htl
      rw [← Bool.not_eq_true]
      intro hh
      have t0 : lenAt l t ≠ 0 := fun e => (of_decide_eq_true hh).1 e
      have h3 := (hit_iff t0 (h15 t htl)).1 hh
      have h4 := hend t htl t0
      have h5 := of_range h3.2
      omega
end
end Go.Proofs.Ytaohdnhfodkeoaa.Huf

namespace Go.Proofs.Ytaohdnhfodkeoaa
open Go.RowKit
theorem nan79_any (x : Nat) (w : World) : Calls Try.prog 124 #[.int .u16 (x : Int)] w fun e w' => e = .returned (.bool false) ∧ w = w' := by
  have hb : ((x : Int) != (x : Int)) = false := by simp
  go_enter Try.func124, Try.ntmps124
  go_wp2
  go_ret
  exact ⟨rfl, rfl⟩
theorem nan71_any (x : Nat) (w : World) : Calls Try.prog 114 #[.int .u16 (x : Int)] w fun e w' => e = .returned (.bool false) ∧ w = w' := by
  have hb : ((x : Int) != (x : Int)) = false := by simp
  go_enter Try.func114, Try.ntmps114
  go_wp2
  go_ret
  exact ⟨rfl, rfl⟩
theorem less16_any (x y : Nat) (w : World) : Calls Try.prog 113 #[.int .u16 (x : Int), .int .u16 (y : Int)] w fun e w' => e = .returned (.bool (decide (x < y))) ∧ w = w' := by
  by_cases h : x < y
  · have hI : (x : Int) < (y : Int) := by omega
    go_enter Try.func113, Try.ntmps113
    go_wp2_with (refine (nan79_any _ _).mono ?_; rintro e w' ⟨rfl, rfl⟩)
    go_ret
    exact ⟨by simp [h], rfl⟩
  · have hI : ¬ (x : Int) < (y : Int) := by omega
    go_enter Try.func113, Try.ntmps113
    go_wp2_with (refine (nan79_any _ _).mono ?_; rintro e w' ⟨rfl, rfl⟩)
    go_ret
    exact ⟨by simp [h], rfl⟩
def Found16 (w : World) (T : List Nat) (N : Nat) (e : Ending) (w' : World) : Prop :=
  ∃ i, i ≤ T.length ∧ (∀ j, j < i → T.getD j 0 < N) ∧ (∀ j, i ≤ j → j < T.length → N ≤ T.getD j 0) ∧ e = .returned (.tuple #[.int .i64 (i : Int), .bool (decide (i < T.length ∧ T.getD i 0 = N))]) ∧ w = w'
set_option maxHeartbeats 1000000 in
theorem bsearch16_any {w : World} {B : Nat} {A : Option Addr} {c : Nat} {T : List Nat} (h : H16At w B A T.length T) (hT : T.length ≤ 1000000) (hs : ∀ i j, i ≤ j → j < T.length → T.getD i 0 ≤ T.getD j 0) (N : Nat) :
    Calls Try.prog 106 #[.slice A T.length c, .int .u16 (N : Int)] w (Found16 w T N) := by
  have H := hide h.2
  have HS := hide hs
  clear h hs
  generalize hn : T.length = n at *
  have HN := hide hn
  clear hn
  go_enter Try.func106, Try.ntmps106
  go_wp2
  go_loop [7, 8] (fun i j => ∃ a b : Nat, i = .int .i64 (a : Int) ∧ j = .int .i64 (b : Int) ∧ a ≤ b ∧ b ≤ n ∧ (∀ t, t < a → T.getD t 0 < N) ∧ (∀ t, b ≤ t → t < n → N ≤ T.getD t 0)) (fun i j => (intOf j).toNat - (intOf i).toNat)
  case atStart => exact ⟨0, n, rfl, rfl, by omega, Nat.le_refl _, fun t ht => absurd ht (by omega), fun t h1 h2 => by omega⟩
  case round =>
    obtain ⟨a, b, rfl, rfl, hab, hbn, h1, h2⟩ := hrel
    have H1 := hide h1
    have H2 := hide h2
    clear h1 h2
    by_cases hlt : a < b
    · have hltI : (a : Int) < (b : Int) := by omega
      rcases H.out with h0 | ⟨bk, off, rfl, _, hc⟩
      · omega
      obtain ⟨k, hk⟩ : ∃ k, k = (a + b) / 2 := ⟨_, rfl⟩
      have hkb : k < b := by omega
      have hak : a ≤ k := by omega
      have e1 := hc k (by omega)
      have hkI : ((a : Int) + (b : Int)) / 2 = (k : Int) := by omega
      have hkn : k < n := by omega
      obtain ⟨x, hx⟩ : ∃ x, x = T.getD k 0 := ⟨_, rfl⟩
      rw [← hx] at e1
      have HX := hide hx
      clear hc hx hk
      by_cases hxn : x < N
      · have hd : decide (x < N) = true := by simpa using hxn
        have HR1 := hide (show ∀ t, t < k + 1 → T.getD t 0 < N from fun t ht => Nat.lt_of_le_of_lt (HS.out t k (by omega) hkn) (by rw [← HX.out]; exact hxn))
        go_wp2_with (refine (less16_any _ _ _).mono ?_; rintro e w' ⟨rfl, rfl⟩)
        go_round
        case rel => exact ⟨k + 1, b, by go_num, rfl, by omega, hbn, HR1.out, H2.out⟩
        case measure => simp [intOf]; omega
      · have hd : decide (x < N) = false := by simpa using hxn
        have HR2 := hide (show ∀ t, k ≤ t → t < n → N ≤ T.getD t 0 from fun t ht htn => Nat.le_trans (by rw [← HX.out]; omega) (HS.out k t ht htn))
        go_wp2_with (refine (less16_any _ _ _).mono ?_; rintro e w' ⟨rfl, rfl⟩)
        go_round
        case rel => exact ⟨a, k, rfl, rfl, by omega, by omega, H1.out, HR2.out⟩
        case measure => simp [intOf]; omega
    · obtain rfl : a = b := by omega
      have hnI : ¬ (a : Int) < (a : Int) := by omega
      by_cases han : a < n
      · have hanI : (a : Int) < (n : Int) := by omega
        rcases H.out with h0 | ⟨bk, off, rfl, _, hc⟩
        · omega
        have e1 := hc a han
        obtain ⟨x, hx⟩ : ∃ x, x = T.getD a 0 := ⟨_, rfl⟩
        rw [← hx] at e1
        have HX := hide hx
        clear hc hx
        by_cases hxn : x = N
        · have hxb : ((x : Int) == (N : Int)) = true := by simp [hxn]
          have HXN := hide hxn
          clear hxn
          go_wp2
          go_ret2
          exact ⟨a, by rw [HN.out]; omega, H1.out, fun j h1 h2 => H2.out j h1 (by rw [HN.out] at h2; exact h2), (congrArg (fun z => Ending.returned (.tuple #[.int .i64 (a : Int), .bool z])) (decide_eq_true ⟨by rw [HN.out]; exact han, by rw [← HX.out, HXN.out]⟩).symm), rfl⟩
        · have hxb : ((x : Int) == (N : Int)) = false := by rw [beq_eq_false_iff_ne]; omega
          go_wp2_with (refine (nan71_any _ _).mono ?_; rintro e w' ⟨rfl, rfl⟩)
          go_ret2
          exact ⟨a, by rw [HN.out]; omega, H1.out, fun j h1 h2 => H2.out j h1 (by rw [HN.out] at h2; exact h2), (congrArg (fun z => Ending.returned (.tuple #[.int .i64 (a : Int), .bool z])) (decide_eq_false (by rw [← HX.out]; exact fun h => hxn h.2)).symm), rfl⟩
      · have hanI : ¬ (a : Int) < (n : Int) := by omega
        go_wp2
        go_ret2
        exact ⟨a, by rw [HN.out]; omega, H1.out, fun j h1 h2 => H2.out j h1 (by rw [HN.out] at h2; exact h2), (congrArg (fun z => Ending.returned (.tuple #[.int .i64 (a : Int), .bool z])) (decide_eq_false (by rw [HN.out]; exact fun h => han h.1)).symm), rfl⟩
end Go.Proofs.Ytaohdnhfodkeoaa

namespace Go.Proofs.Ytaohdnhfodkeoaa
open Go.RowKit Len Can Huf
def Huf.lenX (l : List UInt8) (s : Int) : Nat := if 0 ≤ s ∧ s < (l.length : Int) then lenAt l s.toNat else 0
theorem Huf.lenX_at {l : List UInt8} {s : Nat} (h : s < l.length) : lenX l (s : Int) = lenAt l s := by
  unfold lenX
  rw [if_pos (by omega), Int.toNat_natCast]
theorem Huf.lenX_fine (l : List UInt8) (s : Int) : (fine l s = true → lenX l s = lenAt l s.toNat ∧ lenX l s ≠ 0) ∧ (fine l s = false → lenX l s = 0) := by
  unfold fine lenX
  constructor
  · intro h
    obtain ⟨h1, h2, h3⟩ := of_decide_eq_true h
    rw [if_pos ⟨h1, h2⟩]
    exact ⟨rfl, h3⟩
  · intro h
    have h1 := of_decide_eq_false h
    split
    · rename_i h2
      exact Classical.byContradiction fun h3 => h1 ⟨h2.1, h2.2, h3⟩
    · rfl
theorem ret_two {a b c d : Int} (h : (a, b) = (c, d)) : Ending.returned (.tuple #[.int .i64 a, .int .i64 b]) = .returned (.tuple #[.int .i64 c, .int .i64 d]) := by
  injection h with h1 h2
  rw [h1, h2]
theorem hlength_any {w : World} {B g c : Nat} {A : Option Addr} {l : List UInt8} (h : w.cell? ⟨g, 0, none⟩ = some (.slice A l.length c)) (hb : Bytes w B A l.length l) (s : Int) :
    Calls Try.prog 71 #[.pointer (some ⟨g, 0, none⟩), .int .i64 s] w fun e w' => e = .returned (.int .i64 ((lenX l s : Nat) : Int)) ∧ w = w' := by
  by_cases h0 : s < 0
  · have hx : lenX l s = 0 := by unfold lenX; rw [if_neg (by omega)]
    rw [hx]
    clear hx
    go_enter Try.func71, Try.ntmps71
    go_wp2
    go_ret
    exact ⟨rfl, rfl⟩
  obtain ⟨k, rfl⟩ := Int.eq_ofNat_of_zero_le (show 0 ≤ s by omega)
  by_cases hk : k < l.length
  · have hkI : (k : Int) < (l.length : Int) := by omega
    rcases hb.2 with hn | ⟨b1, o1, rfl, hb1, hc1⟩
    · omega
    have e1 : w.cell? ⟨b1, o1 + k, none⟩ = some (.int .u8 ((lenAt l k : Nat) : Int)) := hc1 k hk
    have hy : lenAt l k < 256 := UInt8.toNat_lt _
    rw [lenX_at hk]
    clear hc1 hb
    generalize lenAt l k = y at *
    go_enter Try.func71, Try.ntmps71
    go_wp2
    go_ret
    exact ⟨rfl, rfl⟩
  · have hkI : ¬ (k : Int) < (l.length : Int) := by omega
    have hx : lenX l (k : Int) = 0 := by unfold lenX; rw [if_neg (by omega)]
    rw [hx]
    clear hx
    go_enter Try.func71, Try.ntmps71
    go_wp2
    go_ret
    exact ⟨rfl, rfl⟩
def TabAt (w : World) (B g : Nat) (l : List UInt8) : Prop :=
  ∃ A1 c1 A2 c2 A3 c3 A4 c4 O, w.cell? ⟨g, 0, none⟩ = some (.slice A1 l.length c1) ∧ w.cell? ⟨g, 1, none⟩ = some (.slice A2 l.length c2) ∧ w.cell? ⟨g, 2, none⟩ = some (.slice A3 O.length c3) ∧ w.cell? ⟨g, 3, none⟩ = some (.slice A4 O.length c4) ∧
    Bytes w B A1 l.length l ∧ H16At w B A2 l.length (codesL l) ∧ IntsAt w B A3 O.length (O.map fun s : Nat => (s : Int)) ∧ H16At w B A4 O.length (starts l O) ∧ Ord l 16 0 O
theorem TabAt.drewN {w : World} {B g : Nat} {l : List UInt8} (h : TabAt w B g l) (n : Nat) : TabAt (w.drewN n) B g l := h
theorem Huf.spot {l : List UInt8} {O : List Nat} {N i : Nat} (h : Ord l 16 0 O) (hi : i ≤ (starts l O).length) (h1 : ∀ j, j < i → (starts l O).getD j 0 < N) (h2 : ∀ j, i ≤ j → j < (starts l O).length → N ≤ (starts l O).getD j 0) :
    ((i < (starts l O).length ∧ (starts l O).getD i 0 = N) → i < O.length ∧ (starts l O).getD i 0 ≤ N ∧ (i + 1 < O.length → N < (starts l O).getD (i + 1) 0)) ∧
    (¬ (i < (starts l O).length ∧ (starts l O).getD i 0 = N) → (i = 0 ∧ O = []) ∨ ∃ a, i = a + 1 ∧ a < O.length ∧ (starts l O).getD a 0 ≤ N ∧ (a + 1 < O.length → N < (starts l O).getD (a + 1) 0)) := by
  rw [starts_len] at *
  constructor
  · rintro ⟨h3, h4⟩
    refine ⟨h3, by omega, fun h5 => ?_⟩
    have := h.lt (i := i) (j := i + 1) (by omega) h5
    omega
  · intro h3
    rcases i with _ | a
    · left
      refine ⟨rfl, ?_⟩
      rcases Nat.eq_zero_or_pos O.length with h0 | h0
      · exact List.eq_nil_of_length_eq_zero h0
      · have h4 := h2 0 (Nat.le_refl _) h0
        have h5 := h.first h0
        exact absurd ⟨h0, by omega⟩ h3
    · right
      refine ⟨a, rfl, by omega, Nat.le_of_lt (h1 a (by omega)), fun h5 => ?_⟩
      have h4 := h2 (a + 1) (Nat.le_refl _) h5
      rcases Nat.lt_or_ge N ((starts l O).getD (a + 1) 0) with h6 | h6
      · exact h6
      · exact absurd ⟨h5, by omega⟩ h3
def Huf.tellF (l : List UInt8) (N m s : Nat) : Int × Int := if N / 2 ^ (15 - lenAt l s) ≠ word l s then (-1, 7) else if m < lenAt l s then (-1, 1) else ((s : Int), 0)
set_option maxHeartbeats 2000000 in
theorem hfind_any {w : World} {B g : Nat} {l : List UInt8} (h : TabAt w B g l) (hr : right l = true) (b : List UInt8) (q : Nat) :
    Calls Try.prog 93 #[.pointer (some ⟨g, 0, none⟩), .int .u64 ((nextN b q : Nat) : Int), .int .i64 ((thereN b q : Nat) : Int)] w
      fun e w' => e = .returned (.tuple #[.int .i64 (getE l b q).1, .int .i64 (getE l b q).2.1]) ∧ Qt w w' := by
  obtain ⟨A1, c1, A2, c2, A3, c3, A4, c4, O, e1, e2, e3, e4, h1, h2, h3, h4, hO⟩ := h
  have hN := nextN_lt b q
  have hm : thereN b q ≤ 15 := by rw [thereN_eq]; omega
  have HNone := hide (show O = [] → ((getE l b q).1, (getE l b q).2.1) = (-1, 7) from fun e => by subst e; rw [find_none hO hr])
  have HIs := hide (show ∀ a, a < O.length → (starts l O).getD a 0 ≤ nextN b q → (a + 1 < O.length → nextN b q < (starts l O).getD (a + 1) 0) → ((getE l b q).1, (getE l b q).2.1) = tellF l (nextN b q) (thereN b q) (O.getD a 0) from fun a ha h5 h6 => by
    rw [find_is hO hr ha h5 h6]
    unfold tellF
    split
    · rfl
    · split <;> rfl)
  have h16 : H16At w B A4 (starts l O).length (starts l O) := by rw [starts_len]; exact h4
  have hlen := starts_len l O
  have hlen3 := hO.len_300 hr
  have C := bsearch16_any (c := c4) h16 (by omega) (fun i j hij hj => hO.le hij (by omega)) (nextN b q)
  rw [hlen] at C
  have HSp := hide (fun i => Huf.spot (N := nextN b q) (i := i) hO)
  have HFit := hide (show ∀ a, a < O.length → O.getD a 0 < l.length ∧ lenAt l (O.getD a 0) ≤ 15 ∧ word l (O.getD a 0) < 32768 from fun a ha => by
    have h5 := (hO.at_ a ha).1
    exact ⟨h5, (right_facts hr).2.1 _ h5, word_lt hr h5⟩)
  have HO := hide hO
  have HB := hide h1
  have H2 := hide h2.2
  have H3 := hide h3.2
  clear h1 h2 h3 h4 h16 hO hr
  generalize nextN b q = N at *
  generalize thereN b q = m at *
  generalize getE l b q = r at *
  have Hlen := hide hlen
  clear hlen
  have hN16 : (N : Int) % 65536 = (N : Int) := by omega
  have HN16 := hide hN16
  clear hN16
  go_enter Try.func93, Try.ntmps93
  go_wp2_with fail
  refine C.mono ?_
  rintro e w' ⟨i, hi1, hi2, hi3, rfl, rfl⟩
  obtain ⟨hs1, hs2⟩ := HSp.out i hi1 hi2 hi3
  clear hi2 hi3 C
  have HS1 := hide hs1
  have HS2 := hide hs2
  clear hs1 hs2
  have rest : ∀ a : Nat, a < O.length → (starts l O).getD a 0 ≤ N → (a + 1 < O.length → N < (starts l O).getD (a + 1) 0) → ∃ s b3 o3, A3 = some ⟨b3, o3, none⟩ ∧ w.cell? ⟨b3, o3 + a, none⟩ = some (.int .i64 ((s : Nat) : Int)) ∧ s < l.length ∧ lenAt l s ≤ 15 ∧ word l s < 32768 ∧ (r.1, r.2.1) = tellF l N m s := fun a ha h5 h6 => by
    obtain ⟨hf1, hf2, hf3⟩ := HFit.out a ha
    rcases H3.out with h0 | ⟨b3, o3, hA, _, hc⟩
    · omega
    refine ⟨O.getD a 0, b3, o3, hA, ?_, hf1, hf2, hf3, HIs.out a ha h5 h6⟩
    rw [hc a ha]
    simp [List.getD_eq_getElem?_getD, ha]
  have HRest := hide rest
  clear rest
  by_cases hq : i < (starts l O).length ∧ (starts l O).getD i 0 = N
  · rw [decide_eq_true hq]
    obtain ⟨ha, h5, h6⟩ := HS1.out hq
    obtain ⟨s, b3, o3, rfl, e5, hsl, h15, hwl, htell⟩ := HRest.out i ha h5 h6
    clear hq h5 h6
    have hlx := lenX_at hsl
    have CL := hlength_any e1 HB.out (s : Int)
    rw [hlx] at CL
    rcases H2.out with h0 | ⟨b2, o2, rfl, _, hc2⟩
    · omega
    have e6 : w.cell? ⟨b2, o2 + s, none⟩ = some (.int .u16 ((word l s : Nat) : Int)) := by rw [hc2 s hsl, codesL_at hsl]
    have HT := hide htell
    clear htell hc2 hlx HS1 HS2 HRest
    unfold tellF at HT
    generalize word l s = x at *
    generalize lenAt l s = y at *
    go_wp2_with fail
    refine CL.mono ?_
    rintro e w' ⟨rfl, rfl⟩
    clear CL
    have hsh : IntKind.i64.wrap (15 - (y : Int)) = 15 - (y : Int) := IntWalk.i64_in _ (by omega)
    have hsh0 : (0 : Int) ≤ 15 - (y : Int) := by omega
    have hsh1 : (15 - (y : Int)).toNat = 15 - y := by omega
    have hcast : (N : Int) / 2 ^ (15 - y) = ((N / 2 ^ (15 - y) : Nat) : Int) := by simp
    by_cases hw : N / 2 ^ (15 - y) = x
    · have HT2 := hide (show (r.1, r.2.1) = if m < y then (-1, 1) else ((s : Int), 0) by rw [HT.out, if_neg (fun hn => hn hw)])
      have hbe : ((N : Int) / 2 ^ (15 - y) != (x : Int)) = false := by rw [hcast, hw]; simp
      clear hw hcast
      by_cases hmy : m < y
      · have HT3 := hide (show (r.1, r.2.1) = (-1, 1) by rw [HT2.out, if_pos hmy])
        go_wp2_with fail
        go_quiet (fail)
        go_wp2
        go_ret2
        exact ⟨ret_two HT3.out.symm, _, rfl⟩
      · have HT3 := hide (show (r.1, r.2.1) = ((s : Int), 0) by rw [HT2.out, if_neg hmy])
        go_wp2_with fail
        go_quiet (fail)
        go_wp2
        go_ret2
        exact ⟨ret_two HT3.out.symm, _, rfl⟩
    · have HT2 := hide (show (r.1, r.2.1) = (-1, 7) by rw [HT.out, if_pos hw])
      have hbe : ((N : Int) / 2 ^ (15 - y) != (x : Int)) = true := by rw [hcast, bne_iff_ne]; omega
      clear hw hcast
      go_wp2_with fail
      go_quiet (fail)
      go_wp2
      go_ret2
      exact ⟨ret_two HT2.out.symm, _, rfl⟩
  · rw [decide_eq_false hq]
    rcases HS2.out hq with ⟨rfl, rfl⟩ | ⟨a, rfl, ha, h5, h6⟩
    · have HN := hide (HNone.out rfl)
      clear hq
      go_wp2
      go_ret2
      exact ⟨ret_two HN.out.symm, Qt.refl _⟩
    obtain ⟨s, b3, o3, rfl, e5, hsl, h15, hwl, htell⟩ := HRest.out a ha h5 h6
    have hai : ((a + 1 : Nat) : Int) - 1 = (a : Int) := by omega
    have hai0 : (0 : Int) ≤ (a : Int) := by omega
    clear hq h5 h6
    have hlx := lenX_at hsl
    have CL := hlength_any e1 HB.out (s : Int)
    rw [hlx] at CL
    rcases H2.out with h0 | ⟨b2, o2, rfl, _, hc2⟩
    · omega
    have e6 : w.cell? ⟨b2, o2 + s, none⟩ = some (.int .u16 ((word l s : Nat) : Int)) := by rw [hc2 s hsl, codesL_at hsl]
    have HT := hide htell
    clear htell hc2 hlx HS1 HS2 HRest
    unfold tellF at HT
    generalize word l s = x at *
    generalize lenAt l s = y at *
    go_wp2_with fail
    refine CL.mono ?_
    rintro e w' ⟨rfl, rfl⟩
    clear CL
    have hsh : IntKind.i64.wrap (15 - (y : Int)) = 15 - (y : Int) := IntWalk.i64_in _ (by omega)
    have hsh0 : (0 : Int) ≤ 15 - (y : Int) := by omega
    have hsh1 : (15 - (y : Int)).toNat = 15 - y := by omega
    have hcast : (N : Int) / 2 ^ (15 - y) = ((N / 2 ^ (15 - y) : Nat) : Int) := by simp
    by_cases hw : N / 2 ^ (15 - y) = x
    · have HT2 := hide (show (r.1, r.2.1) = if m < y then (-1, 1) else ((s : Int), 0) by rw [HT.out, if_neg (fun hn => hn hw)])
      have hbe : ((N : Int) / 2 ^ (15 - y) != (x : Int)) = false := by rw [hcast, hw]; simp
      clear hw hcast
      by_cases hmy : m < y
      · have HT3 := hide (show (r.1, r.2.1) = (-1, 1) by rw [HT2.out, if_pos hmy])
        go_wp2_with fail
        go_quiet (fail)
        go_wp2
        go_ret2
        exact ⟨ret_two HT3.out.symm, _, rfl⟩
      · have HT3 := hide (show (r.1, r.2.1) = ((s : Int), 0) by rw [HT2.out, if_neg hmy])
        go_wp2_with fail
        go_quiet (fail)
        go_wp2
        go_ret2
        exact ⟨ret_two HT3.out.symm, _, rfl⟩
    · have HT2 := hide (show (r.1, r.2.1) = (-1, 7) by rw [HT.out, if_pos hw])
      have hbe : ((N : Int) / 2 ^ (15 - y) != (x : Int)) = true := by rw [hcast, bne_iff_ne]; omega
      clear hw hcast
      go_wp2_with fail
      go_quiet (fail)
      go_wp2
      go_ret2
      exact ⟨ret_two HT2.out.symm, _, rfl⟩
end Go.Proofs.Ytaohdnhfodkeoaa

namespace Go.Proofs.Ytaohdnhfodkeoaa
open Go.RowKit Len Can
theorem wpList_makeH {ops : Array Oper} {rest : List Oper} {o : Oper} {a : Act} {Q : Exit → Act → World → Prop} {w : World} (hgd : o.guard = none) (x y : Operand) (ho : o.op = .makeSlice 72 x y) {n : Nat} (hx : a.eval x = .int .i64 (n : Int)) (hy : a.eval y = .int .i64 (n : Int)) (hn : n ≤ 1000)
    (h : ∀ w', OwnH w' w.heap.size (.slice (some ⟨w.heap.size, 0, none⟩) n n) (List.replicate n 0) → Ext w w' → wpList Try.prog ops Q rest (a.put o.dst (.slice (some ⟨w.heap.size, 0, none⟩) n n)) w') : wpList Try.prog ops Q (o :: rest) a w := by
  obtain ⟨i, hi, hz, hsz, hby⟩ := info_parts h16_info
  refine wpList_make_full w hgd x y 72 ho w.heap.size 111 i _ 1 Try.underlying72 hi hz hsz .i64 .i64 _ _ n hx hy rfl rfl (by rw [hby]; omega) (by unfold maxLen; omega) (Nat.le_refl _) ?_
  intro w' h1 h2
  refine h w' ?_ (Below.grown (Ext.refl w) h2 (Nat.le_refl _) fun k hk => by cases hk)
  unfold OwnH
  have e : (madeCells (Value.int .u16 0).cells (n * 1)).toList = (List.replicate n (0 : Nat)).map h16V := by
    have : madeCells (Value.int .u16 0).cells n = ((List.replicate n (0 : Nat)).map h16V).toArray := by
      apply Array.ext
      · simp [size_madeCells]
      · intro i h1 h2
        simp [madeCells, Value.cells, h16V, Nat.mod_one]
    rw [Nat.mul_one, this]
  rw [e] at h1
  simpa using h1
def Can.nextF (l : List UInt8) (s k : Nat) : Nat := if k = 0 then 0 else fst l k + cnt l s k
theorem Can.next_none (l : List UInt8) : h16A (fst l) = h16A (nextF l 0) := rfl
theorem Can.next_pass (l : List UInt8) {s : Nat} (h : lenAt l s = 0) : h16A (nextF l s) = h16A (nextF l (s + 1)) := by
  congr 1
  funext k
  unfold nextF
  by_cases h0 : k = 0
  · rw [if_pos h0, if_pos h0]
  · rw [if_neg h0, if_neg h0, cnt_succ, if_neg (by omega), Nat.add_zero]
theorem Can.next_step (l : List UInt8) {s : Nat} (hs : s < l.length) (h : lenAt l s ≠ 0) : nextF l s (lenAt l s) = word l s ∧ (h16A (nextF l s)).setIfInBounds (lenAt l s) (.int .u16 ((word l s + 1 : Nat) : Int)) = h16A (nextF l (s + 1)) := by
  have e : nextF l s (lenAt l s) = word l s := by
    unfold nextF
    rw [if_neg h, word_fst l hs h]
  refine ⟨e, h16A_set _ _ _ _ fun j _ => ?_⟩
  by_cases hj : j = lenAt l s
  · rw [if_pos hj, ← e, hj]
    unfold nextF
    rw [if_neg h, if_neg h, cnt_succ, if_pos rfl]
    omega
  · rw [if_neg hj]
    unfold nextF
    by_cases h0 : j = 0
    · rw [if_pos h0, if_pos h0]
    · rw [if_neg h0, if_neg h0, cnt_succ, if_neg (fun e => hj e.symm), Nat.add_zero]
set_option maxHeartbeats 2000000 in
set_option maxRecDepth 100000 in
theorem codes_any (A : Option Addr) (n c : Nat) (l : List UInt8) (w : World) (h : Bytes w w.heap.size A n l) : Calls Try.prog 105 #[.slice A n c] w (TellsH w (codesE l)) := by
  have C := countOut_any A n c l w h
  unfold Counted at C
  have hl := h.1
  subst hl
  have HZ := hide cntV_zero
  have hsz := cntV_size (outF l)
  have hone := cntV_one (outF l)
  have hinf : (Try.prog.info? 170).map (·.size) = some (cntV (outF l)).size := by rw [hsz]; exact cnt_info
  have hss : (cntV (outF l)).size = (cntV fun _ => 0).size := by rw [hsz, cntV_size]
  rw [HZ.out] at hss
  cases hr : right l with
  | false =>
    have HN := hide (show codesE l = ([], 7) by unfold codesE; rw [hr]; rfl)
    rw [check_wrong hr] at C
    clear hr h
    generalize cntV (outF l) = V at *
    go_enter Try.func105, Try.ntmps105
    go_wp2_with fail
    refine C.mono ?_
    rintro e w2 ⟨rfl, hE⟩
    have hM := Whole.new w2 170 (cntV fun _ => 0)
    have hE2 := hE.alloc (.cells (cntV fun _ => 0) 170)
    rw [HZ.out] at hM hE2
    go_wp2_with (refine wpList_storeW rfl 170 (.tmp 4) (.tmp 13) rfl rfl rfl hM hss hinf hone ?_; intro w5 hW5 hG5 _)
    go_ret2
    rw [HN.out]
    exact ⟨_, rfl, OwnH.nil _ _, Below.grown hE2 hG5 hE2.le (fun k hk => by cases hk; exact hE.le)⟩
  | true =>
    have HN := hide (show codesE l = (codesL l, 0) by unfold codesE; rw [hr]; rfl)
    rw [check_right hr] at C
    obtain ⟨h300, h15, _⟩ := right_facts hr
    have HF := fun W => cFirsts_any l hr W
    have HO : outF l = cnt l l.length := by unfold outF; rw [hr]; rfl
    rw [← HO] at HF
    have HLt := hide (show ∀ s, s < l.length → word l s < 32768 from fun s hs => word_lt hr hs)
    have H15 := hide h15
    have HNone := hide (codesTo_none l)
    have HAll := hide (codesTo_all l)
    have HLen := hide (codesTo_len l)
    have HSet := hide (codesTo_set l)
    have HPass := hide (show ∀ s, lenAt l s = 0 → codesTo l s = codesTo l (s + 1) from fun s hs => codesTo_pass l hs)
    have HNx0 := hide (next_none l)
    have HNxP := hide (show ∀ s, lenAt l s = 0 → h16A (nextF l s) = h16A (nextF l (s + 1)) from fun s hs => next_pass l hs)
    have HNxS := hide (show ∀ s, s < l.length → lenAt l s ≠ 0 → nextF l s (lenAt l s) = word l s ∧ (h16A (nextF l s)).setIfInBounds (lenAt l s) (.int .u16 ((word l s + 1 : Nat) : Int)) = h16A (nextF l (s + 1)) from fun s hs h => next_step l hs h)
    have HSzA := hide (show ∀ f, (h16A f).size = 16 from h16A_size)
    have HAtA := hide (show ∀ f k, k < 16 → (h16A f)[k]? = some (.int .u16 ((f k : Nat) : Int)) from fun f k h => h16A_at f h)
    have honeF := h16A_one (fst l)
    have hinfF : (Try.prog.info? 181).map (·.size) = some (h16A (fst l)).size := by rw [h16A_size]; exact f16_info
    have hssF : (h16A (fst l)).size = (#[.int .u16 0, .int .u16 0, .int .u16 0, .int .u16 0, .int .u16 0, .int .u16 0, .int .u16 0, .int .u16 0, .int .u16 0, .int .u16 0, .int .u16 0, .int .u16 0, .int .u16 0, .int .u16 0, .int .u16 0, .int .u16 0] : Array Value).size := by rw [h16A_size]; rfl
    have hl300 : l.length ≤ 1000 := by omega
    clear hr h15 HO hsz
    generalize cntV (outF l) = V at *
    obtain ⟨F, hFe⟩ : ∃ F, F = h16A (fst l) := ⟨_, rfl⟩
    rw [← hFe] at HF hinfF hssF honeF
    have HFe := hide hFe
    clear hFe
    go_enter Try.func105, Try.ntmps105
    go_wp2_with fail
    refine C.mono ?_
    rintro e w2 ⟨rfl, hE⟩
    have hM := Whole.new w2 170 (cntV fun _ => 0)
    have hE2 := hE.alloc (.cells (cntV fun _ => 0) 170)
    rw [HZ.out] at hM hE2
    have hle := hE.le
    clear C hE
    go_wp2_with (first
      | (refine wpList_storeW rfl 170 (.tmp 4) (.tmp 13) rfl rfl rfl hM hss hinf hone ?_; intro w5 hW5 hG5 hS5; clear hS5)
      | (refine wpList_load_row rfl 170 (.tmp 4) rfl _ rfl _ _ _ _ hW5 Try.underlying170 rfl hinf ?_))
    have hF5 : Ext w w5 := Below.grown hE2 hG5 hE2.le (fun k hk => by cases hk; exact hle)
    clear hE2 hG5 hM
    refine (HF _).mono ?_
    rintro e w6 ⟨rfl, hE6⟩
    have hF6 := hF5.trans hE6
    have hM6 := Whole.new w6 181 #[.int .u16 0, .int .u16 0, .int .u16 0, .int .u16 0, .int .u16 0, .int .u16 0, .int .u16 0, .int .u16 0, .int .u16 0, .int .u16 0, .int .u16 0, .int .u16 0, .int .u16 0, .int .u16 0, .int .u16 0, .int .u16 0]
    have hF7 := hF6.alloc (.cells #[.int .u16 0, .int .u16 0, .int .u16 0, .int .u16 0, .int .u16 0, .int .u16 0, .int .u16 0, .int .u16 0, .int .u16 0, .int .u16 0, .int .u16 0, .int .u16 0, .int .u16 0, .int .u16 0, .int .u16 0, .int .u16 0] 181)
    have hle6 := hF6.le
    clear hF5 hE6 hF6 HF
    obtain ⟨g6, hg6⟩ : ∃ g, g = w6.heap.size := ⟨_, rfl⟩
    rw [← hg6] at hM6 hle6
    have Hg6 := hide hg6
    clear hg6
    go_wp2_with (first
      | (refine wpList_storeW rfl 181 (.tmp 6) (.tmp 19) rfl (by rw [Hg6.out]; rfl) rfl hM6 hssF hinfF honeF ?_; intro w7 hW7 hG7 hS7; clear hS7)
      | (refine wpList_makeH (n := l.length) rfl (.tmp 21) (.tmp 21) rfl rfl rfl hl300 ?_; intro w8 hO8 hE8))
    have hF7' : Ext w w7 := Below.grown hF7 hG7 hF7.le (fun k hk => by cases hk; exact hle6)
    have hF8 := hF7'.trans hE8
    clear hF7'
    have hW8 := hW7.ext hE8
    have hlt7 := hW7.lt
    have hle7 : w.heap.size ≤ w7.heap.size := by omega
    rw [HFe.out, HNx0.out] at hW8
    rw [← HNone.out] at hO8
    rw [← Hg6.out]
    generalize w7.heap.size = g7 at *
    have hg67 : g6 ≠ g7 := by omega
    clear hE8 hW7 hG7 hF7 hM6 hssF hinfF honeF hss hinf hone hW5 Hg6 HFe
    go_loopw [25] (fun x wr => ∃ s : Nat, s ≤ l.length ∧ x = .int .i64 (s : Int) ∧ Whole wr g6 181 (h16A (nextF l s)) ∧ OwnH wr w.heap.size (.slice (some ⟨g7, 0, none⟩) l.length l.length) (codesTo l s) ∧ Ext w wr) (fun x _ => l.length - (intOf x).toNat)
    case atStart => exact ⟨0, by omega, rfl, hW8, hO8.mono hle7, hF8⟩
    case round =>
      clear hW8 hO8 hF8
      obtain ⟨s, hs, rfl, hW, hO, hE⟩ := hrel
      by_cases hlt : s < l.length
      · rcases (hE.bytes h).2 with h0 | ⟨b, o, rfl, hB, hc⟩
        · omega
        have hk := hc s hlt
        have hy15 := H15.out s hlt
        have hP := HPass.out s
        have hNP := HNxP.out s
        have hNS := HNxS.out s hlt
        have hx := HLt.out s hlt
        obtain ⟨y, hy⟩ : ∃ y, y = lenAt l s := ⟨_, rfl⟩
        have hk2 : wr.cell? ⟨b, o + s, none⟩ = some (.int .u8 (y : Int)) := by rw [hy]; exact hk
        rw [← hy] at hP hNP hNS hy15
        have hil : (s : Int) < (l.length : Int) := by omega
        clear hc hy hk
        by_cases y0 : y = 0
        · have HP := hide (hP y0)
          have HNP := hide (hNP y0)
          clear hP hNP hNS
          subst y0
          go_wp2
          go_roundw
          case rel => exact ⟨s + 1, by omega, by go_num, by rw [← HNP.out]; exact hW, by rw [← HP.out]; exact hO, hE⟩
          case measure => simp [intOf]; omega
        · obtain ⟨hn1, hn2⟩ := hNS y0
          have hSt := HSet.out s
          have hcx := hW.at y (HAtA.out _ y (by omega))
          rw [hn1] at hcx
          have hO' := hO
          have hlenO := HLen.out s
          rw [← hlenO] at hO'
          obtain ⟨k1, k2⟩ := hO'.cell (i := s) (by rw [hlenO]; exact hlt)
          have hO2 := hO'.set s (word l s)
          rw [hSt, hlenO] at hO2
          have hW2 := hW.far (b := g7) hg67 s (.int .u16 ((word l s : Nat) : Int))
          have hcx2 := hW2.at y (HAtA.out _ y (by omega))
          rw [hn1] at hcx2
          have hsz := HSzA.out (nextF l s)
          have hsy : y < (h16A (nextF l s)).size := by rw [hsz]; omega
          have HSy := hide hsy
          have HN2 := hide hn2
          have HO2 := hide hO2
          have hb1 : (Try.prog.info? 111).map (·.size) = some 1 := by kernel_rfl
          have hE2 := hE.setCell (g := g7) (i := s) hle7 (.int .u16 ((word l s : Nat) : Int))
          have hgl : g7 < wr.heap.size := (hO.lt g7 rfl).2
          have hy0 : (0 : Int) < (y : Int) := by omega
          clear hP hNP hNS hn1 hn2 hSt hO' hlenO hO2 hsz hsy hO
          generalize word l s = x at *
          generalize (codesTo l s).getD s 0 = x0 at *
          obtain ⟨V1, hV1⟩ : ∃ V1, V1 = h16A (nextF l s) := ⟨_, rfl⟩
          rw [← hV1] at hW hW2 HSy HN2
          clear hV1
          obtain ⟨V2, hV2⟩ : ∃ V2, V2 = h16A (nextF l (s + 1)) := ⟨_, rfl⟩
          rw [← hV2] at HN2
          have HV2 := hide hV2
          clear hV2
          go_wp2_with (refine wpList_storeC rfl 111 (.tmp 42) (.tmp 41) rfl _ rfl rfl hW2 HSy.out hb1 rfl rfl HN2.out ?_; intro w9 hW9 hG9)
          go_roundw
          case rel =>
            have hO9 := World.ownsRow.kept HO2.out hG9 (by simp [Value.ownBlock]; omega)
            exact ⟨s + 1, by omega, by go_num, by rw [← HV2.out]; exact hW9, hO9, Below.grown hE2 hG9 hE2.le (fun k hk => by cases hk; exact hle6)⟩
          case measure => simp [intOf]; omega
      · obtain rfl : l.length = s := by omega
        rw [HAll.out] at hO
        have HO := hide hO
        clear hO
        go_wp2
        go_ret2
        rw [HN.out]
        exact ⟨_, rfl, HO.out, hE⟩
end Go.Proofs.Ytaohdnhfodkeoaa

namespace Go.Proofs.Ytaohdnhfodkeoaa
open Go.RowKit
set_option maxHeartbeats 1000000 in
theorem sliceClone8_any (A : Option Addr) (n c : Nat) (l : List UInt8) (w : World) (hc : n ≤ c) (hn : n ≤ 140737488355328) (hb : Bytes w w.heap.size A n l) :
    Calls Try.prog 55 #[.slice A n c] w (MadeB w l) := by
  have hnil := fun (W : World) (a : Option Addr) (n c n' c' : Nat) => Lib.run_eql_slice_nil (P := Try.prog) W 40 5 a n c n' c' Try.underlying40
  rcases A with _ | ad
  · have hl : l = [] := by
      rcases hb.2 with h0 | ⟨_, _, h, _⟩
      · exact List.eq_nil_of_length_eq_zero (by rw [hb.1, h0])
      · cases h
    subst hl
    have hn0 : n = 0 := hb.1.symm
    subst hn0
    go_enter Try.func55, Try.ntmps55
    go_wp2
    go_ret
    exact ⟨_, rfl, OwnB.nil _ _, Ext.refl _⟩
  · have ho := OwnB.empty w (Nat.le_refl _)
    have hb' := (extNew w (.cells #[] 5)).bytes hb
    have hB : w.heap.size ≤ (w.alloc (.cells #[] 5)).heap.size := by simp
    have hl0 : ([] : List UInt8).length + n ≤ 140737488355328 := by simpa using hn
    have hE := extNew w (.cells #[] 5)
    go_enter Try.func55, Try.ntmps55
    go_wp2_with (at_builtin; refine wpList_app rfl (.tmp 5) (.tmp 6) rfl rfl ho rfl hb' hl0 hB ?_; intro v1 w1 hown1 hg1)
    go_ret
    exact ⟨v1, rfl, hown1, ho.below hE hg1 hB⟩
end Go.Proofs.Ytaohdnhfodkeoaa

namespace Go.Proofs.Ytaohdnhfodkeoaa
open Go.RowKit
def OwnI (w : World) (base : Nat) (v : Value) (L : List Int) : Prop := w.ownsRow base 3 1 v L.length (L.map (Value.int .i64))
theorem int_info : (Try.prog.info? 3).map (fun i => (i.zero, i.size, i.bytes)) = some (some (.int .i64 0), 1, 8) := by kernel_rfl
theorem OwnI.nil (w : World) (base : Nat) : OwnI w base (.slice none 0 0) [] := World.ownsRow_nil w base _ _
theorem OwnI.ext {w w' : World} {base : Nat} {v : Value} {L : List Int} (h : OwnI w base v L) (hE : Ext w w') : OwnI w' base v L :=
  World.ownsRow.kept h (hE.grown none) (by cases hv : v.ownBlock <;> simp)
theorem OwnI.lt {w : World} {base : Nat} {v : Value} {L : List Int} (h : OwnI w base v L) : ∀ k, v.ownBlock = some k → base ≤ k ∧ k < w.heap.size := World.ownsRow.lt h
theorem OwnI.form {w : World} {base : Nat} {v : Value} {L : List Int} (h : OwnI w base v L) : ∃ A c, v = .slice A L.length c ∧ L.length ≤ c ∧ IntsAt w w.heap.size A L.length L := by
  have hl := h.lt
  rcases h.2 with ⟨rfl, h0⟩ | ⟨g, cap, cur, rfl, hb, hg, hn, hc, hs, ht⟩
  · exact ⟨none, 0, by rw [h0], by omega, rfl, .inl h0⟩
  · refine ⟨_, cap, rfl, hn, rfl, .inr ⟨g, 0, rfl, (hl g rfl).2, fun i hi => ?_⟩⟩
    have hk := World.ownsRow.cellAt h i (by omega)
    rw [Nat.zero_add, hk]
    simp [hi]
section
variable {o : Oper} {a : Act} {Q : Exit → Act → World → Prop} {w : World} {base : Nat} {v : Value} {L : List Int}
theorem wpList_appIB {ops : Array Oper} {rest : List Oper} (hgd : o.guard = none) (s x : Operand) (ho : o.op = .call { callee := .builtin .append, args := #[s, x], argTypes := #[104, 104] }) (hs : a.eval s = v) (p : Int)
    (hown : OwnI (w.alloc (.cells #[.int .i64 p] 3)) base v L) {c : Nat} (hx : a.eval x = .slice (some ⟨w.heap.size, 0, none⟩) 1 c) (hlen : L.length ≤ 1000000) (hbase : base ≤ w.heap.size)
    (h : ∀ v' w', OwnI w' base v' (L ++ [p]) → (w.alloc (.cells #[.int .i64 p] 3)).grownBy w' v.ownBlock → wpList Try.prog ops Q rest (a.put o.dst v') w') :
    wpList Try.prog ops Q (o :: rest) a (w.alloc (.cells #[.int .i64 p] 3)) := by
  obtain ⟨i, hi, hz, hsz, hby⟩ := info_parts int_info
  refine wpList_append_own_at _ hgd s x 104 ho base 3 i _ 1 8 Try.underlying104 hi hz hsz hby rfl (by omega) v L.length (L.map (Value.int .i64)) hs hown ⟨w.heap.size, 0, none⟩ 1 c [.int .i64 p] hx rfl (by
    intro j u hu
    match j, hu with
    | 0, hu =>
      have : (⟨w.heap.size, 0, none⟩ : Addr).add 0 = ⟨w.heap.size, 0, none⟩ := rfl
      rw [this, cellNew]
      simpa using hu
    | j + 1, hu => simp at hu) (by
    intro u hu
    simp at hu
    subst hu
    rfl) (by unfold maxLen; omega) (by omega) (by simp; omega) ?_
  intro v' w' h2 h3 _ h5
  refine h v' w' ?_ h3
  unfold OwnI
  rw [List.length_append, List.map_append]
  exact h2
end
end Go.Proofs.Ytaohdnhfodkeoaa

namespace Go.Proofs.Ytaohdnhfodkeoaa
open Go.RowKit Len Can Huf
theorem ownsRow_low {w : World} {base size m : Nat} {E : TypeId} {A : Option Addr} {n c : Nat} {cs : List Value} (h : w.ownsRow base E size (.slice A n c) m cs) : ∀ b o, A = some ⟨b, o, none⟩ → base ≤ b := by
  intro b o hA
  rcases h.2 with ⟨hv, _⟩ | ⟨g, cap, cur, hv, hb, _⟩
  · simp only [Value.slice.injEq] at hv
    rw [hv.1] at hA
    cases hA
  · simp only [Value.slice.injEq] at hv
    rw [hv.1] at hA
    injection hA with hA
    injection hA with hA
    omega
theorem ownsRow_apart {w : World} {base base' size size' m m' : Nat} {E E' : TypeId} {v v' : Value} {cs cs' : List Value} (h : w.ownsRow base E size v m cs) (h' : w.ownsRow base' E' size' v' m' cs') (hne : E ≠ E') : v.ownBlock = none ∨ v.ownBlock ≠ v'.ownBlock := by
  rcases h.2 with ⟨rfl, _⟩ | ⟨g, cap, cur, rfl, hb, hg, _⟩
  · exact .inl rfl
  rcases h'.2 with ⟨rfl, _⟩ | ⟨g', cap', cur', rfl, hb', hg', _⟩
  · refine .inr ?_
    simp [Value.ownBlock]
  · refine .inr fun e => hne ?_
    have e2 : g = g' := by simpa [Value.ownBlock] using e
    subst e2
    rw [hg] at hg'
    simp only [Option.some.injEq, Obj.cells.injEq] at hg'
    exact hg'.2.1
theorem app16_run {w : World} (ty : TypeId) {base : Nat} {v : Value} {T : List Nat} (hown : OwnH w base v T) {gx m c p : Nat} (hm : m = 1) (hc : w.cell? ⟨gx, 0, none⟩ = some (.int .u16 (p : Int))) (hlen : T.length ≤ 1000000) (hbase : base ≤ w.heap.size) :
    ∃ v' w', (Builtin.append_ #[72, 72] ty #[v, .slice (some ⟨gx, 0, none⟩) m c]).run Try.prog w = .ok v' w' ∧ OwnH w' base v' (T ++ [p]) ∧ w.grownBy w' v.ownBlock := by
  subst hm
  obtain ⟨i, hi, hz, hs, hby⟩ := info_parts h16_info
  obtain ⟨v', w', hr, h2, h3, _, _⟩ := run_append_own_at (P := Try.prog) w base 72 ty 111 i _ 1 2 Try.underlying72 hi hz hs hby rfl (by omega) v T.length (T.map h16V) hown
    ⟨gx, 0, none⟩ 1 c [h16V p] rfl (by
      intro j u hu
      match j, hu with
      | 0, hu =>
        have : (⟨gx, 0, none⟩ : Addr).add 0 = ⟨gx, 0, none⟩ := rfl
        rw [this, hc]
        simpa [h16V] using hu
      | j + 1, hu => simp at hu) (by
      intro u hu
      simp at hu
      subst hu
      rfl) (by unfold maxLen; omega) (by omega) hbase
  refine ⟨v', w', hr, ?_, h3⟩
  unfold OwnH
  rw [List.length_append, List.map_append]
  exact h2
theorem step_app16 {ops : Array Oper} {o : Oper} {a : Act} {K : Act → World → Prop} {Q : Exit → Act → World → Prop} {E : Prop} {w : World} {base : Nat} {v : Value} {T : List Nat} (hgd : o.guard = none) (s x : Operand)
    (ho : o.op = .call { callee := .builtin .append, args := #[s, x], argTypes := #[72, 72] }) (hs : a.eval s = v) (hown : OwnH w base v T) {gx m c p : Nat} (hm : m = 1) (hx : a.eval x = .slice (some ⟨gx, 0, none⟩) m c) (hc : w.cell? ⟨gx, 0, none⟩ = some (.int .u16 (p : Int)))
    (hlen : T.length ≤ 1000000) (hbase : base ≤ w.heap.size) (h : ∀ v' w', OwnH w' base v' (T ++ [p]) → w.grownBy w' v.ownBlock → K (a.put o.dst v') w') :
    if Region.wanted o (yielded ops a.tmps) = true then Oper.wp Try.prog o a w K Q else E := by
  have hw : Region.wanted o (yielded ops a.tmps) = true := by simp [Region.wanted, hgd]
  rw [if_pos hw]
  obtain ⟨v', w', hr, h2, h3⟩ := app16_run (c := c) o.type hown hm hc hlen hbase
  unfold Oper.wp execOp
  simp only [ho, resolve, invoke, builtin, Sem.run_bind, Sem.run_pure, Result.andThen_ok, List.map_toArray, List.map_cons, List.map_nil, hs, hx, hr]
  exact h v' w' h2 h3
structure TabS (w : World) (g : Nat) (A1 : Option Addr) (c1 : Nat) (A2 : Option Addr) (c2 : Nat) (v3 v4 : Value) (l : List UInt8) (L : List Int) (T : List Nat) : Prop where
  whole : Whole w g 128 #[.slice A1 l.length c1, .slice A2 l.length c2, v3, v4]
  syms : OwnI w (g + 1) v3 L
  starts : OwnH w (g + 1) v4 T
  lens : Bytes w g A1 l.length l
  words : H16At w g A2 l.length (codesL l)
section
variable {w w' : World} {g : Nat} {A1 : Option Addr} {c1 : Nat} {A2 : Option Addr} {c2 : Nat} {v3 v4 v3' v4' : Value} {l : List UInt8} {L : List Int} {T : List Nat}
theorem TabS.ext (h : TabS w g A1 c1 A2 c2 v3 v4 l L T) (hE : Ext w w') : TabS w' g A1 c1 A2 c2 v3 v4 l L T :=
  ⟨h.whole.ext hE, h.syms.ext hE, h.starts.ext hE, h.lens.below (Below.mono hE (Nat.le_of_lt h.whole.lt)) (Nat.le_refl _), h.words.below (Below.mono hE (Nat.le_of_lt h.whole.lt)) (Nat.le_refl _)⟩
theorem TabS.appI (h : TabS w g A1 c1 A2 c2 v3 v4 l L T) (hG : w.grownBy w' v3.ownBlock) : Whole w' g 128 #[.slice A1 l.length c1, .slice A2 l.length c2, v3, v4] ∧ OwnH w' (g + 1) v4 T ∧ Below (g + 1) w w' ∧ Bytes w' g A1 l.length l ∧ H16At w' g A2 l.length (codesL l) := by
  have hlt := h.syms.lt
  have hB : Below (g + 1) w w' := Below.grown (Below.refl (g + 1) w) hG h.whole.lt (fun k hk => (hlt k hk).1)
  refine ⟨h.whole.ownGrown hG (fun e => by have := hlt g e; omega), World.ownsRow.kept h.starts hG (ownsRow_apart h.starts h.syms (by decide)), hB, h.lens.below hB (by omega), h.words.below hB (by omega)⟩
theorem TabS.appH (h : TabS w g A1 c1 A2 c2 v3 v4 l L T) (hG : w.grownBy w' v4.ownBlock) : Whole w' g 128 #[.slice A1 l.length c1, .slice A2 l.length c2, v3, v4] ∧ OwnI w' (g + 1) v3 L ∧ Below (g + 1) w w' ∧ Bytes w' g A1 l.length l ∧ H16At w' g A2 l.length (codesL l) := by
  have hlt := h.starts.lt
  have hB : Below (g + 1) w w' := Below.grown (Below.refl (g + 1) w) hG h.whole.lt (fun k hk => (hlt k hk).1)
  refine ⟨h.whole.ownGrown hG (fun e => by have := hlt g e; omega), World.ownsRow.kept h.syms hG (ownsRow_apart h.syms h.starts (by decide)), hB, h.lens.below hB (by omega), h.words.below hB (by omega)⟩
theorem tabS_store (hW : Whole w' g 128 #[.slice A1 l.length c1, .slice A2 l.length c2, v3', v4']) (hG : w.grownBy w' (some g)) (h3 : OwnI w (g + 1) v3' L) (h4 : OwnH w (g + 1) v4' T) (h1 : Bytes w g A1 l.length l) (h2 : H16At w g A2 l.length (codesL l)) (hg : g ≤ w.heap.size) :
    TabS w' g A1 c1 A2 c2 v3' v4' l L T ∧ Below g w w' := by
  have hB : Below g w w' := Below.grown (Below.refl g w) hG hg (fun k hk => by cases hk; omega)
  refine ⟨⟨hW, World.ownsRow.kept h3 hG ?_, World.ownsRow.kept h4 hG ?_, h1.below hB (Nat.le_refl _), h2.below hB (Nat.le_refl _)⟩, hB⟩
  · cases hv : v3'.ownBlock with
    | none => simp
    | some k => have := h3.lt k hv; simp; omega
  · cases hv : v4'.ownBlock with
    | none => simp
    | some k => have := h4.lt k hv; simp; omega
end
end Go.Proofs.Ytaohdnhfodkeoaa

