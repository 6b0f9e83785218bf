/- Contracts of the program's counts of lengths (right, firsts). Contracts of the program's countOut and Check. -/
import Derived.Test.YtabhemmmefefgaaCanPMath
import Derived.Test.YtabhemmmefefgaaCanRefC
import Derived.Test.YtabhemmmefefgaaCanLaw
import Derived.BigQuiet
import Derived.Laws.ResultCell
namespace Go.Proofs.Ytabhemmmefefgaa
open Go.RowKit Len Can

/-- Sixteen numbers as an array's cells. -/
def Can.cntV (f : Nat → Nat) : Array Value := ((List.range 16).map fun k => Value.int .i64 ((f k : Nat) : Int)).toArray
theorem Can.cntV_size (f : Nat → Nat) : (cntV f).size = 16 := by simp [cntV]
theorem Can.cntV_at (f : Nat → Nat) {k : Nat} (hk : k < 16) : (cntV f)[k]? = some (.int .i64 ((f k : Nat) : Int)) := by simp [cntV, hk]
theorem Can.cntV_one (f : Nat → Nat) : (cntV f).all (·.oneCell') = true := by
  simp [cntV]
  intros
  rfl
theorem cnt_info : (Try.prog.info? 58).map (·.size) = some 16 := by kernel_rfl

set_option maxHeartbeats 2000000 in
set_option maxRecDepth 100000 in
theorem cRight_any (f : Nat → Nat) (hf : ∀ k, f k ≤ 300) (w : World) : Calls Try.prog 42 #[.agg (cntV f)] w fun e w' => e = .returned (.bool (rightF f)) ∧ Ext w w' := by
  have hE1 := extNew w (.cells (cntV f) 58)
  have hW1 := Whole.new w 58 (cntV f)
  have HA := hide (show ∀ k, k < 16 → (cntV f)[k]? = some (.int .i64 ((f k : Nat) : Int)) from fun k hk => cntV_at f hk)
  have HF := hide hf
  have HW0 := hide (show wordsF f 0 = 0 from rfl)
  have HG0 := hide (show weightF f 0 = 0 from rfl)
  have HWS := hide (show ∀ j, wordsF f (j + 1) = wordsF f j + f (j + 1) from fun _ => rfl)
  have HGS := hide (show ∀ j, weightF f (j + 1) = weightF f j + f (j + 1) * 2 ^ (15 - (j + 1)) from fun _ => rfl)
  have HWL := hide (wordsF_le hf)
  have HGL := hide (weightF_le hf)
  have HR := hide (show ∀ r : Prop, ((wordsF f 15 = 0 ∨ wordsF f 15 = 1 ∧ f 1 = 1 ∨ weightF f 15 = 32768) ↔ r) → (r → rightF f = true) ∧ (¬ r → rightF f = false) from fun r hr => ⟨fun h => decide_eq_true (hr.2 h), fun h => decide_eq_false fun h2 => h (hr.1 h2)⟩)
  clear hf
  generalize cntV f = cs at *
  generalize rightF f = res at *
  go_enter Try.func42, Try.ntmps42
  go_wp2
  go_loopw [5, 3, 4] (fun x a b wr => ∃ j u v : Nat, j ≤ 15 ∧ x = .int .i64 ((j + 1 : Nat) : Int) ∧ a = .int .i64 (u : Int) ∧ b = .int .i64 (v : Int) ∧ u = wordsF f j ∧ v = weightF f j ∧ Whole wr w.heap.size 58 cs ∧ Ext w wr) (fun x _ _ _ => 17 - (intOf x).toNat)
  case atStart => exact ⟨0, 0, 0, by omega, rfl, rfl, rfl, HW0.out.symm, HG0.out.symm, hW1, hE1⟩
  case round =>
    obtain ⟨j, u, v, hj, rfl, rfl, rfl, hu, hv, hW, hE⟩ := hrel
    have hub := HWL.out j
    have hvb := HGL.out j
    rw [← hu] at hub
    rw [← hv] at hvb
    by_cases hlt : j < 15
    · have hjI : ((j + 1 : Nat) : Int) ≤ 15 := by omega
      have hc := hW.at (j + 1) (HA.out (j + 1) (by omega))
      have hyl := HF.out (j + 1)
      have HU := HWS.out j
      have HV := HGS.out j
      rw [← hu] at HU
      rw [← hv] at HV
      generalize f (j + 1) = y at *
      have hp : 2 ^ (15 - (j + 1)) ≤ 32768 := Nat.le_trans (Nat.pow_le_pow_right (by omega) (show 15 - (j + 1) ≤ 15 by omega)) (by decide)
      have hyp := Nat.mul_le_mul hyl hp
      have HUh := hide HU
      have HVh := hide HV
      clear HU HV hu hv
      go_wp2
      have hw : wrap64 ((v : Int) + wrap64 ((y : Int) * 2 ^ (14 - j))) = ((v + y * 2 ^ (15 - (j + 1)) : Nat) : Int) := by
        have e : (y : Int) * 2 ^ (14 - j) = ((y * 2 ^ (15 - (j + 1)) : Nat) : Int) := by rw [Int.natCast_mul, Int.natCast_pow, show 15 - (j + 1) = 14 - j by omega]; rfl
        rw [e]
        generalize y * 2 ^ (15 - (j + 1)) = z at *
        unfold wrap64
        omega
      rw [hw]
      go_roundw
      case rel => exact ⟨j + 1, u + y, v + y * 2 ^ (15 - (j + 1)), by omega, by go_num, by go_num, rfl, HUh.out.symm, HVh.out.symm, hW, hE⟩
      case measure => simp [intOf]; omega
    · obtain rfl : j = 15 := by omega
      have hjI : ¬ ((15 + 1 : Nat) : Int) ≤ 15 := by omega
      have HRu := hide (HR.out (u = 0 ∨ u = 1 ∧ f 1 = 1 ∨ v = 32768) (by rw [hu, hv]))
      have hc := hW.at 1 (HA.out 1 (by omega))
      clear hu hv
      generalize f 1 = y at *
      by_cases h0 : u = 0
      · have HK := hide (HRu.out.1 (.inl h0))
        clear HRu
        subst h0
        go_wp2
        go_ret
        exact ⟨ret_bool HK.out.symm, hE⟩
      · have h0b : ((u : Int) == 0) = false := by rw [beq_eq_false_iff_ne]; omega
        by_cases hv : v = 32768
        · have HK := hide (HRu.out.1 (.inr (.inr hv)))
          clear HRu
          subst hv
          by_cases h1 : u = 1
          · subst h1
            by_cases hy : y = 1
            · subst hy
              go_wp2
              go_ret
              exact ⟨ret_bool HK.out.symm, hE⟩
            · have hyb : ((y : Int) == 1) = false := by rw [beq_eq_false_iff_ne]; omega
              go_wp2
              go_ret
              exact ⟨ret_bool HK.out.symm, hE⟩
          · have h1b : ((u : Int) == 1) = false := by rw [beq_eq_false_iff_ne]; omega
            go_wp2
            go_ret
            exact ⟨ret_bool HK.out.symm, hE⟩
        · have hvb2 : ((v : Int) == 32768) = false := by rw [beq_eq_false_iff_ne]; omega
          by_cases h1 : u = 1
          · by_cases hy : y = 1
            · have HK := hide (HRu.out.1 (.inr (.inl ⟨h1, hy⟩)))
              clear HRu
              subst h1
              subst hy
              go_wp2
              go_ret
              exact ⟨ret_bool HK.out.symm, hE⟩
            · have hyb : ((y : Int) == 1) = false := by rw [beq_eq_false_iff_ne]; omega
              have HK := hide (HRu.out.2 (by omega))
              clear HRu
              subst h1
              go_wp2
              go_ret
              exact ⟨ret_bool HK.out.symm, hE⟩
          · have h1b : ((u : Int) == 1) = false := by rw [beq_eq_false_iff_ne]; omega
            have HK := hide (HRu.out.2 (by omega))
            clear HRu
            go_wp2
            go_ret
            exact ⟨ret_bool HK.out.symm, hE⟩

/-- Sixteen numbers of 16 bits as an array's cells. -/
def Can.h16A (f : Nat → Nat) : Array Value := ((List.range 16).map fun k => h16V (f k)).toArray
theorem Can.h16A_size (f : Nat → Nat) : (h16A f).size = 16 := by simp [h16A]
theorem Can.h16A_at (f : Nat → Nat) {k : Nat} (hk : k < 16) : (h16A f)[k]? = some (.int .u16 ((f k : Nat) : Int)) := by simp [h16A, hk, h16V]
theorem Can.h16A_one (f : Nat → Nat) : (h16A f).all (·.oneCell') = true := by
  simp [h16A, h16V]
  intros
  rfl
theorem Can.h16A_set (f g : Nat → Nat) (k x : Nat) (h : ∀ j, j < 16 → g j = if j = k then x else f j) : (h16A f).setIfInBounds k (.int .u16 (x : Int)) = h16A g := by
  apply Array.ext_getElem?
  intro i
  rcases Nat.lt_or_ge i 16 with hi | hi
  · rw [h16A_at g hi, h i hi]
    by_cases e : k = i
    · subst e
      rw [Array.getElem?_setIfInBounds_self_of_lt (by rw [h16A_size]; exact hi), if_pos rfl]
    · rw [Array.getElem?_setIfInBounds_ne e, h16A_at f hi, if_neg (by omega)]
  · rw [Array.getElem?_eq_none (by rw [Array.size_setIfInBounds, h16A_size]; exact hi), Array.getElem?_eq_none (by rw [h16A_size]; exact hi)]
theorem f16_info : (Try.prog.info? 63).map (·.size) = some 16 := by kernel_rfl
/-- The first words of the lengths below n. -/
def Can.fstTo (l : List UInt8) (n k : Nat) : Nat := if k < n then fst l k else 0
theorem Can.fstTo_one (l : List UInt8) : h16A (fstTo l 1) = #[.int .u16 0, .int .u16 0, .int .u16 0, .int .u16 0, .int .u16 0, .int .u16 0, .int .u16 0, .int .u16 0, .int .u16 0, .int .u16 0, .int .u16 0, .int .u16 0, .int .u16 0, .int .u16 0, .int .u16 0, .int .u16 0] := rfl
theorem Can.fstTo_all (l : List UInt8) : h16A (fstTo l 16) = h16A (fst l) := by
  unfold h16A
  congr 1
theorem Can.fstTo_step (l : List UInt8) {k : Nat} : (h16A (fstTo l k)).setIfInBounds k (.int .u16 (fst l k : Nat)) = h16A (fstTo l (k + 1)) := h16A_set _ _ _ _ fun j _ => by
  unfold fstTo
  by_cases h : j = k
  · rw [if_pos h, if_pos (by omega), h]
  · rw [if_neg h]
    by_cases h2 : j < k
    · rw [if_pos h2, if_pos (by omega)]
    · rw [if_neg h2, if_neg (by omega)]

set_option maxHeartbeats 2000000 in
set_option maxRecDepth 100000 in
theorem cFirsts_any (l : List UInt8) (hr : right l = true) (w : World) : Calls Try.prog 32 #[.agg (cntV (cnt l l.length))] w fun e w' => e = .returned (.agg (h16A (fst l))) ∧ Ext w w' := by
  have hE1 := extNew w (.cells (cntV (cnt l l.length)) 58)
  have hW1 := Whole.new w 58 (cntV (cnt l l.length))
  have HA := hide (show ∀ k, k < 16 → (cntV (cnt l l.length))[k]? = some (.int .i64 ((cnt l l.length k : Nat) : Int)) from fun k hk => cntV_at _ hk)
  have HRoom := hide (show ∀ k, 1 ≤ k → fst l k + cnt l l.length k ≤ 32768 from fun k hk => fst_room hr hk _ (Nat.le_refl _))
  have HNext := hide (show ∀ k, 1 ≤ k → k < 15 → fst l (k + 1) = (fst l k + cnt l l.length k) * 2 from fun k hk h15 => fst_next l hk h15)
  have H1 := hide (fst_one l)
  have HZ := hide (fstTo_one l)
  have HS := hide (show ∀ k, (h16A (fstTo l k)).setIfInBounds k (.int .u16 (fst l k : Nat)) = h16A (fstTo l (k + 1)) from fun k => fstTo_step l)
  have HAll := hide (fstTo_all l)
  have HSz := hide (show ∀ k, (h16A (fstTo l k)).size = 16 from fun k => h16A_size _)
  have HSzA := hide (h16A_size (fst l))
  have HOne := hide (h16A_one (fst l))
  clear hr
  generalize cntV (cnt l l.length) = cs at *
  generalize cnt l l.length = f at *
  have hE2 := (hE1.alloc (.cells (h16A (fstTo l 1)) 63)).alloc (.cells (h16A (fstTo l 1)) 63)
  have hW2 := (hW1.alloc (.cells (h16A (fstTo l 1)) 63)).alloc (.cells (h16A (fstTo l 1)) 63)
  have hR2 := (Whole.new (w.alloc (.cells cs 58)) 63 (h16A (fstTo l 1))).alloc (.cells (h16A (fstTo l 1)) 63)
  have hF2 := Whole.new ((w.alloc (.cells cs 58)).alloc (.cells (h16A (fstTo l 1)) 63)) 63 (h16A (fstTo l 1))
  simp only [World.size_alloc] at hR2 hF2
  go_enter Try.func32, Try.ntmps32
  go_wp2
  rw [← HZ.out]
  obtain ⟨Z, hZ⟩ : ∃ Z, Z = h16A (fstTo l 1) := ⟨_, rfl⟩
  have HZs := hide (show Z.size = 16 by rw [hZ]; exact HSz.out 1)
  rw [← hZ] at hR2
  have HZe := hide hZ
  clear hZ
  go_loopw [5, 4] (fun x a wr => ∃ j s : Nat, j ≤ 15 ∧ x = .int .i64 ((j + 1 : Nat) : Int) ∧ a = .int .i64 (s : Int) ∧ (j < 15 → fst l (j + 1) = s * 2) ∧ s ≤ 32768 ∧ Whole wr w.heap.size 58 cs ∧ Whole wr (w.heap.size + 1) 63 Z ∧ Whole wr (w.heap.size + 1 + 1) 63 (h16A (fstTo l (j + 1))) ∧ Ext w wr) (fun x _ _ => 17 - (intOf x).toNat)
  case atStart => exact ⟨0, 0, by omega, rfl, rfl, fun _ => H1.out, by omega, hW2, by rw [HZe.out] at hR2 ⊢; exact hR2, hF2, hE2⟩
  case round =>
    clear hE1 hW1 hE2 hW2 hR2 hF2
    obtain ⟨j, s, hj, rfl, rfl, hs, hsb, hW, hR, hF, hE⟩ := hrel
    by_cases hlt : j < 15
    · have hjI : ((j + 1 : Nat) : Int) ≤ 15 := by omega
      have hcs := HA.out (j + 1) (by omega)
      have hS := HS.out (j + 1)
      rw [hs hlt] at hS
      have hrm := HRoom.out (j + 1) (by omega)
      rw [hs hlt] at hrm
      have hnx := HNext.out (j + 1) (by omega)
      rw [hs hlt] at hnx
      have hsz := HSz.out (j + 1)
      generalize f (j + 1) = y at *
      have HSh := hide hS
      have HNx := hide hnx
      clear hs hS hnx
      have hu16 : IntKind.u16.wrap ((s : Int) * 2) = ((s * 2 : Nat) : Int) := by simp [IntKind.wrap, IntKind.bits, IntKind.signed]; omega
      have hb1 : (Try.prog.info? 30).map (·.size) = some 1 := by kernel_rfl
      have hszl : j + 1 < (h16A (fstTo l (j + 1))).size := by omega
      have HSzl := hide hszl
      have HCs := hide hcs
      clear hsz hszl hcs
      generalize h16A (fstTo l (j + 1)) = V at *
      generalize hV2 : h16A (fstTo l (j + 1 + 1)) = V2 at *
      have HV2 := hide hV2
      clear hV2
      go_wp2_with (refine wpList_storeC rfl 30 (.tmp 15) (.tmp 14) rfl _ rfl rfl hF HSzl.out hb1 rfl rfl HSh.out ?_; intro w3 hF3 hG3; have hW3 := hW.grown hG3 (by omega); have hc3 := hW3.at (j + 1) HCs.out)
      go_roundw
      case rel => exact ⟨j + 1, s * 2 + y, by omega, by go_num, by go_num, HNx.out, hrm, hW3, hR.grown hG3 (by omega), by rw [HV2.out]; exact hF3, Below.grown hE hG3 hE.le (fun k hk => by cases hk; omega)⟩
      case measure => simp [intOf]; omega
    · obtain rfl : j = 15 := by omega
      have hjI : ¬ ((15 + 1 : Nat) : Int) ≤ 15 := by omega
      rw [show 15 + 1 = 16 from rfl, HAll.out] at hF
      have hsz := HSzA.out
      have hinf : (Try.prog.info? 63).map (·.size) = some (h16A (fst l)).size := by rw [hsz]; exact f16_info
      have hss : (h16A (fst l)).size = Z.size := by rw [hsz, HZs.out]
      have hone := HOne.out
      clear hs hW hsz
      obtain ⟨V, hV⟩ : ∃ V, V = h16A (fst l) := ⟨_, rfl⟩
      rw [← hV] at hF hinf hss hone
      have HVV := hide hV
      clear hV
      go_wp2_with (first
        | (refine wpList_load_row rfl 63 (.tmp 3) rfl _ rfl _ _ _ _ hF Try.underlying63 rfl hinf ?_)
        | (refine wpList_storeW rfl 63 (.tmp 2) (.tmp 21) rfl rfl rfl hR hss hinf hone ?_; intro w5 hW5 hG5 _))
      refine bodyPost_ret (results_cell_row rfl _ _ _ _ _ _ _ rfl hW5 Try.underlying63 rfl hinf) rfl ?_
      exact ⟨by rw [HVV.out], Below.grown hE hG5 hE.le (fun k hk => by cases hk; omega)⟩

theorem Can.cntV_zero : cntV (fun _ => 0) = #[.int .i64 0, .int .i64 0, .int .i64 0, .int .i64 0, .int .i64 0, .int .i64 0, .int .i64 0, .int .i64 0, .int .i64 0, .int .i64 0, .int .i64 0, .int .i64 0, .int .i64 0, .int .i64 0, .int .i64 0, .int .i64 0] := rfl
theorem Can.cntV_set (f g : Nat → Nat) (k x : Nat) (h : ∀ j, j < 16 → g j = if j = k then x else f j) : (cntV f).setIfInBounds k (.int .i64 (x : Int)) = cntV g := by
  apply Array.ext_getElem?
  intro i
  rcases Nat.lt_or_ge i 16 with hi | hi
  · rw [cntV_at g hi, h i hi]
    by_cases e : k = i
    · subst e
      rw [Array.getElem?_setIfInBounds_self_of_lt (by rw [cntV_size]; exact hi), if_pos rfl]
    · rw [Array.getElem?_setIfInBounds_ne e, cntV_at f hi, if_neg (by omega)]
  · rw [Array.getElem?_eq_none (by rw [Array.size_setIfInBounds, cntV_size]; exact hi), Array.getElem?_eq_none (by rw [cntV_size]; exact hi)]
end Go.Proofs.Ytabhemmmefefgaa

namespace Go.Proofs.Ytabhemmmefefgaa
open Go.RowKit Len Can

/-- The results are a row of cells in a block, and what a slot holds. -/
theorem results_row2 {fn : Func} {p u : Tmp} {ty : TypeId} (h : fn.results = #[.cell p ty, .tmp u]) (tmps : Array Value) {w : World} {g : Nat} {cs : Array Value} {x : Value} (hp : tmps.getD p undef = .pointer (some ⟨g, 0, none⟩)) (hx : tmps.getD u undef = x)
    (hl : (loadVar ty ⟨g, 0, none⟩).run Try.prog w = .ok (.agg cs) w) : (results fn tmps).run Try.prog w = .ok (.tuple #[.agg cs, x]) w := by
  rw [results_cell_tmp h, hp, hx]
  simp [asAddr, Result.andThen, hl]
/-- What countOut tells. -/
def Can.outF (l : List UInt8) : Nat → Nat := if right l then cnt l l.length else fun _ => 0
def Counted (w : World) (l : List UInt8) (e : Ending) (w' : World) : Prop := e = .returned (.tuple #[.agg (cntV (outF l)), .int .i64 (checkE l)]) ∧ Ext w w'
theorem Can.cnt_step (l : List UInt8) (i : Nat) : (cntV (cnt l i)).setIfInBounds (lenAt l i) (.int .i64 ((cnt l i (lenAt l i) + 1 : Nat) : Int)) = cntV (cnt l (i + 1)) := cntV_set _ _ _ _ fun j _ => by
  rw [cnt_succ]
  by_cases h : j = lenAt l i
  · rw [if_pos h, if_pos h.symm, h]
  · rw [if_neg h, if_neg (fun e => h e.symm), Nat.add_zero]
theorem Can.cnt_none (l : List UInt8) : cntV (cnt l 0) = cntV fun _ => 0 := rfl

set_option maxHeartbeats 2000000 in
set_option maxRecDepth 100000 in
theorem countOut_any (A : Option Addr) (n c : Nat) (l : List UInt8) (w : World) (h : Bytes w w.heap.size A n l) : Calls Try.prog 30 #[.slice A n c] w (Counted w l) := by
  have hl := h.1
  subst hl
  have hR1 := Whole.new w 58 (cntV fun _ => 0)
  have hE1 := extNew w (.cells (cntV fun _ => 0) 58)
  have HNo := hide (show right l = false → outF l = fun _ => 0 from fun h => by unfold outF; rw [h]; rfl)
  have HNo7 := hide (show right l = false → checkE l = 7 from check_wrong)
  have hinf : (Try.prog.info? 58).map (·.size) = some (cntV fun _ => 0).size := by rw [cntV_size]; exact cnt_info
  by_cases hbig : (300 : Int) < (l.length : Int)
  · have HN := hide (HNo.out (wrong_long (by omega)))
    have H7 := hide (HNo7.out (wrong_long (by omega)))
    go_enter Try.func30, Try.ntmps30
    go_wp2
    refine bodyPost_ret (results_row2 rfl _ rfl rfl (run_loadVar_row _ _ _ _ _ _ _ hR1 Try.underlying58 rfl hinf)) rfl ?_
    exact ⟨by rw [HN.out, H7.out]; rfl, hE1⟩
  · have hE2 := hE1.alloc (.cells (cntV fun _ => 0) 58)
    have hR2 := hR1.alloc (.cells (cntV fun _ => 0) 58)
    have hM2 := Whole.new (w.alloc (.cells (cntV fun _ => 0) 58)) 58 (cntV fun _ => 0)
    simp only [World.size_alloc] at hM2
    have HS := hide (cnt_step l)
    have H0 := hide (cnt_none l)
    have HZ := hide cntV_zero
    have HLe := hide (show ∀ i k, cnt l i k ≤ i from fun i k => cnt_le l k i)
    have HRt := hide (show (∀ i, i < l.length → lenAt l i ≤ 15) → rightF (cnt l l.length) = right l from right_of_counts (by omega))
    have HYes := hide (show right l = true → outF l = cnt l l.length from fun h => by unfold outF; rw [h]; rfl)
    have HYes0 := hide (show right l = true → checkE l = 0 from check_right)
    have HWr := hide (show ∀ i, i < l.length → 15 < lenAt l i → right l = false from fun i hi h => wrong_high hi h)
    have HSz := hide (show ∀ f, (cntV f).size = 16 from cntV_size)
    have HOne := hide (show ∀ f, (cntV f).all (·.oneCell') = true from cntV_one)
    have HAt := hide (show ∀ f k, k < 16 → (cntV f)[k]? = some (.int .i64 ((f k : Nat) : Int)) from fun f k h => cntV_at f h)
    go_enter Try.func30, Try.ntmps30
    go_wp2
    rw [← HZ.out]
    go_loopw [13] (fun x wr => ∃ i : Nat, i ≤ l.length ∧ x = .int .i64 (i : Int) ∧ (∀ q, q < i → lenAt l q ≤ 15) ∧ Whole wr w.heap.size 58 (cntV fun _ => 0) ∧ Whole wr (w.heap.size + 1) 58 (cntV (cnt l i)) ∧ Ext w wr) (fun x _ => l.length - (intOf x).toNat)
    case atStart => exact ⟨0, by omega, rfl, fun q hq => absurd hq (by omega), hR2, by rw [H0.out]; exact hM2, hE2⟩
    case round =>
      clear hE1 hR1 hE2 hR2 hM2
      obtain ⟨i, hi, rfl, hall, hR, hM, hE⟩ := hrel
      have HAll := hide hall
      clear hall
      by_cases hlt : i < l.length
      · rcases (hE.bytes h).2 with h0 | ⟨b, o, rfl, hB, hc⟩
        · omega
        have hk := hc i hlt
        have hyl := UInt8.toNat_lt (l.getD i 0)
        have hS := HS.out i
        have hW := HWr.out i hlt
        obtain ⟨y, hy⟩ : ∃ y, y = lenAt l i := ⟨_, rfl⟩
        have hk2 : wr.cell? ⟨b, o + i, none⟩ = some (.int .u8 (y : Int)) := by rw [hy]; exact hk
        have hyl2 : y < 256 := by rw [hy]; exact hyl
        rw [← hy] at hS hW
        have HY := hide hy
        have hil : (i : Int) < (l.length : Int) := by omega
        clear hc hy hk hyl
        by_cases h15 : (15 : Int) < (y : Int)
        · have HN := hide (HNo.out (hW (by omega)))
          have H7 := hide (HNo7.out (hW (by omega)))
          have hone := HOne.out fun _ => 0
          clear hS hW
          go_wp2_with (refine wpList_storeW rfl 58 (.tmp 2) (.tmp 19) rfl rfl (congrArg Value.agg HZ.out.symm) hR rfl hinf hone ?_; intro w5 hW5 hG5 _)
          refine bodyPost_ret (results_row2 rfl _ rfl rfl (run_loadVar_row _ _ _ _ _ _ _ hW5 Try.underlying58 rfl hinf)) rfl ?_
          exact ⟨by rw [HN.out, H7.out]; rfl, Below.grown hE hG5 hE.le (fun k hk => by cases hk; omega)⟩
        · have HS2 := hide hS
          have hcy := hM.at y (HAt.out _ y (by omega))
          have hle := HLe.out i y
          have hb1 : (Try.prog.info? 3).map (·.size) = some 1 := by kernel_rfl
          have hys : y < (cntV (cnt l i)).size := by rw [HSz.out]; omega
          have HYs := hide hys
          clear hS hW hys
          obtain ⟨V, hV⟩ : ∃ V, V = cntV (cnt l i) := ⟨_, rfl⟩
          rw [← hV] at hM HYs HS2
          obtain ⟨V2, hV2⟩ : ∃ V2, V2 = cntV (cnt l (i + 1)) := ⟨_, rfl⟩
          rw [← hV2] at HS2
          have HV2 := hide hV2
          clear hV hV2
          generalize cnt l i y = m at *
          go_wp2_with (refine wpList_storeC rfl 3 (.tmp 24) (.tmp 23) rfl _ rfl rfl hM HYs.out hb1 rfl rfl HS2.out ?_; intro w3 hM3 hG3)
          go_roundw
          case rel => exact ⟨i + 1, by omega, by go_num, fun q hq => (by
            by_cases hqi : q = i
            · rw [hqi, ← HY.out]; omega
            · exact HAll.out q (by omega)), hR.grown hG3 (by omega), by rw [← HV2.out]; exact hM3, Below.grown hE hG3 hE.le (fun k hk => by cases hk; omega)⟩
          case measure => simp [intOf]; omega
      · obtain rfl : l.length = i := by omega
        have hrt := HRt.out HAll.out
        have C := fun W => cRight_any (cnt l l.length) (fun k => Nat.le_trans (HLe.out _ k) (by omega)) W
        rw [hrt] at C
        have hsz := HSz.out (cnt l l.length)
        have hinf2 : (Try.prog.info? 58).map (·.size) = some (cntV (cnt l l.length)).size := by rw [hsz]; exact cnt_info
        have hss : (cntV (cnt l l.length)).size = (cntV fun _ => 0).size := by rw [hsz, HSz.out]
        have hone := HOne.out (cnt l l.length)
        have hone0 := HOne.out fun _ => 0
        clear hrt hsz
        generalize right l = r at *
        obtain ⟨V, hV⟩ : ∃ V, V = cntV (cnt l l.length) := ⟨_, rfl⟩
        rw [← hV] at C hM hinf2 hss hone
        have HV := hide hV
        clear hV
        go_wp2_with (refine wpList_load_row rfl 58 (.tmp 4) rfl _ rfl _ _ _ _ hM Try.underlying58 rfl hinf2 ?_)
        refine (C _).mono ?_
        rintro e w4 ⟨rfl, hE4⟩
        have hM4 := hM.ext hE4
        have hR4 := hR.ext hE4
        have hF4 := hE.trans hE4
        clear hM hR hE hE4 C
        cases r with
        | false =>
          have HN := hide (HNo.out rfl)
          have H7 := hide (HNo7.out rfl)
          go_wp2_with (refine wpList_storeW rfl 58 (.tmp 2) (.tmp 29) rfl rfl (congrArg Value.agg HZ.out.symm) hR4 rfl hinf hone0 ?_; intro w5 hW5 hG5 _)
          refine bodyPost_ret (results_row2 rfl _ rfl rfl (run_loadVar_row _ _ _ _ _ _ _ hW5 Try.underlying58 rfl hinf)) rfl ?_
          exact ⟨by rw [HN.out, H7.out]; rfl, Below.grown hF4 hG5 hF4.le (fun k hk => by cases hk; omega)⟩
        | true =>
          have HN := hide (HYes.out rfl)
          have H0' := hide (HYes0.out rfl)
          go_wp2_with (first
            | (refine wpList_load_row rfl 58 (.tmp 4) rfl _ rfl _ _ _ _ hM4 Try.underlying58 rfl hinf2 ?_)
            | (refine wpList_storeW rfl 58 (.tmp 2) (.tmp 30) rfl rfl rfl hR4 hss hinf2 hone ?_; intro w5 hW5 hG5 _))
          refine bodyPost_ret (results_row2 rfl _ rfl rfl (run_loadVar_row _ _ _ _ _ _ _ hW5 Try.underlying58 rfl hinf2)) rfl ?_
          exact ⟨by rw [HN.out, H0'.out, HV.out]; rfl, Below.grown hF4 hG5 hF4.le (fun k hk => by cases hk; omega)⟩

set_option maxHeartbeats 2000000 in
set_option maxRecDepth 100000 in
theorem check_any (A : Option Addr) (n c : Nat) (l : List UInt8) (w : World) (h : Bytes w w.heap.size A n l) : Calls Try.prog 11 #[.slice A n c] w fun e w' => e = .returned (.int .i64 (checkE l)) ∧ Ext w w' := by
  have C := countOut_any A n c l w h
  unfold Counted at C
  have hsz := cntV_size (outF l)
  have hone := cntV_one (outF l)
  have hinf : (Try.prog.info? 58).map (·.size) = some (cntV (outF l)).size := by rw [hsz]; exact cnt_info
  have hss : (cntV (outF l)).size = (cntV fun _ => 0).size := by rw [hsz, cntV_size]
  have HZ := hide cntV_zero
  generalize cntV (outF l) = V at *
  generalize checkE l = ck at *
  go_enter Try.func11, Try.ntmps11
  go_wp2_with fail
  refine C.mono ?_
  rintro e w2 ⟨rfl, hE⟩
  have hM := Whole.new w2 58 (cntV fun _ => 0)
  have hE2 := hE.alloc (.cells (cntV fun _ => 0) 58)
  rw [HZ.out] at hM hE2
  rw [HZ.out] at hss
  go_wp2_with (refine wpList_storeW rfl 58 (.tmp 3) (.tmp 8) rfl rfl rfl hM hss hinf hone ?_; intro w5 hW5 hG5 _)
  go_ret
  exact ⟨rfl, Below.grown hE2 hG5 hE2.le (fun k hk => by cases hk; exact hE.le)⟩
theorem checkC_any (w : World) : CheckC w := fun l A n c W _ _ _ hb => check_any A n c l W hb
end Go.Proofs.Ytabhemmmefefgaa
