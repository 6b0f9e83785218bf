/- Contract of the program's Parity. Contract of the program's Mend. Contract of the program's Right. The laws of chapter 6 at the landed package: their walks, the contracts filled in. -/
import Derived.Test.YtkfipfhmbhmamaaDoorB18
import Derived.Test.YtkfipfhmbhmamaaDoorB19
import Derived.Test.YtkfipfhmbhmamaaDoorB23
import Derived.Test.YtkfipfhmbhmamaaDoorB25
import Derived.OpenShut
namespace Go.Proofs.YtkfipfhmbhmamaaDoor
open Go.RowKit

/-- What the program's Cauchy tells is the document's matrix. -/
theorem matCauchy_have {k m : Nat} (hkm : k + m ≤ 255) (w : World) : Calls Tryd.prog 42 #[.int .i64 (k : Int), .int .i64 (m : Int)] w (MadeM w ⟨m, k, cellsOf k (cauchyF k) (m * k)⟩ 0) := by
  have := matCauchy_any (k : Int) (m : Int) w
  rwa [cauchyE_of hkm] at this

set_option maxHeartbeats 4000000 in
set_option maxRecDepth 100000 in
theorem rsParityN_any (m : Int) (A : Option Addr) (k : Nat) (data : List (List UInt8)) (w : World) (h : RowsAt w w.heap.size A data.length data) (hlen : data.length ≤ 1000) (hrow : ∀ i, i < data.length → (data.getD i []).length ≤ 20000) :
    Calls Tryd.prog 26 #[.int .i64 m, .slice A data.length k] w (MadeNE w (parityE m data).1 (parityE m data).2) := by
  have M1 := fun W => rsMay_any (data.length : Int) m W (by omega)
  have HE := hide (show parityE m data = if mayK data.length m = true ∧ alike data then (timesL m.toNat data.length (cauchyF data.length) data, 0) else ([], 13) from rfl)
  by_cases hm : mayK data.length m = true
  · rw [hm] at M1
    have L1 := fun W h => rsAlike_any A k data W h (by omega)
    by_cases ha : alike data
    · rw [decide_eq_true ha] at L1
      obtain ⟨q1, q2, q3, q4⟩ := mayK_iff.1 hm
      rw [HE.out, if_pos ⟨hm, ha⟩]
      obtain ⟨m, rfl⟩ := Int.eq_ofNat_of_zero_le q2
      rw [Int.toNat_natCast]
      have hkm : data.length + m ≤ 255 := by omega
      have CC := fun W => matCauchy_have (k := data.length) hkm W
      have h0 : 0 < data.length := by omega
      have hr0 := hrow 0 h0
      have HAt := hide (show timesL m data.length (⟨m, data.length, cellsOf data.length (cauchyF data.length) (m * data.length)⟩ : MV).at data = timesL m data.length (cauchyF data.length) data from timesL_congr data fun _ _ hi hj => at_cells hi hj)
      have hmay : (⟨m, data.length, cellsOf data.length (cauchyF data.length) (m * data.length)⟩ : MV).may = true := rect_may _ (by omega) (by omega)
      have hcl : (cellsOf data.length (cauchyF data.length) (m * data.length)).length ≤ maxLen := by
        rw [cellsOf_len]
        have : m * data.length ≤ 255 * 255 := Nat.mul_le_mul (by omega) (by omega)
        unfold maxLen
        omega
      obtain ⟨cl, hcl2⟩ : ∃ C, C = cellsOf data.length (cauchyF data.length) (m * data.length) := ⟨_, rfl⟩
      rw [← hcl2] at CC HAt hmay hcl
      have HA := hide ha
      clear HE hm q1 q2 q3 q4 hrow ha hcl2
      go_enter Tryd.func26, Tryd.ntmps26
      go_wp2_with fail
      refine (M1 _).mono ?_
      rintro e w1 ⟨rfl, rfl⟩
      go_wp2_with fail
      refine (L1 _ h).mono ?_
      rintro e w2 ⟨rfl, hE2⟩
      go_wp2_with fail
      refine (CC _).mono ?_
      rintro e w3 ⟨v3, rfl, hO3, hE3⟩
      dsimp only at hO3
      obtain ⟨A3, c3, rfl, hc3, hm3, hB3⟩ := hO3.form
      have hF3 := hE2.trans hE3
      have hWn := Whole.new w3 76 #[.int .i64 0, .int .i64 0, .slice none 0 0]
      have hEn := extNew w3 (.cells #[.int .i64 0, .int .i64 0, .slice none 0 0] 76)
      clear hO3
      unfold matV
      go_wp2_with (first
        | (refine wpList_storeW rfl 76 (.tmp 7) (.tmp 24) rfl rfl rfl hWn rfl mat_info (mat_one rfl) ?_; intro w4 hW4 hG4 hS4; clear hS4)
        | (refine wpList_load_row rfl 76 (.tmp 7) rfl _ rfl _ _ _ _ hW4 Tryd.underlying76 rfl mat_info ?_))
      have hE34 : Ext w3 w4 := Below.grown hEn hG4 hEn.le (fun k hk => by cases hk; exact Nat.le_refl _)
      have hF4 := hF3.trans hE34
      have CT := rsTimes_any ⟨m, data.length, cl⟩ A3 A c3 k data w4 hmay ⟨hE34.bytes hB3, hcl, hc3⟩ (h.ext hF4) (by dsimp only; omega) (fun _ => h0) HA.out hr0
      unfold MV.arg at CT
      dsimp only at CT
      rw [Int.toNat_natCast, Int.toNat_natCast, HAt.out] at CT
      refine CT.mono ?_
      rintro e w5 ⟨v5, rfl, hO5, hE5⟩
      go_wp2
      go_ret2
      exact ⟨_, rfl, hO5.mono hF4.le, hF4.trans hE5⟩
    · rw [decide_eq_false ha] at L1
      rw [HE.out, if_neg (fun h => ha h.2)]
      clear HE hm ha hrow
      go_enter Tryd.func26, Tryd.ntmps26
      go_wp2_with fail
      refine (M1 _).mono ?_
      rintro e w1 ⟨rfl, rfl⟩
      go_wp2_with fail
      refine (L1 _ h).mono ?_
      rintro e w2 ⟨rfl, hE2⟩
      go_wp2
      go_ret2
      exact ⟨_, rfl, OwnN.nil _ _, hE2⟩
  · rw [HE.out, if_neg (fun h => hm h.1)]
    rw [Bool.not_eq_true] at hm
    rw [hm] at M1
    clear HE hm hrow h
    go_enter Tryd.func26, Tryd.ntmps26
    go_wp2_with fail
    refine (M1 _).mono ?_
    rintro e w1 ⟨rfl, rfl⟩
    go_wp2
    go_ret2
    exact ⟨_, rfl, OwnN.nil _ _, Ext.refl _⟩
theorem MadeNE.toPE {w w' : World} {ls : List (List UInt8)} {err : Int} {e : Ending} (h : MadeNE w ls err e w') : MadePE w ls err e w' := by
  obtain ⟨v, h1, h2, h3⟩ := h
  exact ⟨v, h1, h2.toP, h3⟩
theorem rsParity_any (m : Int) (A : Option Addr) (k : Nat) (data : List (List UInt8)) (w : World) (h : RowsAt w w.heap.size A data.length data) (hlen : data.length ≤ 1000) (hrow : ∀ i, i < data.length → (data.getD i []).length ≤ 20000) :
    Calls Tryd.prog 26 #[.int .i64 m, .slice A data.length k] w (MadePE w (parityE m data).1 (parityE m data).2) := (rsParityN_any m A k data w h hlen hrow).mono fun _ _ h => h.toPE
end Go.Proofs.YtkfipfhmbhmamaaDoor

namespace Go.Proofs.YtkfipfhmbhmamaaDoor
open Go.RowKit

theorem run_headI0 (W : World) (a : Option Addr) (n c : Nat) (k : IntKind) (h : Int) (h0 : 0 ≤ h) (h1 : h ≤ c) :
    (Instr.slice 32 (.slice a n c) none (some (.int k h)) none).run Tryd.prog W = .ok (.slice a h.toNat c) W := by
  rw [run_headI W a n c k h h0 h1, cutAt_0]
theorem run_headP0 (W : World) (a : Option Addr) (n c : Nat) (k : IntKind) (h : Int) (h0 : 0 ≤ h) (h1 : h ≤ c) :
    (Instr.slice 55 (.slice a n c) none (some (.int k h)) none).run Tryd.prog W = .ok (.slice a h.toNat c) W := by
  rw [run_headRs W a n c k h h0 h1, cutAt_0]

attribute [local go_sem ↓] run_headI0 run_headP0
set_option maxHeartbeats 8000000 in
set_option maxRecDepth 100000 in
theorem rsMendN_any (k m : Int) (A1 A2 : Option Addr) (c1 c2 : Nat) (parts : List (List UInt8)) (good : List Bool) (w : World) (hk0 : -9223372036854775808 ≤ k) (hk64 : k ≤ 9223372036854775807) (h1 : RowsAt w w.heap.size A1 parts.length parts) (h2 : BoolsAt w w.heap.size A2 good.length good)
    (hp1000 : parts.length ≤ 1000) (hrow : ∀ i, i < parts.length → (parts.getD i []).length ≤ 20000) :
    Calls Tryd.prog 73 #[.int .i64 k, .int .i64 m, .slice A1 parts.length c1, .slice A2 good.length c2] w (MadeNE w (mendE k m parts good).1 (mendE k m parts good).2) := by
  have M1 := fun W => rsMay_any k m W hk64
  by_cases hm : mayK k m = true
  · obtain ⟨q1, q2, q3, q4⟩ := mayK_iff.1 hm
    rw [hm] at M1
    obtain ⟨k, rfl⟩ := Int.eq_ofNat_of_zero_le (show 0 ≤ k by omega)
    obtain ⟨m, rfl⟩ := Int.eq_ofNat_of_zero_le q2
    have hk1 : 1 ≤ k := by omega
    have hkm : k + m ≤ 255 := by omega
    have hsum : IntKind.i64.wrap ((k : Int) + (m : Int)) = (k : Int) + (m : Int) := by rw [IntKind.wrap_i64]; omega
    by_cases hp : (parts.length : Int) = (k : Int) + (m : Int)
    · have hne1 : ((parts.length : Int) != (k : Int) + (m : Int)) = false := by simp; omega
      by_cases hg : (good.length : Int) = (k : Int) + (m : Int)
      · have HE := hide (show mendE k m parts good = if alike ((goodAt good).map fun i => parts.getD i []) then
            if ((goodAt good).length : Int) < k then ([], 12)
            else (codeL k (k + m) (timesL k k (backX k ((goodAt good).take k)) (((goodAt good).map fun i => parts.getD i []).take k)), 0)
          else ([], 13) by
            unfold mendE
            rw [if_pos ⟨hm, hp, hg⟩]
            simp only [Int.toNat_natCast])
        have hne2 : ((good.length : Int) != (k : Int) + (m : Int)) = false := by simp; omega
        have hgl : good.length = parts.length := by omega
        have hgkm : good.length = k + m := by omega
        have CG := goodOnes_any A1 A2 c1 c2 parts good w h1 h2 hgl (by omega)
        rw [show allTo parts good parts.length = (goodAt good).map fun i => parts.getD i [] by unfold allTo goodAt; rw [hgl], show atTo good parts.length = (goodAt good).map Int.ofNat by unfold atTo goodAt; rw [hgl]] at CG
        have HP := hide (fun hn : k ≤ (goodAt good).length => Plc.of_good (t := k + m) hgkm hn)
        have HRow := hide (fun i (hi : i < (goodAt good).length) => show (((goodAt good).map fun i => parts.getD i []).getD i []).length ≤ 20000 by
          rw [getD_mapL hi]
          have hmem : (goodAt good).getD i 0 ∈ goodAt good := by rw [List.getD_eq_getElem?_getD, List.getElem?_eq_getElem hi]; exact List.getElem_mem hi
          exact hrow _ (by have := (goodAt_mem.1 hmem).1; omega))
        have hgn : (goodAt good).length ≤ 255 := by have := allTo_len parts good parts.length; rw [show allTo parts good parts.length = (goodAt good).map fun i => parts.getD i [] by unfold allTo goodAt; rw [hgl], List.length_map] at this; omega
        have HALL := hide (show ((goodAt good).map fun i => parts.getD i []).length = (goodAt good).length from List.length_map _)
        generalize mendE k m parts good = res at *
        generalize hAL : ((goodAt good).map fun i => parts.getD i []) = al at *
        generalize goodAt good = ga at *
        clear hAL hm q1 q2 q3 q4 hp hg hgl hgkm hrow h1 h2
        go_enter Tryd.func73, Tryd.ntmps73
        go_wp2_with fail
        refine (M1 _).mono ?_
        rintro e w1 ⟨rfl, rfl⟩
        go_wp2_with fail
        refine CG.mono ?_
        rintro e w2 ⟨u, v, rfl, hI, hQ, hE2⟩
        obtain ⟨A3, c3, rfl, hc3, hm3, hR⟩ := (hQ.toP hE2.le).form
        obtain ⟨A5, c5, rfl, hc5, hP⟩ := hI.form2 (List.length_map _)
        rw [HALL.out] at hR hc3 ⊢
        have L1 := fun W h => rsAlike_any A3 c3 al W h (by rw [HALL.out]; omega)
        rw [HALL.out] at L1
        clear CG M1 hQ hI
        by_cases ha : alike al
        · simp only [decide_eq_true ha] at L1
          by_cases hfew : (ga.length : Int) < (k : Int)
          · have HN := hide (show res = ([], 12) by rw [HE.out, if_pos ha, if_pos hfew])
            clear HE ha
            go_wp2_with fail
            refine (L1 _ hR).mono ?_
            rintro e w3 ⟨rfl, hE3⟩
            go_wp2
            go_ret2
            rw [HN.out]
            exact ⟨_, rfl, OwnN.nil _ _, hE2.trans hE3⟩
          · have hkg : k ≤ ga.length := by omega
            have HN := hide (show res = (codeL k (k + m) (timesL k k (backX k (ga.take k)) (al.take k)), 0) by rw [HE.out, if_pos ha, if_neg hfew])
            have CC := fun W => matCauchy_have (k := k) hkm W
            have hp := HP.out hkg
            obtain ⟨N, hN⟩ : ∃ N, N = (al.getD 0 []).length := ⟨_, rfl⟩
            have hN1 : N ≤ 20000 := by rw [hN]; exact HRow.out 0 (by omega)
            have halk : ∀ i, i < k → ((al.take k).getD i []).length = N := fun i hi => by
              rw [getD_takeP hi, hN]
              exact ha i (by rw [HALL.out]; omega)
            have HS := hide (show codeL k (k + m) (timesL k k (backX k (ga.take k)) (al.take k)) = timesL k k (backX k (ga.take k)) (al.take k) ++ timesL m k (cauchyF k) (timesL k k (backX k (ga.take k)) (al.take k)) from code_split (timesL_len _ _ _ _) timesL_alike)
            have HDL := hide (timesL_len k k (backX k (ga.take k)) (al.take k))
            have HDA := hide (show alike (timesL k k (backX k (ga.take k)) (al.take k)) from timesL_alike)
            have HD0 := hide (show ((timesL k k (backX k (ga.take k)) (al.take k)).getD 0 []).length ≤ 20000 by rw [timesL_at (by omega), rowB_len, halk 0 (by omega)]; exact hN1)
            have HAt := hide (fun D : List (List UInt8) => show timesL m k (⟨m, k, cellsOf k (cauchyF k) (m * k)⟩ : MV).at D = timesL m k (cauchyF k) D from timesL_congr D fun _ _ hi hj => at_cells hi hj)
            have hcl := cellsOf_len k (cauchyF k) (m * k)
            have hmk : m * k ≤ 255 * 255 := Nat.mul_le_mul (by omega) (by omega)
            have hclm : (cellsOf k (cauchyF k) (m * k)).length ≤ maxLen := by rw [hcl]; unfold maxLen; omega
            have hmay : (⟨m, k, cellsOf k (cauchyF k) (m * k)⟩ : MV).may = true := rect_may _ (by omega) (by omega)
            have HCL := hide hcl
            have HALK := hide halk
            have HMay := hide hmay
            clear HE ha hN hcl hmk hmay halk HP HRow
            go_wp2_with fail
            refine (L1 _ hR).mono ?_
            rintro e w3 ⟨rfl, hE3⟩
            have hF3 := hE2.trans hE3
            go_wp2_with fail
            refine (CC _).mono ?_
            rintro e w4 ⟨v4, rfl, hO4, hE4⟩
            dsimp only at hO4
            obtain ⟨A4, c4, rfl, hc4, hm4, hB4⟩ := hO4.form
            have hWn := Whole.new w4 76 #[.int .i64 0, .int .i64 0, .slice none 0 0]
            have hEn := extNew w4 (.cells #[.int .i64 0, .int .i64 0, .slice none 0 0] 76)
            clear hO4 L1 CC
            unfold matV
            go_wp2_with (refine wpList_storeW rfl 76 (.tmp 12) (.tmp 52) rfl rfl rfl hWn rfl mat_info (mat_one rfl) ?_; intro w5 hW5 hG5 hS5; clear hS5)
            have hE45 : Ext w4 w5 := Below.grown hEn hG5 hEn.le (fun k hk => by cases hk; exact Nat.le_refl _)
            have hE25 := (hE3.trans hE4).trans hE45
            have hF5 := hE2.trans hE25
            have s0 := hW5.at 0 (u := .int .i64 (m : Int)) rfl
            have s1 := hW5.at 1 (u := .int .i64 (k : Int)) rfl
            have s2 := hW5.at 2 (u := .slice A4 (cellsOf k (cauchyF k) (m * k)).length c4) rfl
            have hkc5 : (k : Int) ≤ (c5 : Int) := by omega
            have hkc3 : (k : Int) ≤ (c3 : Int) := by omega
            have hkz : (0 : Int) ≤ (k : Int) := by omega
            go_still_tail 7, (by kernel_rfl)
            change wpList _ _ _ _ _ w5.drew
            have hED := (Ext.refl w5).drew
            have hE2d := hE25.trans hED
            have hP6 := (hP.ext hE2d).head hkg
            rw [← List.map_take] at hP6
            have hR6 := (hR.ext hE2d).head (c := c3) hkg
            rw [cutAt_0] at hR6
            have hB6 := (hE45.trans hED).bytes hB4
            have CD := dataOf_any (ka := c4) (c1 := c5) (c2 := c3) hp hk1 hkm ⟨hB6, hclm, hc4⟩ hP6 hR6 HALK.out hN1
            unfold MV.arg at CD
            dsimp only at CD
            generalize timesL k k (backX k (ga.take k)) (al.take k) = D at *
            clear s0 s1 s2 hP hR hP6 hR6
            go_wp2_with fail
            refine CD.mono ?_
            rintro e w6 ⟨v6, rfl, hO6, hE6⟩
            obtain ⟨A6, c6, rfl, hc6, hm6, hR6⟩ := hO6.toP.form
            have hE56 := hED.trans hE6
            have hW6 := hW5.ext hE56
            have CT := rsTimes_any ⟨m, k, cellsOf k (cauchyF k) (m * k)⟩ A4 A6 c4 c6 D w6 HMay.out ⟨hE56.bytes (hE45.bytes hB4), hclm, hc4⟩ hR6 (by dsimp only; rw [HDL.out, Int.toNat_natCast]; exact Nat.le_refl _) (fun _ => by rw [HDL.out]; omega) HDA.out HD0.out
            unfold MV.arg at CT
            dsimp only at CT
            rw [Int.toNat_natCast, Int.toNat_natCast, HAt.out] at CT
            have HML := hide (timesL_len m k (cauchyF k) D)
            generalize timesL m k (cauchyF k) D = more at *
            clear CD hR6
            go_wp2_with (refine wpList_load_row rfl 76 (.tmp 12) rfl _ rfl _ _ _ _ hW6 Tryd.underlying76 rfl mat_info ?_)
            refine CT.mono ?_
            rintro e w7 ⟨v7, rfl, hO7, hE7⟩
            obtain ⟨A7, c7, rfl, hc7, hm7, _⟩ := hO7.toP.form
            have hlt6 := hO6.lt
            have hO67 := hO6.ext hE7
            have hlen7 : D.length + more.length ≤ 1000 := by rw [HDL.out, HML.out]; omega
            have hF7 := (hF5.trans hE56).trans hE7
            have hs5 : w.heap.size ≤ w5.drew.heap.size := hF5.le
            clear CT hW6
            go_wp2_with (at_builtin; refine wpList_appNN rfl (.tmp 62) (.tmp 65) rfl rfl (hO67.mono hs5) rfl hO7 (fun k hk => (hlt6 k hk).2) hlen7 hF7.le (hF5.trans hE56).le ?_; intro v8 w8 hO8 hG8)
            go_ret2
            rw [HN.out, HS.out]
            exact ⟨_, rfl, hO8, Below.grown hF7 hG8 hF7.le (fun k hk => Nat.le_trans hs5 (hlt6 k hk).1)⟩
        · have HN := hide (show res = ([], 13) by rw [HE.out, if_neg ha])
          simp only [decide_eq_false ha] at L1
          clear HE ha
          go_wp2_with fail
          refine (L1 _ hR).mono ?_
          rintro e w3 ⟨rfl, hE3⟩
          go_wp2
          go_ret2
          rw [HN.out]
          exact ⟨_, rfl, OwnN.nil _ _, hE2.trans hE3⟩
      · have HN := hide (show mendE k m parts good = ([], 13) by unfold mendE; rw [if_neg (fun h => hg h.2.2)])
        have hne2 : ((good.length : Int) != (k : Int) + (m : Int)) = true := by simp; omega
        generalize mendE k m parts good = res at *
        clear hm hg hp q1 q2 q3 q4 hrow h1 h2
        go_enter Tryd.func73, Tryd.ntmps73
        go_wp2_with fail
        refine (M1 _).mono ?_
        rintro e w1 ⟨rfl, rfl⟩
        go_wp2
        go_ret2
        rw [HN.out]
        exact ⟨_, rfl, OwnN.nil _ _, Ext.refl _⟩
    · have HN := hide (show mendE k m parts good = ([], 13) by unfold mendE; rw [if_neg (fun h => hp h.2.1)])
      have hne1 : ((parts.length : Int) != (k : Int) + (m : Int)) = true := by simp; omega
      generalize mendE k m parts good = res at *
      clear hm hp q1 q2 q3 q4 hrow h1 h2
      go_enter Tryd.func73, Tryd.ntmps73
      go_wp2_with fail
      refine (M1 _).mono ?_
      rintro e w1 ⟨rfl, rfl⟩
      go_wp2
      go_ret2
      rw [HN.out]
      exact ⟨_, rfl, OwnN.nil _ _, Ext.refl _⟩
  · have HN := hide (show mendE k m parts good = ([], 13) by unfold mendE; rw [if_neg (fun h => hm h.1)])
    rw [Bool.not_eq_true] at hm
    rw [hm] at M1
    generalize mendE k m parts good = res at *
    clear hm hrow h1 h2
    go_enter Tryd.func73, Tryd.ntmps73
    go_wp2_with fail
    refine (M1 _).mono ?_
    rintro e w1 ⟨rfl, rfl⟩
    go_wp2
    go_ret2
    rw [HN.out]
    exact ⟨_, rfl, OwnN.nil _ _, Ext.refl _⟩
theorem rsMend_any (k m : Int) (A1 A2 : Option Addr) (c1 c2 : Nat) (parts : List (List UInt8)) (good : List Bool) (w : World) (hk0 : -9223372036854775808 ≤ k) (hk64 : k ≤ 9223372036854775807) (h1 : RowsAt w w.heap.size A1 parts.length parts) (h2 : BoolsAt w w.heap.size A2 good.length good)
    (hp1000 : parts.length ≤ 1000) (hrow : ∀ i, i < parts.length → (parts.getD i []).length ≤ 20000) :
    Calls Tryd.prog 73 #[.int .i64 k, .int .i64 m, .slice A1 parts.length c1, .slice A2 good.length c2] w (MadePE w (mendE k m parts good).1 (mendE k m parts good).2) := (rsMendN_any k m A1 A2 c1 c2 parts good w hk0 hk64 h1 h2 hp1000 hrow).mono fun _ _ h => h.toPE
end Go.Proofs.YtkfipfhmbhmamaaDoor

namespace Go.Proofs.YtkfipfhmbhmamaaDoor
open Go.RowKit

theorem right_by {k m : Nat} {parts : List (List UInt8)} (hk1 : 1 ≤ k) (hkm : k + m ≤ 255) (hp : parts.length = k + m) :
    rightR k m parts = decide (alike (parts.take k) ∧ (parityE m (parts.take k)).1 = parts.drop k) := by
  unfold rightR
  rw [Int.toNat_natCast]
  refine decide_eq_decide.2 ⟨fun ⟨_, _, h3, h4⟩ => ⟨fun i hi => ?_, h4⟩, fun ⟨h3, h4⟩ => ⟨mayK_iff.2 ⟨by omega, by omega, by omega, by omega⟩, by omega, ?_, h4⟩⟩
  · rw [List.length_take] at hi
    rw [getD_takeP (by omega), getD_takeP (by omega)]
    exact h3 i (by omega)
  · have hl : (parts.take k).length = k := by rw [List.length_take]; omega
    have hmy : mayK (parts.take k).length (m : Int) = true := by rw [hl]; exact mayK_iff.2 ⟨by omega, by omega, by omega, by omega⟩
    unfold parityE at h4
    rw [if_pos ⟨hmy, h3⟩] at h4
    simp only [Int.toNat_natCast] at h4
    have e : parts = parts.take k ++ parts.drop k := (List.take_append_drop k parts).symm
    refine alike_of (N := ((parts.take k).getD 0 []).length) fun i hi => ?_
    by_cases hik : i < k
    · rw [← getD_takeP (L := parts) hik]
      exact h3 i (by omega)
    · have e2 : (parts.getD i []).length = ((parts.take k ++ parts.drop k).getD i []).length := by rw [← e]
      rw [e2, getD_app_r (by omega), hl, ← h4, timesL_at (by omega), rowB_len]

attribute [local go_sem ↓] run_headP0 run_cutRs
end Go.Proofs.YtkfipfhmbhmamaaDoor

namespace Go.Proofs.YtkfipfhmbhmamaaDoor
open Go.RowKit

theorem parityC_any (w : World) : ParityC w := fun m A k data W _ h _ h1 h2 => rsParity_any m A k data W h h1 fun i hi => Nat.le_trans (h2 i hi) (by omega)
theorem mendC_any (w : World) : MendC w := fun k m A1 A2 c1 c2 parts good W _ hk0 hk1 h1 h2 _ _ hp _ hrow => rsMend_any k m A1 A2 c1 c2 parts good W hk0 hk1 h1 h2 hp fun i hi => Nat.le_trans (hrow i hi) (by omega)
end Go.Proofs.YtkfipfhmbhmamaaDoor

