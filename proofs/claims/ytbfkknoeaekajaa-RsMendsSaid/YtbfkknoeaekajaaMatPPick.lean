/- Contract of the program's Pick. -/
import Derived.Test.YtbfkknoeaekajaaMatPAdd
import Derived.Test.YtbfkknoeaekajaaMatPBase
import Derived.Test.YtbfkknoeaekajaaMatPickR
namespace Go.Proofs.Ytbfkknoeaekajaa
open Go.RowKit

/-- The rows that are picked so far. -/
def pickTo (pf : Mat.M) (j : Nat) : Mat.M := fun a b => if a < j then pf a b else 0
theorem pickTo_none (pf : Mat.M) : pickTo pf 0 = fun _ _ => 0 := by
  funext a b
  simp [pickTo]
theorem pickTo_step (pf : Mat.M) (c j N : Nat) (hc : c = 0 → N = 0) : cellsOf c (fun a b => if a = j ∧ b < c then pf j b else pickTo pf j a b) N = cellsOf c (pickTo pf (j + 1)) N := by
  refine cells_congr fun p hp => ?_
  have := Nat.mod_lt p (by omega : 0 < c)
  unfold pickTo
  by_cases h : p / c = j
  · rw [if_pos ⟨h, this⟩, if_pos (by omega), h]
  · rw [if_neg (fun e => h e.1)]
    by_cases h2 : p / c < j
    · rw [if_pos h2, if_pos (by omega)]
    · rw [if_neg h2, if_neg (by omega)]
theorem pickTo_all (pf : Mat.M) (n c : Nat) : cellsOf c (pickTo pf n) (n * c) = cellsOf c pf (n * c) := by
  refine cells_congr fun p hp => ?_
  unfold pickTo
  rw [if_pos (Nat.div_lt_of_lt_mul (by rw [Nat.mul_comm]; exact hp))]

set_option maxHeartbeats 4000000 in
set_option maxRecDepth 100000 in
theorem matPick_any (m : MV) (L : List Int) (A1 A2 : Option Addr) (k1 k2 : Nat) (w : World) (hm : m.lies w A1 k1) (h2 : IntsAt w w.heap.size A2 L.length L) (hl2 : L.length ≤ 140737488355328) :
    Calls Try.prog 38 #[m.arg A1 k1, .slice A2 L.length k2] w (MadeM w (m.pickE L).1 (m.pickE L).2) := by
  have M1 := fun W => matMay_any m A1 k1 W hm.2.1
  have hE1 := extNew w (.cells #[.int .i64 m.r, .int .i64 m.c, .slice A1 m.l.length k1] 42)
  have hE2 := extNew (w.alloc (.cells #[.int .i64 m.r, .int .i64 m.c, .slice A1 m.l.length k1] 42)) (.cells #[.int .i64 0, .int .i64 0, .slice none 0 0] 42)
  have hWa := (Whole.new w 42 #[.int .i64 m.r, .int .i64 m.c, .slice A1 m.l.length k1]).ext hE2
  have hWr := Whole.new (w.alloc (.cells #[.int .i64 m.r, .int .i64 m.c, .slice A1 m.l.length k1] 42)) 42 #[.int .i64 0, .int .i64 0, .slice none 0 0]
  have hE := hE1.trans hE2
  rw [World.size_alloc] at hWr
  clear hE1 hE2
  have HP := hide (show m.pickE L = if m.picks L then (m.pickR L, 0) else (MV.zero, 13) from rfl)
  obtain ⟨h1, hl1, hk1⟩ := hm
  unfold MV.arg at M1 ⊢
  by_cases ha : m.may = true
  · rw [ha] at M1
    have CC := counts_any L.length
    by_cases hn : (L.length : Int) ≤ 255
    · rw [decide_eq_true ⟨by omega, hn⟩] at CC
      obtain ⟨q1, q2, q3, q4, q5⟩ := MV.may_iff.1 ha
      have HR := hide (show m.pickR L = ⟨L.length, m.c, cellsOf m.c.toNat (m.pickF L) (L.length * m.c.toNat)⟩ from rfl)
      have HF := hide (show ∀ i j, m.pickF L i j = m.l.getD ((L.getD i 0).toNat * m.c.toNat + j) 0 from fun _ _ => rfl)
      have HK := hide (show (∀ i, i < L.length → 0 ≤ L.getD i 0 ∧ L.getD i 0 < m.r) → m.pickE L = (m.pickR L, 0) from fun h => by rw [HP.out, if_pos]; exact ⟨ha, by omega, h⟩)
      have HX := hide (show (∃ i, i < L.length ∧ ¬ (0 ≤ L.getD i 0 ∧ L.getD i 0 < m.r)) → m.pickE L = (MV.zero, 13) from fun ⟨i, hi, hx⟩ => by rw [HP.out, if_neg]; rintro ⟨_, _, h⟩; exact hx (h i hi))
      clear HP ha
      generalize m.pickE L = res at *
      generalize m.pickR L = pr at *
      generalize m.pickF L = pf at *
      obtain ⟨mr, mc, ml⟩ := m
      dsimp only at *
      obtain ⟨mr, rfl⟩ := Int.eq_ofNat_of_zero_le q1
      obtain ⟨mc, rfl⟩ := Int.eq_ofNat_of_zero_le q3
      simp only [Int.toNat_natCast] at *
      have ml5 : ml.length = mr * mc := by omega
      have hmr : mr ≤ 255 := by omega
      have hmc : mc ≤ 255 := by omega
      have hln : L.length ≤ 255 := by omega
      have CB := fun W => blank_any L.length mc hln (by omega) W
      have HM := hide ml5
      have HA := hide (pickTo_all pf L.length mc)
      have HH1 := hide h1
      have HK1 := hide hk1
      clear q1 q2 q3 q4 q5 ml5 hl1 hl2 h1 hk1
      go_enter Try.func38, Try.ntmps38
      go_wp2_with (refine wpList_load_row rfl 42 (.tmp 2) rfl _ rfl _ _ _ _ hWa Try.underlying42 rfl mat_info ?_)
      refine (M1 _).mono ?_
      rintro e w3 ⟨rfl, hF3⟩
      have hWa3 := hWa.ext hF3
      have hWr3 := hWr.ext hF3
      have hE3 := hE.trans hF3
      have d1 := hWa3.at 1 rfl
      clear M1 hF3 hWa hWr hE
      go_wp2_with fail
      refine (CC _).mono ?_
      rintro e w4 ⟨rfl, rfl⟩
      go_wp2_with fail
      refine (CB _).mono ?_
      rintro e w4 ⟨g, rfl, hg, hO, hE4⟩
      have hg2 := (hO.lt g rfl).2
      have hW2 := Whole.new w4 42 #[.int .i64 0, .int .i64 0, .slice none 0 0]
      have hE5 := extNew w4 (.cells #[.int .i64 0, .int .i64 0, .slice none 0 0] 42)
      unfold matV
      go_wp2_with (refine wpList_storeW rfl 42 (.tmp 6) (.tmp 23) rfl rfl rfl hW2 rfl mat_info (mat_one rfl) ?_; intro w5 hW5 hG5 _)
      have hO5 := (Mod.ofRow (ob := none) hG5).own (hO.ext hE5) (by simp [Value.ownBlock]; omega) (by simp [Classical.em])
      have hF5 : Ext w3 w5 := Below.grown (hE4.trans hE5) hG5 (hE4.trans hE5).le (fun k hk => by cases hk; exact hE4.le)
      rw [cells_zero mc, ← pickTo_none pf] at hO5
      obtain ⟨gb, hgb⟩ : ∃ gb, gb = w4.heap.size := ⟨_, rfl⟩
      rw [← hgb] at hW5 ⊢
      have hb : w3.heap.size ≤ gb := by have := hE4.le; omega
      have hgg : g < gb := by omega
      have hrl := hWr3.lt
      clear hO hW2 hE5 hG5 hg2 hgb CC CB d1 hE4
      go_wp2_with fail
      go_loopw [26] (fun i wr => ∃ j : Nat, j ≤ L.length ∧ i = .int .i64 (j : Int) ∧ (∀ k, k < j → 0 ≤ L.getD k 0 ∧ L.getD k 0 < (mr : Int)) ∧ OwnB wr w3.heap.size (.slice (some ⟨g, 0, none⟩) (L.length * mc) (L.length * mc)) (cellsOf mc (pickTo pf j) (L.length * mc)) ∧ Whole wr gb 42 #[.int .i64 L.length, .int .i64 mc, .slice (some ⟨g, 0, none⟩) (L.length * mc) (L.length * mc)] ∧ Ext w3 wr) (fun i _ => L.length - (intOf i).toNat)
      case atStart => exact ⟨0, by omega, rfl, fun k hk => by omega, hO5, hW5, hF5⟩
      case round =>
        obtain ⟨i, hi, rfl, hall, hOi, hWm, hEr⟩ := hrel
        have hWa' := hWa3.ext hEr
        have d0' := hWa'.at 0 rfl
        by_cases hlt : i < L.length
        · have hEw := hE3.trans hEr
          rcases h2.2 with h0 | ⟨g2, o2, rfl, hg2, hc2⟩
          · omega
          have r0 := (hEw.cell (i := o2 + i) hg2).trans (hc2 i hlt)
          have HL := hide hall
          have HC2 := hide hc2
          clear hc2 hall h2
          obtain ⟨R, hR⟩ : ∃ R, R = L.getD i 0 := ⟨_, rfl⟩
          rw [← hR] at r0
          have HRR := hide hR
          clear hR
          by_cases hbad : R < 0 ∨ (mr : Int) ≤ R
          · have HN := hide (HX.out ⟨i, hlt, by rw [← HRR.out]; omega⟩)
            have hWrr := hWr3.ext hEr
            rcases hbad with hb1 | hb1
            · go_wp2_with (refine wpList_storeW rfl 42 (.tmp 4) (.tmp 39) rfl rfl rfl hWrr rfl mat_info (mat_one rfl) ?_; intro w6 hW6 hG6 _)
              refine bodyPost_ret (results_mat rfl _ rfl rfl hW6 rfl) rfl ?_
              rw [HN.out]
              exact MadeM.zero 13 (Below.grown hEw hG6 hEw.le (fun k hk => by cases hk; omega))
            · have hb2 : ¬ (R < 0) := by omega
              go_wp2_with (refine wpList_storeW rfl 42 (.tmp 4) (.tmp 39) rfl rfl rfl hWrr rfl mat_info (mat_one rfl) ?_; intro w6 hW6 hG6 _)
              refine bodyPost_ret (results_mat rfl _ rfl rfl hW6 rfl) rfl ?_
              rw [HN.out]
              exact MadeM.zero 13 (Below.grown hEw hG6 hEw.le (fun k hk => by cases hk; omega))
          · have hb1 : ¬ (R < 0) := by omega
            have hb2 : ¬ ((mr : Int) ≤ R) := by omega
            obtain ⟨R, rfl⟩ := Int.eq_ofNat_of_zero_le (show 0 ≤ R by omega)
            have hRm : R < mr := by omega
            have CRa := fun W => row_any' L.length i mc (L.length * mc) (L.length * mc) (some ⟨g, 0, none⟩) (by omega) (by omega) (Nat.mul_le_mul_right _ hlt) W
            have CRb := fun W => row_any' mr R mc k1 ml.length A1 (by omega) (by omega) (by have := HM.out; have := HK1.out; have : (R + 1) * mc ≤ mr * mc := Nat.mul_le_mul_right _ hRm; omega) W
            unfold matV at CRa CRb
            have HB0 := hide (show ∀ b, pf i b = ml.getD (R * mc + b) 0 from fun b => by rw [HF.out, ← HRR.out, Int.toNat_natCast])
            have HBy := hide (show ∀ W, Ext wr W → Bytes W W.heap.size (cutAt A1 k1 (R * mc)) mc (rowB mc (pf i)) from fun W hX => by
              have := rowBytes (F := fun a b => ml.getD (a * mc + b) 0) ((hEw.trans hX).bytes HH1.out) HM.out HK1.out hRm (fun _ _ => rfl)
              rwa [rowB_congr (g := pf i) (fun j _ => (HB0.out j).symm)] at this)
            have HPs := hide (pickTo_step pf mc i (L.length * mc) (fun h => by rw [h, Nat.mul_zero]))
            clear hbad
            go_wp2_with fail

            refine wp_region_T (fun W => Ext wr W) 6 7 #[false, false, false, false, false, false, false] (by kernel_rfl) rfl rfl (Ext.refl wr).drew ?_
            intro hS0
            refine wpAnyT_take 0 (some 40) (.agg #[.int .i64 (L.length : Int), .int .i64 (mc : Int), .slice (some ⟨g, 0, none⟩) (L.length * mc) (L.length * mc)]) #[true, false, false, false, false, false, false] rfl rfl rfl (by kernel_rfl) (fun _ _ _ h => h) hS0 (by rfl) (fun W hX => by have s0 := (hWm.ext hX).at 0 (u := .int .i64 (L.length : Int)) rfl; have s1 := (hWm.ext hX).at 1 (u := .int .i64 (mc : Int)) rfl; have s2 := (hWm.ext hX).at 2 (u := .slice (some ⟨g, 0, none⟩) (L.length * mc) (L.length * mc)) rfl; go_simp) ?_
            simp only [Act.put, List.setIfInBounds_toArray, List.set_cons_zero, List.set_cons_succ]
            refine wpAnyT_take 1 (some 41) (.int .i64 (i : Int)) #[true, true, false, false, false, false, false] rfl rfl rfl (by kernel_rfl) (fun _ _ _ h => h) hS0 (by rfl) (fun W hX => by go_simp) ?_
            simp only [Act.put, List.setIfInBounds_toArray, List.set_cons_zero, List.set_cons_succ]
            refine wpAnyT_take 3 (some 43) (.agg #[.int .i64 (mr : Int), .int .i64 (mc : Int), .slice A1 ml.length k1]) #[true, true, false, true, false, false, false] rfl rfl rfl (by kernel_rfl) (fun _ _ _ h => h) hS0 (by rfl) (fun W hX => by have s0 := (hWa'.ext hX).at 0 (u := .int .i64 (mr : Int)) rfl; have s1 := (hWa'.ext hX).at 1 (u := .int .i64 (mc : Int)) rfl; have s2 := (hWa'.ext hX).at 2 (u := .slice A1 ml.length k1) rfl; go_simp) ?_
            simp only [Act.put, List.setIfInBounds_toArray, List.set_cons_zero, List.set_cons_succ]
            refine wpAnyT_take 4 (some 44) (.int .i64 (R : Int)) #[true, true, false, true, true, false, false] rfl rfl rfl (by kernel_rfl) (fun _ _ _ h => h) hS0 (by rfl) (fun W hX => by go_simp) ?_
            simp only [Act.put, List.setIfInBounds_toArray, List.set_cons_zero, List.set_cons_succ]
            refine wpAnyT_only 2 #[true, true, true, true, true, false, false] (by kernel_rfl) rfl rfl (by rfl) (fun K0 hK0 => ?_)
            go_simp
            go_at_call 53
            refine (CRa _).mono ?_
            rintro e w6 ⟨rfl, hE6⟩
            have hX6 := hS0.trans hE6
            refine hK0 _ _ (fun _ => hX6) ?_
            clear hK0 K0
            refine wpAnyT_only 5 #[true, true, true, true, true, true, false] (by kernel_rfl) rfl rfl (by rfl) (fun K1 hK1 => ?_)
            go_simp
            go_at_call 53
            refine (CRb _).mono ?_
            rintro e w7 ⟨rfl, hE7⟩
            have hX7 := hX6.trans hE7
            refine hK1 _ _ (fun _ => hX7) ?_
            clear hK1 K1
            refine wpAnyT_only 6 #[true, true, true, true, true, true, true] (by kernel_rfl) rfl rfl (by rfl) (fun K4 hK4 => ?_)
            refine wp_copyM (.tmp 42) (.tmp 45) rfl rfl rfl (hOi.ext hX7) (HBy.out _ hX7) rfl (Nat.le_refl _) hlt (Nat.le_refl _) rfl ?_
            intro w8 hO8 hG8 hS8
            refine hK4 _ _ (fun h => absurd h (by decide)) (wpAnyT_done (by kernel_rfl) ?_ _)
            clear hK4 K4 hE6 hE7 hX6
            have hE8 : Ext w3 w8 := Below.grown (hEr.trans hX7) hG8 (hEr.trans hX7).le (fun k hk => by cases hk; exact hg)
            have hWm8 := (hWm.ext hX7).grown hG8 (by omega)
            rw [HPs.out] at hO8
            go_wp2
            go_roundw
            case rel =>
              refine ⟨i + 1, by omega, by go_num, fun k hk => ?_, hO8, hWm8, hE8⟩
              by_cases hki : k < i
              · exact HL.out k hki
              · obtain rfl : k = i := by omega
                rw [← HRR.out]
                omega
            case measure => simp [intOf]; omega
        · obtain rfl : i = L.length := by omega
          have hWrr := hWr3.ext hEr
          have HN := hide (HK.out hall)
          rw [HA.out] at hOi
          clear hall
          go_wp2_with (first
            | (refine wpList_load_row rfl 42 (.tmp 6) rfl _ rfl _ _ _ _ hWm Try.underlying42 rfl mat_info ?_)
            | (refine wpList_storeW rfl 42 (.tmp 4) (.tmp 48) rfl rfl rfl hWrr rfl mat_info (mat_one rfl) ?_; intro w6 hW6 hG6 _))
          refine bodyPost_ret (results_mat rfl _ rfl rfl hW6 rfl) rfl ?_
          rw [HN.out, HR.out]
          have hne6 : (Value.slice (some ⟨g, 0, none⟩) (L.length * mc) (L.length * mc)).ownBlock ≠ some (w.heap.size + 1) := fun e => by
            have := (hOi.lt _ e).1
            omega
          exact ⟨_, rfl, ((Mod.ofRow (ob := none) hG6).own hOi hne6 (by simp [Classical.em])).mono hE3.le, Below.grown (hE3.trans hEr) hG6 (hE3.trans hEr).le (fun k hk => by cases hk; omega)⟩
    · rw [decide_eq_false (fun h => hn h.2)] at CC
      have HN := hide (show m.pickE L = (MV.zero, 13) by rw [HP.out, if_neg]; rintro ⟨_, h, _⟩; omega)
      clear ha
      go_enter Try.func38, Try.ntmps38
      go_wp2_with (refine wpList_load_row rfl 42 (.tmp 2) rfl _ rfl _ _ _ _ hWa Try.underlying42 rfl mat_info ?_)
      refine (M1 _).mono ?_
      rintro e w2 ⟨rfl, hF2⟩
      have hWr2 := hWr.ext hF2
      go_wp2_with fail
      refine (CC _).mono ?_
      rintro e w4 ⟨rfl, rfl⟩
      go_wp2_with (refine wpList_storeW rfl 42 (.tmp 4) (.tmp 18) rfl rfl rfl hWr2 rfl mat_info (mat_one rfl) ?_; intro w5 hW5 hG5 _)
      refine bodyPost_ret (results_mat rfl _ rfl rfl hW5 rfl) rfl ?_
      rw [HN.out]
      exact MadeM.zero 13 (Below.grown (hE.trans hF2) hG5 (hE.trans hF2).le (fun k hk => by cases hk; omega))
  · have HN := hide (show m.pickE L = (MV.zero, 13) by rw [HP.out, if_neg]; rintro ⟨h, _, _⟩; exact ha h)
    rw [Bool.not_eq_true] at ha
    rw [ha] at M1
    clear ha
    go_enter Try.func38, Try.ntmps38
    go_wp2_with (refine wpList_load_row rfl 42 (.tmp 2) rfl _ rfl _ _ _ _ hWa Try.underlying42 rfl mat_info ?_)
    refine (M1 _).mono ?_
    rintro e w2 ⟨rfl, hF2⟩
    have hWr2 := hWr.ext hF2
    go_wp2_with (refine wpList_storeW rfl 42 (.tmp 4) (.tmp 18) rfl rfl rfl hWr2 rfl mat_info (mat_one rfl) ?_; intro w5 hW5 hG5 _)
    refine bodyPost_ret (results_mat rfl _ rfl rfl hW5 rfl) rfl ?_
    rw [HN.out]
    exact MadeM.zero 13 (Below.grown (hE.trans hF2) hG5 (hE.trans hF2).le (fun k hk => by cases hk; omega))
end Go.Proofs.Ytbfkknoeaekajaa
