/- Contract of the program's from: the columns from one on. -/
import Derived.Test.YtpgdmdcooddgdaaMatPBeside
namespace Go.Proofs.Ytpgdmdcooddgdaa
open Go.RowKit

set_option maxHeartbeats 4000000 in
set_option maxRecDepth 100000 in
theorem from_any {base g r c k col d : Nat} {F : Mat.M} {w : World} (hr : r ≤ 255) (hc : c ≤ 510) (hd : c = col + d) (hd0 : 0 < d ∨ r = 0) (hM : OwnM w base g r c k F) :
    Calls Try.prog 42 #[ownV g r c k, .int .i64 (col : Int)] w fun e w' => ∃ g2, e = .returned (ownV g2 r d (r * d)) ∧ OwnM w' w.heap.size g2 r d (r * d) (fun a b => F a (col + b)) ∧ Ext w w' := by
  have hE1 := extNew w (.cells #[.int .i64 r, .int .i64 c, .slice (some ⟨g, 0, none⟩) (r * c) k] 54)
  have hE2 := extNew (w.alloc (.cells #[.int .i64 r, .int .i64 c, .slice (some ⟨g, 0, none⟩) (r * c) k] 54)) (.cells #[.int .i64 0, .int .i64 0, .slice none 0 0] 24)
  have hWa := (Whole.new w 54 #[.int .i64 r, .int .i64 c, .slice (some ⟨g, 0, none⟩) (r * c) k]).ext hE2
  have hWr := Whole.new (w.alloc (.cells #[.int .i64 r, .int .i64 c, .slice (some ⟨g, 0, none⟩) (r * c) k] 54)) 24 #[.int .i64 0, .int .i64 0, .slice none 0 0]
  have hE := hE1.trans hE2
  rw [World.size_alloc] at hWr
  clear hE1 hE2
  have CB := fun W => blank_any r d hr (by omega) W
  have hsub : (c : Int) - (col : Int) = (d : Int) := by omega
  have HD := hide hd
  have HD0 := hide hd0
  have hdc : d ≤ c := by omega
  have HM := hide hM
  have hg0 := hM.2.2.1
  have hkk := hM.2.2.2
  clear hM hd hd0
  unfold ownV matV
  go_enter Try.func42, Try.ntmps42
  go_wp2_with fail
  refine (CB _).mono ?_
  rintro e w4 ⟨g2, rfl, hg, hO, hE4⟩
  have hE04 := hE.trans hE4
  have hgw : w.heap.size + 1 < g2 := by have := hWr.lt; omega
  have hg2 := (hO.lt g2 rfl).2
  have hW2 := Whole.new w4 24 #[.int .i64 0, .int .i64 0, .slice none 0 0]
  have hE5 := extNew w4 (.cells #[.int .i64 0, .int .i64 0, .slice none 0 0] 24)
  have hWa4 := hWa.ext hE4
  have hWr4 := hWr.ext hE4
  unfold matV
  go_wp2_with (refine wpList_storeW rfl 24 (.tmp 5) (.tmp 15) rfl rfl rfl hW2 rfl mat_info (mat_one rfl) ?_; intro w5 hW5 hG5 _; have hWa5 := (hWa4.ext hE5).grown hG5 (by have := hWa4.lt; omega); have d0 := hWa5.at 0 (u := .int .i64 (r : Int)) rfl)
  have hO5 := (Mod.ofRow (ob := none) hG5).own (hO.ext hE5) (by simp [Value.ownBlock]; omega) (by simp [Classical.em])
  have hWr5 := (hWr4.ext hE5).grown hG5 (by have := hWr4.lt; omega)
  have hF5 : Ext w w5 := Below.grown (hE04.trans hE5) hG5 (hE04.trans hE5).le (fun k hk => by cases hk; exact hE04.le)
  rw [cells_zero d, ← pickTo_none (fun a b => F a (col + b))] at hO5
  have hO5' := hO5.mono (base' := w.heap.size) (by simp; omega)
  obtain ⟨gb, hgb⟩ : ∃ gb, gb = w4.heap.size := ⟨_, rfl⟩
  rw [← hgb] at hW5 ⊢
  have hgg : g2 < gb := by omega
  clear hO hW2 hE5 hG5 hg2 hgb CB hE4 hO5 hWa hWr hWa4 hWr4 hE hE04 hg
  go_loopw [19] (fun i wr => ∃ j : Nat, j ≤ r ∧ i = .int .i64 (j : Int) ∧ OwnB wr w.heap.size (.slice (some ⟨g2, 0, none⟩) (r * d) (r * d)) (cellsOf d (pickTo (fun a b => F a (col + b)) j) (r * d)) ∧ Whole wr gb 24 #[.int .i64 (r : Int), .int .i64 (d : Int), .slice (some ⟨g2, 0, none⟩) (r * d) (r * d)] ∧ Whole wr w.heap.size 54 #[.int .i64 r, .int .i64 c, .slice (some ⟨g, 0, none⟩) (r * c) k] ∧ Whole wr (w.heap.size + 1) 24 #[.int .i64 0, .int .i64 0, .slice none 0 0] ∧ Ext w wr) (fun i _ => r - (intOf i).toNat)
  case atStart => exact ⟨0, by omega, rfl, hO5', hW5, hWa5, hWr5, hF5⟩
  case round =>
    obtain ⟨i, hi, rfl, hOi, hWm, hWa, hWr, hEr⟩ := hrel
    by_cases hlt : i < r
    · have hdp : 0 < d := by have := HD0.out; omega
      have hpc := row_place (c := c) hlt (by omega)
      have CRa := fun W => row_any' r i d (r * d) (r * d) (some ⟨g2, 0, none⟩) (by omega) (by omega) (Nat.mul_le_mul_right _ hlt) W
      have CRb := fun W => row_any' r i c k (r * c) (some ⟨g, 0, none⟩) (by omega) hc (Nat.le_trans (Nat.mul_le_mul_right _ hlt) hkk) W
      rw [cutAt_zero (show k ≠ i * c by omega)] at CRb
      unfold matV at CRa CRb
      have HPs := hide (pickTo_step (fun a b => F a (col + b)) d i (r * d) (fun h => by omega))
      have HBy := hide (show ∀ W, Ext w W → Bytes W W.heap.size (some ⟨g, i * c + col, none⟩) d (rowB d (fun b => F i (col + b))) from fun W hX => by
        have h1 := ownRow (HM.out.ext hX).1 rfl hkk hlt
        rw [cutAt_zero (show k ≠ i * c by omega)] at h1
        have h2 := h1.drop (k := col) (c := k - i * c) (by have := HD.out; omega) (by omega)
        rw [rowB_drop', show cutAt (some ⟨g, i * c, none⟩) (k - i * c) col = some ⟨g, i * c + col, none⟩ by unfold cutAt; rw [if_neg (by have := HD.out; omega)]; simp [Addr.add], show c - col = d by have := HD.out; omega] at h2
        exact h2)
      have hk1 : i * c + c ≤ k := by omega
      generalize i * c = io at *
      obtain ⟨kd, hkd⟩ : ∃ kd, kd = k - io := ⟨_, rfl⟩
      rw [← hkd] at CRb
      have HKD := hide hkd
      have hkd1 : c ≤ kd := by omega
      have hkd2 : ¬ kd = col := by have := HD.out; omega
      clear hkd hpc
      go_wp2_with fail
      have hcc : (col : Int) ≤ (c : Int) := by have := HD.out; omega
      refine wp_region_T (fun W => Ext wr W) 9 10 #[false, false, false, false, false, false, false, false, false, false] (by kernel_rfl) rfl rfl (Ext.refl wr).drew ?_
      intro hS0
      refine wpAnyT_take 0 (some 22) (.agg #[.int .i64 (r : Int), .int .i64 (d : Int), .slice (some ⟨g2, 0, none⟩) (r * d) (r * d)]) #[true, false, false, false, false, false, false, false, false, false] rfl rfl rfl (by kernel_rfl) (fun _ _ _ h => h) hS0 (by rfl) (fun W hX => by have s0 := (hWm.ext hX).at 0 (u := .int .i64 (r : Int)) rfl; have s1 := (hWm.ext hX).at 1 (u := .int .i64 (d : Int)) rfl; have s2 := (hWm.ext hX).at 2 (u := .slice (some ⟨g2, 0, none⟩) (r * d) (r * d)) rfl; go_simp) ?_
      simp only [Act.put, List.setIfInBounds_toArray, List.set_cons_zero, List.set_cons_succ]
      refine wpAnyT_take 1 (some 23) (.int .i64 (i : Int)) #[true, true, false, false, false, false, false, false, false, false] rfl rfl rfl (by kernel_rfl) (fun _ _ _ h => h) hS0 (by rfl) (fun W hX => by go_simp) ?_
      simp only [Act.put, List.setIfInBounds_toArray, List.set_cons_zero, List.set_cons_succ]
      refine wpAnyT_take 3 (some 25) (.pointer (some ⟨w.heap.size, 0, none⟩)) #[true, true, false, true, false, false, false, false, false, false] rfl rfl rfl (by kernel_rfl) (fun _ _ _ h => h) hS0 (by rfl) (fun W hX => by go_simp) ?_
      simp only [Act.put, List.setIfInBounds_toArray, List.set_cons_zero, List.set_cons_succ]
      refine wpAnyT_take 4 (some 26) (.agg #[.int .i64 (r : Int), .int .i64 (c : Int), .slice (some ⟨g, 0, none⟩) (r * c) k]) #[true, true, false, true, true, false, false, false, false, false] rfl rfl rfl (by kernel_rfl) (fun _ _ _ h => h) hS0 (by rfl) (fun W hX => by have s0 := (hWa.ext hX).at 0 (u := .int .i64 (r : Int)) rfl; have s1 := (hWa.ext hX).at 1 (u := .int .i64 (c : Int)) rfl; have s2 := (hWa.ext hX).at 2 (u := .slice (some ⟨g, 0, none⟩) (r * c) k) rfl; go_simp) ?_
      simp only [Act.put, List.setIfInBounds_toArray, List.set_cons_zero, List.set_cons_succ]
      refine wpAnyT_take 5 (some 27) (.int .i64 (i : Int)) #[true, true, false, true, true, true, false, false, false, false] rfl rfl rfl (by kernel_rfl) (fun _ _ _ h => h) hS0 (by rfl) (fun W hX => by go_simp) ?_
      simp only [Act.put, List.setIfInBounds_toArray, List.set_cons_zero, List.set_cons_succ]
      refine wpAnyT_take 7 (some 29) (.int .i64 (col : Int)) #[true, true, false, true, true, true, false, true, false, false] rfl rfl rfl (by kernel_rfl) (fun _ _ _ h => h) hS0 (by rfl) (fun W hX => by go_simp) ?_
      simp only [Act.put, List.setIfInBounds_toArray, List.set_cons_zero, List.set_cons_succ]
      refine wpAnyT_only 2 #[true, true, true, true, true, true, false, true, false, false] (by kernel_rfl) rfl rfl (by rfl) (fun K0 hK0 => ?_)
      go_simp
      go_at_call 35
      refine (CRa _).mono ?_
      rintro e wc0 ⟨rfl, hC0⟩
      have hX0 := hS0.trans hC0
      refine hK0 _ _ (fun _ => hX0) ?_
      clear hK0 K0
      refine wpAnyT_only 6 #[true, true, true, true, true, true, true, true, false, false] (by kernel_rfl) rfl rfl (by rfl) (fun K1 hK1 => ?_)
      go_simp
      go_at_call 35
      refine (CRb _).mono ?_
      rintro e wc1 ⟨rfl, hC1⟩
      have hX1 := hX0.trans hC1
      refine hK1 _ _ (fun _ => hX1) ?_
      clear hK1 K1
      refine wpAnyT_take 8 (some 30) (.slice (some ⟨g, io + col, none⟩) (c - col) (kd - col)) #[true, true, true, true, true, true, true, true, true, false] rfl rfl rfl (by kernel_rfl) (fun _ _ _ h => h) hX1 (by rfl) (fun W hX => by go_simp) ?_
      simp only [Act.put, List.setIfInBounds_toArray, List.set_cons_zero, List.set_cons_succ]
      rw [show c - col = d by have := HD.out; omega]
      refine wpAnyT_only 9 #[true, true, true, true, true, true, true, true, true, true] (by kernel_rfl) rfl rfl (by rfl) (fun K2 hK2 => ?_)
      refine wp_copyM (.tmp 24) (.tmp 30) rfl rfl rfl (hOi.ext hX1) (HBy.out _ (hEr.trans hX1)) rfl (Nat.le_refl _) hlt (Nat.le_refl _) rfl ?_
      intro w8 hO8 hG8 hS8
      refine hK2 _ _ (fun h => absurd h (by decide)) (wpAnyT_done (by kernel_rfl) ?_ _)
      clear hK2 K2
      rw [HPs.out] at hO8
      have hX := hEr.trans hX1
      have hE8 : Ext w w8 := Below.grown hX hG8 hX.le (fun k hk => by cases hk; omega)
      have hWm8 := (hWm.ext hX1).grown hG8 (by omega)
      have hWa8 := (hWa.ext hX1).grown hG8 (by omega)
      have hWr8 := (hWr.ext hX1).grown hG8 (by omega)
      go_wp2
      go_roundw
      case rel => exact ⟨i + 1, by omega, by go_num, hO8, hWm8, hWa8, hWr8, hE8⟩
      case measure => simp [intOf]; omega
    · obtain rfl : i = r := by omega
      go_wp2_with (first
        | (refine wpList_load_row rfl 24 (.tmp 5) rfl _ rfl _ _ _ _ hWm Try.underlying24 rfl mat_info ?_)
        | (refine wpList_storeW rfl 24 (.tmp 4) (.tmp 33) rfl rfl rfl hWr rfl mat_info (mat_one rfl) ?_; intro w6 hW6 hG6 _))
      have hO6 := (Mod.ofRow (ob := none) hG6).own hOi (by simp [Value.ownBlock]; omega) (by simp [Classical.em])
      refine bodyPost_ret (results_mat1 rfl _ rfl hW6 rfl) rfl ⟨g2, rfl, ?_, Below.grown hEr hG6 hEr.le (fun k hk => by cases hk; omega)⟩
      have hM6 : OwnM w6 w.heap.size g2 i d (i * d) _ := ⟨hO6, by omega, (hO6.lt g2 rfl).2, Nat.le_refl _⟩
      refine hM6.congr fun a b ha _ => ?_
      unfold pickTo
      rw [if_pos ha]
end Go.Proofs.Ytpgdmdcooddgdaa
