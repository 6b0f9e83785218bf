/- Contracts of the program's besideIdentity and from. Contract of the program's from: the columns from one on. -/
import Derived.Test.YtbfkknoeaekajaaMatPAdd
import Derived.Test.YtbfkknoeaekajaaMatPPick
import Derived.Test.YtbfkknoeaekajaaMatGauss
namespace Go.Proofs.Ytbfkknoeaekajaa
open Go.RowKit

theorem rowB_drop' (n m : Nat) (f : Nat → UInt8) : (rowB n f).drop m = rowB (n - m) (fun j => f (m + j)) := by
  apply List.ext_getElem
  · rw [List.length_drop, rowB_len, rowB_len]
  · intro p h1 h2
    simp [rowB]
theorem both_step (n : Nat) (A : Mat.M) (i N : Nat) (hN : N = n * (2 * n)) : cellsOf (2 * n) (fun a b => if a = i ∧ b = n + i then 1 else if a = i ∧ b < n then A i b else pickTo (Mat.both n A) i a b) N = cellsOf (2 * n) (pickTo (Mat.both n A) (i + 1)) N := by
  refine cells_congr fun p hp => ?_
  have hn : 0 < n := by
    rcases Nat.eq_zero_or_pos n with h | h
    · rw [h] at hN; omega
    · exact h
  have hlt := Nat.mod_lt p (by omega : 0 < 2 * n)
  generalize p / (2 * n) = a at *
  generalize p % (2 * n) = b at *
  unfold pickTo Mat.both
  by_cases h : a = i
  · subst h
    rw [if_pos (by omega : a < a + 1)]
    by_cases h1 : b = n + a
    · rw [if_pos ⟨rfl, h1⟩, if_neg (by omega), if_pos (by omega)]
    · rw [if_neg (fun e => h1 e.2)]
      by_cases h2 : b < n
      · rw [if_pos ⟨rfl, h2⟩, if_pos h2]
      · rw [if_neg (fun e => h2 e.2), if_neg (by omega), if_neg h2, if_neg (by omega)]
  · rw [if_neg (fun e => h e.1), if_neg (fun e => h e.1)]
    by_cases h3 : a < i
    · rw [if_pos h3, if_pos (show a < i + 1 by omega)]
    · rw [if_neg h3, if_neg (show ¬ a < i + 1 by omega)]

set_option maxHeartbeats 4000000 in
set_option maxRecDepth 100000 in
theorem beside_any {n k : Nat} {A : Option Addr} {l : List UInt8} {fa : Mat.M} {w : World} (hn : n ≤ 255) (hk : l.length ≤ k) (hl : l.length = n * n) (hB : Bytes w w.heap.size A l.length l) (hfa : ∀ i j, fa i j = l.getD (i * n + j) 0) :
    Calls Try.prog 66 #[.agg #[.int .i64 (n : Int), .int .i64 (n : Int), .slice A l.length k]] w fun e w' => ∃ g, e = .returned (ownV g n (2 * n) (n * (2 * n))) ∧ OwnM w' w.heap.size g n (2 * n) (n * (2 * n)) (Mat.both n fa) ∧ Ext w w' := by
  have hE1 := extNew w (.cells #[.int .i64 n, .int .i64 n, .slice A l.length k] 42)
  have hE2 := extNew (w.alloc (.cells #[.int .i64 n, .int .i64 n, .slice A l.length k] 42)) (.cells #[.int .i64 0, .int .i64 0, .slice none 0 0] 73)
  have hWa := (Whole.new w 42 #[.int .i64 n, .int .i64 n, .slice A l.length k]).ext hE2
  have hWr := Whole.new (w.alloc (.cells #[.int .i64 n, .int .i64 n, .slice A l.length k] 42)) 73 #[.int .i64 0, .int .i64 0, .slice none 0 0]
  have hE := hE1.trans hE2
  rw [World.size_alloc] at hWr
  clear hE1 hE2
  have CB := fun W => blank_any n (2 * n) hn (by omega) W
  have h2n : ((2 * n : Nat) : Int) = 2 * (n : Int) := by omega
  rw [h2n] at CB
  have HBy := hide (show ∀ i, i < n → ∀ W, Ext w W → Bytes W W.heap.size (cutAt A k (i * n)) n (rowB n (fa i)) from fun i hi W hX => rowBytes (hX.bytes hB) hl hk hi hfa)
  have HC := hide (show ∀ i, i < n → (i + 1) * n ≤ k from fun i hi => by have : (i + 1) * n ≤ n * n := Nat.mul_le_mul_right _ hi; omega)
  have H2n := hide h2n
  clear hB hl hk hfa h2n
  go_enter Try.func66, Try.ntmps66
  go_wp2_with fail
  refine (CB _).mono ?_
  rintro e w4 ⟨g, rfl, hg, hO, hE4⟩
  have hE04 := hE.trans hE4
  have hg0 : w.heap.size + 1 < g := by have := hWr.lt; omega
  have hg2 := (hO.lt g rfl).2
  have hW2 := Whole.new w4 73 #[.int .i64 0, .int .i64 0, .slice none 0 0]
  have hE5 := extNew w4 (.cells #[.int .i64 0, .int .i64 0, .slice none 0 0] 73)
  have hWa4 := hWa.ext hE4
  have hWr4 := hWr.ext hE4
  obtain ⟨N, hN⟩ : ∃ N, N = n * (2 * n) := ⟨_, rfl⟩
  have HN := hide hN
  rw [← hN] at hO ⊢
  rw [H2n.out]
  clear hN
  unfold matV
  go_wp2_with (refine wpList_storeW rfl 73 (.tmp 3) (.tmp 12) rfl rfl rfl hW2 rfl work_info (mat_one rfl) ?_; intro w5 hW5 hG5 _; have hWa5 := (hWa4.ext hE5).grown hG5 (by have := hWa4.lt; omega); have d0 := hWa5.at 0 (u := .int .i64 (n : Int)) rfl)
  have hO5 := (Mod.ofRow (ob := none) hG5).own (hO.ext hE5) (by simp [Value.ownBlock]; omega) (by simp [Classical.em])
  have hWr5 := (hWr4.ext hE5).grown hG5 (by have := hWr4.lt; omega)
  have hF5 : Ext w w5 := Below.grown (hE04.trans hE5) hG5 (hE04.trans hE5).le (fun k hk => by cases hk; exact hE04.le)
  rw [cells_zero (2 * n), ← pickTo_none (Mat.both n fa)] at hO5
  have hO5' := hO5.mono (base' := w.heap.size) (by simp; omega)
  obtain ⟨gb, hgb⟩ : ∃ gb, gb = w4.heap.size := ⟨_, rfl⟩
  rw [← hgb] at hW5 ⊢
  have hgg : g < gb := by omega
  clear hO hW2 hE5 hG5 hg2 hgb CB hE4 hO5 hWa hWr hWa4 hWr4 hE hE04 hg
  go_loopw [15] (fun i wr => ∃ j : Nat, j ≤ n ∧ i = .int .i64 (j : Int) ∧ OwnB wr w.heap.size (.slice (some ⟨g, 0, none⟩) N N) (cellsOf (2 * n) (pickTo (Mat.both n fa) j) N) ∧ Whole wr gb 73 #[.int .i64 (n : Int), .int .i64 (2 * (n : Int)), .slice (some ⟨g, 0, none⟩) N N] ∧ Whole wr w.heap.size 42 #[.int .i64 n, .int .i64 n, .slice A l.length k] ∧ Whole wr (w.heap.size + 1) 73 #[.int .i64 0, .int .i64 0, .slice none 0 0] ∧ Ext w wr) (fun i _ => n - (intOf i).toNat)
  case atStart => exact ⟨0, by omega, rfl, hO5', hW5, hWa5, hWr5, hF5⟩
  case round =>
    obtain ⟨i, hi, rfl, hOi, hWm, hWa, hWr, hEr⟩ := hrel
    have d1 := hWa.at 1 (u := .int .i64 (n : Int)) rfl
    by_cases hlt : i < n
    · have hpl := row_place (c := 2 * n) hlt (by omega)
      rw [← HN.out] at hpl
      have CR := fun W => row_any' n i (2 * n) N N (some ⟨g, 0, none⟩) (by omega) (by omega) (by rw [Nat.add_mul, Nat.one_mul]; exact hpl.1) W
      rw [cutAt_zero hpl.2, H2n.out] at CR
      have CA := fun W => row_any' n i n k l.length A (by omega) (by omega) (HC.out i hlt) W
      unfold matV at CR CA
      have HHS := hide (both_step n fa i N HN.out)
      have HP1 := hide hpl.1
      have HD := hide (cutAt_zero (g := g) hpl.2)
      have HS := hide (fun x => cells_set (2 * n) N (fun a b => if a = i ∧ b < n then fa i b else pickTo (Mat.both n fa) i a b) (i := i) (j := n + i) (by omega) x)
      generalize hio : i * (2 * n) = io at *
      have HIO := hide hio
      clear hio
      clear hpl
      go_wp2_with (refine wpList_load_row rfl 42 (.tmp 18) rfl _ rfl _ _ _ _ hWm Try.underlying42 rfl mat_info ?_)
      refine (CR _).mono ?_
      rintro e w6 ⟨rfl, hE6⟩
      have hWa6 := hWa.ext hE6
      go_wp2_with (refine wpList_load_row rfl 42 (.tmp 1) rfl _ rfl _ _ _ _ hWa6 Try.underlying42 rfl mat_info ?_)
      refine (CA _).mono ?_
      rintro e w7 ⟨rfl, hE7⟩
      have hE67 := hE6.trans hE7
      have hX := hEr.trans hE67
      go_wp2_with (refine wpList_copyM (kd := N - io) rfl (.tmp 22) (.tmp 25) rfl rfl rfl (hOi.ext hE67) (HBy.out i hlt _ hX) HN.out (Nat.le_refl _) hlt (by omega) (by rw [HIO.out, HD.out]) ?_; intro w8 hO8 hG8 hS8; have hWa8 := (hWa.ext hE67).grown hG8 (by omega); have d18 := hWa8.at 1 (u := .int .i64 (n : Int)) rfl; have k8 := hO8.cell (i := io + (n + i)) (by rw [cellsOf_len]; have := HP1.out; omega); have k81 := k8.1; have k82 := k8.2)
      have hO9 := hO8.set (io + (n + i)) 1
      have hE8 : Ext w w8 := Below.grown (hEr.trans hE67) hG8 (hEr.trans hE67).le (fun k hk => by cases hk; omega)
      have hE9 := hE8.setCell (g := g) (i := io + (n + i)) (by omega) (.int .u8 1)
      have hWm9 := ((hWm.ext hE67).grown hG8 (by omega)).far (b := g) (by omega) (io + (n + i)) (.int .u8 1)
      have hWa9 := hWa8.far (b := g) (by omega) (io + (n + i)) (.int .u8 1)
      have hWr9 := ((hWr.ext hE67).grown hG8 (by omega)).far (b := g) (by omega) (io + (n + i)) (.int .u8 1)
      rw [HS.out, HHS.out] at hO9
      go_wp2
      go_roundw
      case rel => exact ⟨i + 1, by omega, by go_num, hO9, hWm9, hWa9, hWr9, hE9⟩
      case measure => simp [intOf]; omega
    · obtain rfl : i = n := by omega
      go_wp2_with (first
        | (refine wpList_load_row rfl 73 (.tmp 3) rfl _ rfl _ _ _ _ hWm Try.underlying73 rfl work_info ?_)
        | (refine wpList_storeW rfl 73 (.tmp 2) (.tmp 34) rfl rfl rfl hWr rfl work_info (mat_one rfl) ?_; intro w6 hW6 hG6 _))
      have hO6 := (Mod.ofRow (ob := none) hG6).own hOi (by simp [Value.ownBlock]; omega) (by simp [Classical.em])
      refine bodyPost_ret (results_work rfl _ rfl hW6 rfl) rfl ⟨g, ?_, ?_, Below.grown hEr hG6 hEr.le (fun k hk => by cases hk; omega)⟩
      · unfold ownV matV
        rw [H2n.out, HN.out]
      · have hM6 : OwnM w6 w.heap.size g i (2 * i) (i * (2 * i)) _ := ⟨by rw [HN.out] at hO6; exact hO6, by omega, by have := (hO6.lt g rfl).2; exact this, Nat.le_refl _⟩
        refine hM6.congr fun a b ha _ => ?_
        unfold pickTo
        rw [if_pos ha]
end Go.Proofs.Ytbfkknoeaekajaa

namespace Go.Proofs.Ytbfkknoeaekajaa
open Go.RowKit

set_option maxHeartbeats 4000000 in
set_option maxRecDepth 100000 in
theorem from_any {base g r c k col d : Nat} {F : Mat.M} {w : World} (hr : r ≤ 255) (hc : c ≤ 510) (hd : c = col + d) (hd0 : 0 < d ∨ r = 0) (hM : OwnM w base g r c k F) :
    Calls Try.prog 68 #[ownV g r c k, .int .i64 (col : Int)] w fun e w' => ∃ g2, e = .returned (ownV g2 r d (r * d)) ∧ OwnM w' w.heap.size g2 r d (r * d) (fun a b => F a (col + b)) ∧ Ext w w' := by
  have hE1 := extNew w (.cells #[.int .i64 r, .int .i64 c, .slice (some ⟨g, 0, none⟩) (r * c) k] 73)
  have hE2 := extNew (w.alloc (.cells #[.int .i64 r, .int .i64 c, .slice (some ⟨g, 0, none⟩) (r * c) k] 73)) (.cells #[.int .i64 0, .int .i64 0, .slice none 0 0] 42)
  have hWa := (Whole.new w 73 #[.int .i64 r, .int .i64 c, .slice (some ⟨g, 0, none⟩) (r * c) k]).ext hE2
  have hWr := Whole.new (w.alloc (.cells #[.int .i64 r, .int .i64 c, .slice (some ⟨g, 0, none⟩) (r * c) k] 73)) 42 #[.int .i64 0, .int .i64 0, .slice none 0 0]
  have hE := hE1.trans hE2
  rw [World.size_alloc] at hWr
  clear hE1 hE2
  have CB := fun W => blank_any r d hr (by omega) W
  have hsub : (c : Int) - (col : Int) = (d : Int) := by omega
  have HD := hide hd
  have HD0 := hide hd0
  have hdc : d ≤ c := by omega
  have HM := hide hM
  have hg0 := hM.2.2.1
  have hkk := hM.2.2.2
  clear hM hd hd0
  unfold ownV matV
  go_enter Try.func68, Try.ntmps68
  go_wp2_with fail
  refine (CB _).mono ?_
  rintro e w4 ⟨g2, rfl, hg, hO, hE4⟩
  have hE04 := hE.trans hE4
  have hgw : w.heap.size + 1 < g2 := by have := hWr.lt; omega
  have hg2 := (hO.lt g2 rfl).2
  have hW2 := Whole.new w4 42 #[.int .i64 0, .int .i64 0, .slice none 0 0]
  have hE5 := extNew w4 (.cells #[.int .i64 0, .int .i64 0, .slice none 0 0] 42)
  have hWa4 := hWa.ext hE4
  have hWr4 := hWr.ext hE4
  unfold matV
  go_wp2_with (refine wpList_storeW rfl 42 (.tmp 5) (.tmp 15) rfl rfl rfl hW2 rfl mat_info (mat_one rfl) ?_; intro w5 hW5 hG5 _; have hWa5 := (hWa4.ext hE5).grown hG5 (by have := hWa4.lt; omega); have d0 := hWa5.at 0 (u := .int .i64 (r : Int)) rfl)
  have hO5 := (Mod.ofRow (ob := none) hG5).own (hO.ext hE5) (by simp [Value.ownBlock]; omega) (by simp [Classical.em])
  have hWr5 := (hWr4.ext hE5).grown hG5 (by have := hWr4.lt; omega)
  have hF5 : Ext w w5 := Below.grown (hE04.trans hE5) hG5 (hE04.trans hE5).le (fun k hk => by cases hk; exact hE04.le)
  rw [cells_zero d, ← pickTo_none (fun a b => F a (col + b))] at hO5
  have hO5' := hO5.mono (base' := w.heap.size) (by simp; omega)
  obtain ⟨gb, hgb⟩ : ∃ gb, gb = w4.heap.size := ⟨_, rfl⟩
  rw [← hgb] at hW5 ⊢
  have hgg : g2 < gb := by omega
  clear hO hW2 hE5 hG5 hg2 hgb CB hE4 hO5 hWa hWr hWa4 hWr4 hE hE04 hg
  go_loopw [19] (fun i wr => ∃ j : Nat, j ≤ r ∧ i = .int .i64 (j : Int) ∧ OwnB wr w.heap.size (.slice (some ⟨g2, 0, none⟩) (r * d) (r * d)) (cellsOf d (pickTo (fun a b => F a (col + b)) j) (r * d)) ∧ Whole wr gb 42 #[.int .i64 (r : Int), .int .i64 (d : Int), .slice (some ⟨g2, 0, none⟩) (r * d) (r * d)] ∧ Whole wr w.heap.size 73 #[.int .i64 r, .int .i64 c, .slice (some ⟨g, 0, none⟩) (r * c) k] ∧ Whole wr (w.heap.size + 1) 42 #[.int .i64 0, .int .i64 0, .slice none 0 0] ∧ Ext w wr) (fun i _ => r - (intOf i).toNat)
  case atStart => exact ⟨0, by omega, rfl, hO5', hW5, hWa5, hWr5, hF5⟩
  case round =>
    obtain ⟨i, hi, rfl, hOi, hWm, hWa, hWr, hEr⟩ := hrel
    by_cases hlt : i < r
    · have hdp : 0 < d := by have := HD0.out; omega
      have hpc := row_place (c := c) hlt (by omega)
      have CRa := fun W => row_any' r i d (r * d) (r * d) (some ⟨g2, 0, none⟩) (by omega) (by omega) (Nat.mul_le_mul_right _ hlt) W
      have CRb := fun W => row_any' r i c k (r * c) (some ⟨g, 0, none⟩) (by omega) hc (Nat.le_trans (Nat.mul_le_mul_right _ hlt) hkk) W
      rw [cutAt_zero (show k ≠ i * c by omega)] at CRb
      unfold matV at CRa CRb
      have HPs := hide (pickTo_step (fun a b => F a (col + b)) d i (r * d) (fun h => by omega))
      have HBy := hide (show ∀ W, Ext w W → Bytes W W.heap.size (some ⟨g, i * c + col, none⟩) d (rowB d (fun b => F i (col + b))) from fun W hX => by
        have h1 := ownRow (HM.out.ext hX).1 rfl hkk hlt
        rw [cutAt_zero (show k ≠ i * c by omega)] at h1
        have h2 := h1.drop (k := col) (c := k - i * c) (by have := HD.out; omega) (by omega)
        rw [rowB_drop', show cutAt (some ⟨g, i * c, none⟩) (k - i * c) col = some ⟨g, i * c + col, none⟩ by unfold cutAt; rw [if_neg (by have := HD.out; omega)]; simp [Addr.add], show c - col = d by have := HD.out; omega] at h2
        exact h2)
      have hk1 : i * c + c ≤ k := by omega
      generalize i * c = io at *
      obtain ⟨kd, hkd⟩ : ∃ kd, kd = k - io := ⟨_, rfl⟩
      rw [← hkd] at CRb
      have HKD := hide hkd
      have hkd1 : c ≤ kd := by omega
      have hkd2 : ¬ kd = col := by have := HD.out; omega
      clear hkd hpc
      go_wp2_with fail
      have hcc : (col : Int) ≤ (c : Int) := by have := HD.out; omega
      refine wp_region_T (fun W => Ext wr W) 9 10 #[false, false, false, false, false, false, false, false, false, false] (by kernel_rfl) rfl rfl (Ext.refl wr).drew ?_
      intro hS0
      refine wpAnyT_take 0 (some 22) (.agg #[.int .i64 (r : Int), .int .i64 (d : Int), .slice (some ⟨g2, 0, none⟩) (r * d) (r * d)]) #[true, false, false, false, false, false, false, false, false, false] rfl rfl rfl (by kernel_rfl) (fun _ _ _ h => h) hS0 (by rfl) (fun W hX => by have s0 := (hWm.ext hX).at 0 (u := .int .i64 (r : Int)) rfl; have s1 := (hWm.ext hX).at 1 (u := .int .i64 (d : Int)) rfl; have s2 := (hWm.ext hX).at 2 (u := .slice (some ⟨g2, 0, none⟩) (r * d) (r * d)) rfl; go_simp) ?_
      simp only [Act.put, List.setIfInBounds_toArray, List.set_cons_zero, List.set_cons_succ]
      refine wpAnyT_take 1 (some 23) (.int .i64 (i : Int)) #[true, true, false, false, false, false, false, false, false, false] rfl rfl rfl (by kernel_rfl) (fun _ _ _ h => h) hS0 (by rfl) (fun W hX => by go_simp) ?_
      simp only [Act.put, List.setIfInBounds_toArray, List.set_cons_zero, List.set_cons_succ]
      refine wpAnyT_take 3 (some 25) (.pointer (some ⟨w.heap.size, 0, none⟩)) #[true, true, false, true, false, false, false, false, false, false] rfl rfl rfl (by kernel_rfl) (fun _ _ _ h => h) hS0 (by rfl) (fun W hX => by go_simp) ?_
      simp only [Act.put, List.setIfInBounds_toArray, List.set_cons_zero, List.set_cons_succ]
      refine wpAnyT_take 4 (some 26) (.agg #[.int .i64 (r : Int), .int .i64 (c : Int), .slice (some ⟨g, 0, none⟩) (r * c) k]) #[true, true, false, true, true, false, false, false, false, false] rfl rfl rfl (by kernel_rfl) (fun _ _ _ h => h) hS0 (by rfl) (fun W hX => by have s0 := (hWa.ext hX).at 0 (u := .int .i64 (r : Int)) rfl; have s1 := (hWa.ext hX).at 1 (u := .int .i64 (c : Int)) rfl; have s2 := (hWa.ext hX).at 2 (u := .slice (some ⟨g, 0, none⟩) (r * c) k) rfl; go_simp) ?_
      simp only [Act.put, List.setIfInBounds_toArray, List.set_cons_zero, List.set_cons_succ]
      refine wpAnyT_take 5 (some 27) (.int .i64 (i : Int)) #[true, true, false, true, true, true, false, false, false, false] rfl rfl rfl (by kernel_rfl) (fun _ _ _ h => h) hS0 (by rfl) (fun W hX => by go_simp) ?_
      simp only [Act.put, List.setIfInBounds_toArray, List.set_cons_zero, List.set_cons_succ]
      refine wpAnyT_take 7 (some 29) (.int .i64 (col : Int)) #[true, true, false, true, true, true, false, true, false, false] rfl rfl rfl (by kernel_rfl) (fun _ _ _ h => h) hS0 (by rfl) (fun W hX => by go_simp) ?_
      simp only [Act.put, List.setIfInBounds_toArray, List.set_cons_zero, List.set_cons_succ]
      refine wpAnyT_only 2 #[true, true, true, true, true, true, false, true, false, false] (by kernel_rfl) rfl rfl (by rfl) (fun K0 hK0 => ?_)
      go_simp
      go_at_call 53
      refine (CRa _).mono ?_
      rintro e wc0 ⟨rfl, hC0⟩
      have hX0 := hS0.trans hC0
      refine hK0 _ _ (fun _ => hX0) ?_
      clear hK0 K0
      refine wpAnyT_only 6 #[true, true, true, true, true, true, true, true, false, false] (by kernel_rfl) rfl rfl (by rfl) (fun K1 hK1 => ?_)
      go_simp
      go_at_call 53
      refine (CRb _).mono ?_
      rintro e wc1 ⟨rfl, hC1⟩
      have hX1 := hX0.trans hC1
      refine hK1 _ _ (fun _ => hX1) ?_
      clear hK1 K1
      refine wpAnyT_take 8 (some 30) (.slice (some ⟨g, io + col, none⟩) (c - col) (kd - col)) #[true, true, true, true, true, true, true, true, true, false] rfl rfl rfl (by kernel_rfl) (fun _ _ _ h => h) hX1 (by rfl) (fun W hX => by go_simp) ?_
      simp only [Act.put, List.setIfInBounds_toArray, List.set_cons_zero, List.set_cons_succ]
      rw [show c - col = d by have := HD.out; omega]
      refine wpAnyT_only 9 #[true, true, true, true, true, true, true, true, true, true] (by kernel_rfl) rfl rfl (by rfl) (fun K2 hK2 => ?_)
      refine wp_copyM (.tmp 24) (.tmp 30) rfl rfl rfl (hOi.ext hX1) (HBy.out _ (hEr.trans hX1)) rfl (Nat.le_refl _) hlt (Nat.le_refl _) rfl ?_
      intro w8 hO8 hG8 hS8
      refine hK2 _ _ (fun h => absurd h (by decide)) (wpAnyT_done (by kernel_rfl) ?_ _)
      clear hK2 K2
      rw [HPs.out] at hO8
      have hX := hEr.trans hX1
      have hE8 : Ext w w8 := Below.grown hX hG8 hX.le (fun k hk => by cases hk; omega)
      have hWm8 := (hWm.ext hX1).grown hG8 (by omega)
      have hWa8 := (hWa.ext hX1).grown hG8 (by omega)
      have hWr8 := (hWr.ext hX1).grown hG8 (by omega)
      go_wp2
      go_roundw
      case rel => exact ⟨i + 1, by omega, by go_num, hO8, hWm8, hWa8, hWr8, hE8⟩
      case measure => simp [intOf]; omega
    · obtain rfl : i = r := by omega
      go_wp2_with (first
        | (refine wpList_load_row rfl 42 (.tmp 5) rfl _ rfl _ _ _ _ hWm Try.underlying42 rfl mat_info ?_)
        | (refine wpList_storeW rfl 42 (.tmp 4) (.tmp 33) rfl rfl rfl hWr rfl mat_info (mat_one rfl) ?_; intro w6 hW6 hG6 _))
      have hO6 := (Mod.ofRow (ob := none) hG6).own hOi (by simp [Value.ownBlock]; omega) (by simp [Classical.em])
      refine bodyPost_ret (results_mat1 rfl _ rfl hW6 rfl) rfl ⟨g2, rfl, ?_, Below.grown hEr hG6 hEr.le (fun k hk => by cases hk; omega)⟩
      have hM6 : OwnM w6 w.heap.size g2 i d (i * d) _ := ⟨hO6, by omega, (hO6.lt g2 rfl).2, Nat.le_refl _⟩
      refine hM6.congr fun a b ha _ => ?_
      unfold pickTo
      rw [if_pos ha]
end Go.Proofs.Ytbfkknoeaekajaa
