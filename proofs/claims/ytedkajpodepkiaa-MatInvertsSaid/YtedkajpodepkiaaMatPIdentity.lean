/- Contract of the program's Identity. -/
import Derived.Test.YtedkajpodepkiaaMatPBase
import Derived.Test.YtedkajpodepkiaaMatIdE
namespace Go.Proofs.Ytedkajpodepkiaa
open Go.RowKit

/-- The rows above j are the identity's. -/
def oneTo (j : Nat) : Mat.M := fun a b => if a < j ∧ a = b then 1 else 0
theorem oneTo_none : oneTo 0 = fun _ _ => 0 := by
  funext a b
  simp [oneTo]
theorem oneTo_step (j : Nat) : (fun a b => if a = j ∧ b = j then 1 else oneTo j a b) = oneTo (j + 1) := by
  funext a b
  unfold oneTo
  by_cases h : a = j ∧ b = j
  · rw [if_pos h, if_pos ⟨by omega, by omega⟩]
  · rw [if_neg h]
    by_cases h2 : a < j ∧ a = b
    · rw [if_pos h2, if_pos ⟨by omega, h2.2⟩]
    · rw [if_neg h2, if_neg (by omega)]
theorem oneTo_all (n : Nat) : cellsOf n (oneTo n) (n * n) = cellsOf n Mat.one (n * n) := by
  refine cells_congr fun i hi => ?_
  have : i / n < n := Nat.div_lt_of_lt_mul hi
  unfold oneTo Mat.one
  by_cases h : i / n = i % n
  · rw [if_pos ⟨this, h⟩, if_pos h]
  · rw [if_neg (fun e => h e.2), if_neg h]

set_option maxHeartbeats 2000000 in
set_option maxRecDepth 100000 in
theorem matIdentity_any (n : Int) (w : World) : Calls Try.prog 17 #[.int .i64 n] w (MadeM w (identityE n).1 (identityE n).2) := by
  have hE1 := extNew w (.cells #[.int .i64 0, .int .i64 0, .slice none 0 0] 24)
  have hW1 := Whole.new w 24 #[.int .i64 0, .int .i64 0, .slice none 0 0]
  have C1 := counts_any n
  have HI := hide (show identityE n = if 0 ≤ n ∧ n ≤ 255 then (⟨n, n, cellsOf n.toNat Mat.one (n.toNat * n.toNat)⟩, 0) else (MV.zero, 13) from rfl)
  by_cases hr : 0 ≤ n ∧ n ≤ 255
  · rw [decide_eq_true hr] at C1
    rw [HI.out, if_pos hr]
    obtain ⟨n, rfl⟩ := Int.eq_ofNat_of_zero_le hr.1
    have hn : n ≤ 255 := by omega
    rw [Int.toNat_natCast]
    have C2 := fun W => blank_any n n hn (by omega) W
    have HA := hide (oneTo_all n)
    clear hr HI
    go_enter Try.func17, Try.ntmps17
    go_wp2_with fail
    refine (C1 _).mono ?_
    rintro e w1 ⟨rfl, rfl⟩
    go_wp2_with fail
    refine (C2 _).mono ?_
    rintro e w2 ⟨g, rfl, hg, hO, hE2⟩
    rw [World.size_alloc] at hg hO
    have hg2 := (hO.lt g rfl).2
    have hW2 := Whole.new w2 24 #[.int .i64 0, .int .i64 0, .slice none 0 0]
    have hWr2 := hW1.ext hE2
    have hE3 := extNew w2 (.cells #[.int .i64 0, .int .i64 0, .slice none 0 0] 24)
    unfold matV
    go_wp2_with (refine wpList_storeW rfl 24 (.tmp 4) (.tmp 12) rfl rfl rfl hW2 rfl mat_info (mat_one rfl) ?_; intro w3 hW3 hG3 _)
    have hO3 := (Mod.ofRow (ob := none) hG3).own (hO.ext hE3) (by simp [Value.ownBlock]; omega) (by simp [Classical.em])
    have hWr3 := (hWr2.ext hE3).grown hG3 (by have := hWr2.lt; omega)
    have hF3 : Ext w w3 := Below.grown ((hE1.trans hE2).trans hE3) hG3 ((hE1.trans hE2).trans hE3).le (fun k hk => by cases hk; exact (hE1.trans hE2).le)
    rw [cells_zero n] at hO3
    obtain ⟨gb, hgb⟩ : ∃ gb, gb = w2.heap.size := ⟨_, rfl⟩
    rw [← hgb] at hW3 ⊢
    have hb : w.heap.size < gb := by have := (hE1.trans hE2).le; have := hE2.le; rw [World.size_alloc] at this; omega
    have hgg : g < gb := by omega
    clear hO hE2 hW2 hWr2 hE3 hG3 hg2 hgb C1 C2 hW1 hE1
    go_loopw [14] (fun i wr => ∃ j : Nat, j ≤ n ∧ i = .int .i64 (j : Int) ∧ OwnB wr (w.heap.size + 1) (.slice (some ⟨g, 0, none⟩) (n * n) (n * n)) (cellsOf n (oneTo j) (n * n)) ∧ Whole wr gb 24 #[.int .i64 n, .int .i64 n, .slice (some ⟨g, 0, none⟩) (n * n) (n * n)] ∧ Whole wr w.heap.size 24 #[.int .i64 0, .int .i64 0, .slice none 0 0] ∧ Ext w wr) (fun i _ => n - (intOf i).toNat)
    case atStart => exact ⟨0, by omega, rfl, by rw [oneTo_none]; exact hO3, hW3, hWr3, hF3⟩
    case round =>
      obtain ⟨j, hj, rfl, hOj, hWm, hWr, hE⟩ := hrel
      by_cases hlt : j < n
      · have CR := fun W => row_any' n j n (n * n) (n * n) (some ⟨g, 0, none⟩) (by omega) (by omega) (Nat.mul_le_mul_right _ hlt) W
        obtain ⟨p1, p2⟩ := row_place hlt (by omega : 0 < n)
        rw [cutAt_zero p2] at CR
        have HS := hide (cells_set n (n * n) (oneTo j) hlt (1 : UInt8) (i := j))
        have hlen := cellsOf_len n (oneTo j) (n * n)
        unfold matV at CR
        go_wp2_with (refine wpList_load_row rfl 24 (.tmp 4) rfl _ rfl _ _ _ _ hWm Try.underlying24 rfl mat_info ?_)
        refine (CR _).mono ?_
        rintro e w4 ⟨rfl, hE4⟩
        obtain ⟨hc5, hf5⟩ := (hOj.ext hE4).cell (i := j * n + j) (by omega)
        have hO5 := (hOj.ext hE4).set (j * n + j) 1
        have hE6 := (hE.trans hE4).setCell (g := g) (i := j * n + j) (by omega) (.int .u8 1)
        have hWm5 := (hWm.ext hE4).far (b := g) (by omega) (j * n + j) (.int .u8 1)
        have hWr5 := (hWr.ext hE4).far (b := g) (by omega) (j * n + j) (.int .u8 1)
        rw [HS.out, oneTo_step] at hO5
        go_wp2
        go_roundw
        case rel => exact ⟨j + 1, by omega, by go_num, hO5, hWm5, hWr5, hE6⟩
        case measure => simp [intOf]; omega
      · obtain rfl : j = n := by omega
        rw [HA.out] at hOj
        go_wp2_with (first
          | (refine wpList_load_row rfl 24 (.tmp 4) rfl _ rfl _ _ _ _ hWm Try.underlying24 rfl mat_info ?_)
          | (refine wpList_storeW rfl 24 (.tmp 2) (.tmp 23) rfl rfl rfl hWr rfl mat_info (mat_one rfl) ?_; intro w5 hW5 hG5 _))
        refine bodyPost_ret (results_mat rfl _ rfl rfl hW5 rfl) rfl ?_
        exact made_end hE hG5 hOj (by omega)
  · rw [decide_eq_false hr] at C1
    rw [HI.out, if_neg hr]
    clear hr
    go_enter Try.func17, Try.ntmps17
    go_wp2_with fail
    refine (C1 _).mono ?_
    rintro e w1 ⟨rfl, rfl⟩
    go_wp2_with (refine wpList_storeW rfl 24 (.tmp 2) (.tmp 9) rfl rfl rfl hW1 rfl mat_info (mat_one rfl) ?_; intro w5 hW5 hG5 _)
    refine bodyPost_ret (results_mat rfl _ rfl rfl hW5 rfl) rfl ?_
    exact MadeM.zero 13 (Below.grown hE1 hG5 hE1.le (fun k hk => by cases hk; exact Nat.le_refl _))
end Go.Proofs.Ytedkajpodepkiaa
