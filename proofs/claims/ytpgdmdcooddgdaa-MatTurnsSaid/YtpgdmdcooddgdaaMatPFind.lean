/- Contract of the program's find: the first row that doesn't lead and has a cell in this column that isn't 0. -/
import Derived.Test.YtpgdmdcooddgdaaMatPAdd
namespace Go.Proofs.Ytpgdmdcooddgdaa
open Go.RowKit

theorem cells_at {c N i j : Nat} {F : Mat.M} (hj : j < c) (hN : i * c + j < N) : (cellsOf c F N).getD (i * c + j) 0 = F i j := by
  have hd : (i * c + j) / c = i := by rw [Nat.mul_comm, Nat.mul_add_div (by omega), Nat.div_eq_of_lt hj, Nat.add_zero]
  have hm : (i * c + j) % c = j := by rw [Nat.mul_comm, Nat.mul_add_mod, Nat.mod_eq_of_lt hj]
  simp [cellsOf, List.getD_eq_getElem?_getD, hN, hd, hm]
/-- Matrices that are being reduced: block gr holds the matrix of block g, and how many rows lead. -/
def Red (w : World) (gr g base r c k l : Nat) (F : Mat.M) : Prop := Whole w gr 59 #[.int .i64 (r : Int), .int .i64 (c : Int), .slice (some ⟨g, 0, none⟩) (r * c) k, .int .i64 (l : Int)] ∧ OwnM w base g r c k F ∧ base ≤ gr ∧ gr ≠ g
theorem Red.ext {w w' : World} {gr g base r c k l : Nat} {F : Mat.M} (h : Red w gr g base r c k l F) (hE : Ext w w') : Red w' gr g base r c k l F := ⟨h.1.ext hE, h.2.1.ext hE, h.2.2⟩

set_option maxHeartbeats 2000000 in
set_option maxRecDepth 100000 in
theorem rfind_any {gr g base r c k l col : Nat} {F : Mat.M} {w : World} (hr : r ≤ 255) (hc : c ≤ 510) (hcol : col < c) (hl : l ≤ r) (h : Red w gr g base r c k l F) :
    Calls Try.prog 48 #[.pointer (some ⟨gr, 0, none⟩), .int .i64 (col : Int)] w fun e w' => ∃ p : Nat, e = .returned (.int .i64 (p : Int)) ∧ l ≤ p ∧ p ≤ r ∧ (∀ q, l ≤ q → q < p → F q col = 0) ∧ (p < r → F p col ≠ 0) ∧ Ext w w' := by
  obtain ⟨hW, hM, hb⟩ := h
  have hkk := hM.2.2.2
  have c3 := hW.at 3 (u := .int .i64 (l : Int)) rfl
  go_enter Try.func48, Try.ntmps48
  go_wp2_with fail
  go_loopw [5] (fun x wr => ∃ j : Nat, l ≤ j ∧ j ≤ r ∧ x = .int .i64 (j : Int) ∧ (∀ q, l ≤ q → q < j → F q col = 0) ∧ Ext w wr) (fun x _ => r - (intOf x).toNat)
  case atStart => exact ⟨l, by omega, hl, rfl, fun q _ _ => by omega, Ext.refl w⟩
  case round =>
    obtain ⟨j, hlj, hjr, rfl, hz, hE⟩ := hrel
    have hW2 := hW.ext hE
    have d0 := hW2.at 0 (u := .int .i64 (r : Int)) rfl
    have d1 := hW2.at 1 (u := .int .i64 (c : Int)) rfl
    have d2 := hW2.at 2 (u := .slice (some ⟨g, 0, none⟩) (r * c) k) rfl
    have HZ := hide hz
    clear hz
    by_cases hlt : j < r
    · have CR := fun W => row_any' r j c k (r * c) (some ⟨g, 0, none⟩) (by omega) hc (Nat.le_trans (Nat.mul_le_mul_right _ hlt) hkk) W
      obtain ⟨p1, p2⟩ := row_place hlt (by omega : 0 < c)
      rw [cutAt_zero (by omega)] at CR
      unfold matV at CR
      go_wp2_with fail
      refine (CR _).mono ?_
      rintro e w2 ⟨rfl, hE2⟩
      have hE12 := hE.trans hE2
      have k1 := ((hM.ext hE12).1.cell (i := j * c + col) (by rw [cellsOf_len]; omega)).1
      rw [cells_at hcol (by omega)] at k1
      have HF := hide (show ∀ x, x = F j col → x = F j col from fun _ h => h)
      by_cases h0 : F j col = 0
      · have hx : (((F j col).toNat : Int) == 0) = true := by rw [h0]; rfl
        have HQ := hide h0
        clear h0 HF
        generalize (F j col).toNat = x at *
        go_wp2
        go_roundw
        case rel =>
          refine ⟨j + 1, by omega, by omega, by go_num, fun q h1 h2 => ?_, hE12⟩
          by_cases hq : q < j
          · exact HZ.out q h1 hq
          · obtain rfl : q = j := by omega
            exact HQ.out
        case measure => simp [intOf]; omega
      · have hx : (((F j col).toNat : Int) == 0) = false := by
          have : (F j col).toNat ≠ 0 := fun e => h0 (Mat.ext8 e)
          simp
          omega
        have HQ := hide h0
        clear h0 HF
        generalize (F j col).toNat = x at *
        go_wp2
        go_ret
        exact ⟨j, rfl, hlj, by omega, HZ.out, fun _ => HQ.out, hE12⟩
    · obtain rfl : j = r := by omega
      go_wp2
      go_ret
      exact ⟨j, rfl, hlj, by omega, HZ.out, fun h => absurd h (by omega), hE⟩
end Go.Proofs.Ytpgdmdcooddgdaa
