/- Contracts of the shifter of eight shifts, and of twice as many. -/
import Derived.Test.YtcoegdkkogoaiaaDoorCrcJoin
namespace Go.Proofs.YtcoegdkkogoaiaaDoor
open Go.RowKit

/-- The first k of a row are laid; the others are 0. -/
def Crc.part (n k : Nat) : Array Value := ((List.range 32).map fun i => if i < k then Value.int .u32 ((Crc.run n (2 ^ i) : Nat) : Int) else .int .u32 0).toArray
theorem Crc.part_zero (n : Nat) : Crc.part n 0 = #[.int .u32 0, .int .u32 0, .int .u32 0, .int .u32 0, .int .u32 0, .int .u32 0, .int .u32 0, .int .u32 0, .int .u32 0, .int .u32 0, .int .u32 0, .int .u32 0, .int .u32 0, .int .u32 0, .int .u32 0, .int .u32 0,
    .int .u32 0, .int .u32 0, .int .u32 0, .int .u32 0, .int .u32 0, .int .u32 0, .int .u32 0, .int .u32 0, .int .u32 0, .int .u32 0, .int .u32 0, .int .u32 0, .int .u32 0, .int .u32 0, .int .u32 0, .int .u32 0] := rfl
theorem Crc.part_all (n : Nat) : Crc.part n 32 = Crc.row n := by
  unfold Crc.part Crc.row
  congr 1
theorem Crc.part_succ (n k : Nat) (h : k < 32) : (Crc.part n k).setIfInBounds k (.int .u32 ((Crc.run n (2 ^ k) : Nat) : Int)) = Crc.part n (k + 1) := by
  apply Array.ext_getElem?
  intro i
  have hs : ∀ k, (Crc.part n k).size = 32 := fun k => by simp [Crc.part]
  by_cases hi : i < 32
  · rcases Nat.lt_trichotomy i k with h1 | h1 | h1
    · rw [Array.getElem?_setIfInBounds_ne (by omega)]
      simp [Crc.part, hi, h1, show i < k + 1 by omega]
    · subst h1
      rw [Array.getElem?_setIfInBounds_self_of_lt (by rw [hs]; omega)]
      simp [Crc.part, hi]
    · rw [Array.getElem?_setIfInBounds_ne (by omega)]
      simp [Crc.part, hi, show ¬ i < k by omega, show ¬ i < k + 1 by omega]
  · rw [Array.getElem?_eq_none (by simp [hs]; omega), Array.getElem?_eq_none (by rw [hs]; omega)]
theorem Crc.part_size (n k : Nat) : (Crc.part n k).size = 32 := by unfold Crc.part; rw [List.size_toArray, List.length_map, List.length_range]
theorem Crc.part_at (n k i : Nat) (h : i < 32) : ∃ v, (Crc.part n k)[i]? = some v := ⟨_, Array.getElem?_eq_getElem (by rw [Crc.part_size]; exact h)⟩
theorem Crc.row_one (n : Nat) : (Crc.row n).all (·.oneCell') = true := all_oneCell_toArray (by
  intro v hv
  obtain ⟨i, _, rfl⟩ := List.mem_map.1 hv
  rfl)
theorem shifter_info : (Tryd.prog.info? 45).map (·.size) = some 32 := by kernel_rfl
theorem Crc.shl (k : Nat) (h : k < 32) : (2 : Int) ^ k % 4294967296 = ((2 ^ k : Nat) : Int) := by
  have h1 : 2 ^ k < 4294967296 := Nat.pow_lt_pow_right (by omega) h
  have h2 : (2 : Int) ^ k = ((2 ^ k : Nat) : Int) := by rw [Int.natCast_pow]; rfl
  rw [h2]
  exact Int.emod_eq_of_lt (Int.natCast_nonneg _) (Int.ofNat_lt.2 h1)

set_option maxHeartbeats 1000000 in
theorem byteShifter_any (w : World) (ht : Tab w) (h0 : 0 < w.heap.size) :
    Calls Tryd.prog 27 #[] w fun e w' => e = .returned (.agg (Crc.row 8)) ∧ Ext w w' := by
  have HW := hide ((Whole.new w 45 (Crc.part 8 0)).alloc (.cells (Crc.part 8 0) 45))
  have HV := hide (Whole.new (w.alloc (.cells (Crc.part 8 0) 45)) 45 (Crc.part 8 0))
  have HE := hide (((Ext.refl w).alloc (.cells (Crc.part 8 0) 45)).alloc (.cells (Crc.part 8 0) 45))
  have HP := hide (Crc.part_zero 8)
  go_enter Tryd.func27, Tryd.ntmps27
  go_wp2
  rw [← HP.out]
  have hV : Whole ((w.alloc (.cells (Crc.part 8 0) 45)).alloc (.cells (Crc.part 8 0) 45)) (w.heap.size + 1) 45 (Crc.part 8 0) := by simpa using HV.out
  go_loopw [2, 3] (fun _ i wr => ∃ k : Nat, k ≤ 32 ∧ i = .int .i64 k ∧ Whole wr w.heap.size 45 (Crc.part 8 0) ∧ Whole wr (w.heap.size + 1) 45 (Crc.part 8 k) ∧ Ext w wr) (fun _ i _ => 32 - (intOf i).toNat)
  case atStart => exact ⟨0, by omega, rfl, HW.out, hV, HE.out⟩
  case round =>
    obtain ⟨k, hk, rfl, hA, hB, hE⟩ := hrel
    by_cases hlt : k < 32
    · obtain ⟨v, hv⟩ := Crc.part_at 8 k k hlt
      have hcell := hB.cell k
      rw [hv] at hcell
      have hfro := hB.frozen k
      have hA2 := hide (hA.far (b := w.heap.size + 1) (by omega) k (.int .u32 ((Crc.run 8 (2 ^ k) : Nat) : Int)))
      have hB2 := hB.set k (.int .u32 ((Crc.run 8 (2 ^ k) : Nat) : Int))
      rw [Crc.part_succ 8 k hlt] at hB2
      have hB3 := hide hB2
      have hE2 := hide (hE.setCell (g := w.heap.size + 1) (i := k) (by omega) (.int .u32 ((Crc.run 8 (2 ^ k) : Nat) : Int)))
      have hs := Crc.shl k hlt
      have hp : 2 ^ k < 4294967296 := Nat.pow_lt_pow_right (by omega) hlt
      have htr := ht.below hE h0
      clear hv hB2 hA hB hE
      generalize 2 ^ k = p at *
      have HC := hide (shiftByte_any p wr hp htr)
      generalize Crc.run 8 p = q at *
      clear htr hp
      go_wp2_with (go_at_call 30; refine HC.out.mono ?_; rintro e w4 ⟨rfl, rfl⟩)
      go_roundw
      case rel => exact ⟨k + 1, by omega, by go_num, hA2.out, hB3.out, hE2.out⟩
      case measure => simp [intOf]; omega
    · obtain rfl : k = 32 := by omega
      rw [Crc.part_all] at hB
      have hsz : (Crc.row 8).size = (Crc.part 8 0).size := by rw [Crc.row_size, Crc.part_size]
      have hi1 : (Tryd.prog.info? 45).map (·.size) = some (Crc.row 8).size := by rw [Crc.row_size]; exact shifter_info
      have ho1 := Crc.row_one 8
      generalize hR : Crc.row 8 = R at *
      have HR := hide hR
      generalize Crc.part 8 0 = Z at *
      clear hR HW HV HP hV HE
      go_wp2_with (first
        | (refine wpList_load_row rfl 45 (.tmp 1) rfl _ rfl _ _ _ _ hB Tryd.underlying45 rfl hi1 ?_)
        | (refine wpList_storeW rfl 45 (.tmp 0) (.tmp 12) rfl rfl rfl hA hsz hi1 ho1 ?_; intro w5 hW5 hG5 _))
      refine bodyPost_ret (results_cell_row rfl _ _ _ _ _ _ _ rfl hW5 Tryd.underlying45 rfl hi1) rfl ⟨by rw [HR.out], ?_⟩
      exact Below.grown hE hG5 hE.le (fun k hk => by cases hk; exact Nat.le_refl _)

theorem Crc.row_double (n i : Nat) : Crc.run n (Crc.run n (2 ^ i)) = Crc.run (n + n) (2 ^ i) := (Crc.run_add n n (2 ^ i)).symm

set_option maxHeartbeats 1000000 in
theorem doubled_any (n : Nat) (w : World) :
    Calls Tryd.prog 29 #[.agg (Crc.row n)] w fun e w' => e = .returned (.agg (Crc.row (n + n))) ∧ Ext w w' := by
  have HP := hide (Crc.part_zero (n + n))
  have hi1 : (Tryd.prog.info? 45).map (·.size) = some (Crc.row n).size := by rw [Crc.row_size]; exact shifter_info
  have ho1 := Crc.row_one n
  have HG := hide (fun k (hk : k < 32) => Crc.row_get n k hk)
  have HW0 := Whole.new w 45 (Crc.row n)
  have HS := hide (fun X (hX : X < 4294967296) W => shiftBy_any n X W hX)
  have HD := hide (fun k => Crc.row_double n k)
  have HIX := hide (fun (k : Nat) (v : Value) (hk : k < 32) (hv : (Crc.row n)[k]? = some v) W => run_indexArr (P := Tryd.prog) 45 25 32 (Crc.row n) .i64 k v W Tryd.underlying45 hk (fun _ => by kernel_rfl) (fun _ => by kernel_rfl) hv)
  generalize Crc.row n = R at *
  have HW1 := (HW0.alloc (.cells (Crc.part (n + n) 0) 45)).alloc (.cells (Crc.part (n + n) 0) 45)
  have HV1 := (Whole.new (w.alloc (.cells R 45)) 45 (Crc.part (n + n) 0)).alloc (.cells (Crc.part (n + n) 0) 45)
  have HV2 := Whole.new ((w.alloc (.cells R 45)).alloc (.cells (Crc.part (n + n) 0) 45)) 45 (Crc.part (n + n) 0)
  have hE := (((Ext.refl w).alloc (.cells R 45)).alloc (.cells (Crc.part (n + n) 0) 45)).alloc (.cells (Crc.part (n + n) 0) 45)
  have hz1 : (w.alloc (.cells R 45)).heap.size = w.heap.size + 1 := by simp
  have hz2 : ((w.alloc (.cells R 45)).alloc (.cells (Crc.part (n + n) 0) 45)).heap.size = w.heap.size + 1 + 1 := by simp
  rw [hz1] at HV1
  rw [hz2] at HV2
  clear hz1 hz2 HW0
  have K1 := hide HV1
  have K2 := hide HV2
  have KE := hide hE
  have HW2 := HW1
  rw [HP.out] at HW2
  clear HV1 HV2 hE
  go_enter Tryd.func29, Tryd.ntmps29
  go_wp2_with (refine wpList_load_row rfl 45 (.tmp 1) rfl _ rfl _ _ _ _ HW2 Tryd.underlying45 rfl hi1 ?_)
  rw [← HP.out]
  clear HW2
  go_loopw [4, 5, 7] (fun _ _ i wr => ∃ k : Nat, k ≤ 32 ∧ i = .int .i64 k ∧ Whole wr w.heap.size 45 R ∧ Whole wr (w.heap.size + 1) 45 (Crc.part (n + n) 0) ∧ Whole wr (w.heap.size + 1 + 1) 45 (Crc.part (n + n) k) ∧ Ext w wr) (fun _ _ i _ => 32 - (intOf i).toNat)
  case atStart => exact ⟨0, by omega, rfl, HW1, K1.out, K2.out, KE.out⟩
  case round =>
    obtain ⟨k, hk, rfl, hA, hB, hC, hE⟩ := hrel
    by_cases hlt : k < 32
    · have hv := HG.out k hlt
      have hIX := HIX.out k _ hlt hv wr
      have hrl : Crc.run n (2 ^ k) < 4294967296 := Crc.run_lt32 n (Nat.pow_lt_pow_right (by omega) hlt)
      have HDk := hide (HD.out k)
      generalize Crc.run n (2 ^ k) = x at *
      have HSx := hide (HS.out x hrl wr)
      obtain ⟨v', hv'⟩ := Crc.part_at (n + n) k k hlt
      have HV' := hide hv'
      clear hv hrl hv'
      go_wp2_with (first
        | (refine wpList_load_row rfl 45 (.tmp 1) rfl _ rfl _ _ _ _ hA Tryd.underlying45 rfl hi1 ?_)
        | (go_at_call 28; refine HSx.out.mono ?_; rintro e w4 ⟨rfl, hX4⟩; have hcell := (hC.ext hX4).cell k; rw [HV'.out] at hcell; have hfro := (hC.ext hX4).frozen k))
      have hC5 := (hC.ext hX4).set k (.int .u32 ((Crc.run n x : Nat) : Int))
      rw [HDk.out, Crc.part_succ (n + n) k hlt, ← HDk.out] at hC5
      have hA5 := (hA.ext hX4).far (b := w.heap.size + 1 + 1) (by omega) k (.int .u32 ((Crc.run n x : Nat) : Int))
      have hB5 := (hB.ext hX4).far (b := w.heap.size + 1 + 1) (by omega) k (.int .u32 ((Crc.run n x : Nat) : Int))
      have hE5 := (hE.trans hX4).setCell (g := w.heap.size + 1 + 1) (i := k) (by omega) (.int .u32 ((Crc.run n x : Nat) : Int))
      go_roundw
      case rel => exact ⟨k + 1, by omega, by go_num, hA5, hB5, hC5, hE5⟩
      case measure => simp [intOf]; omega
    · obtain rfl : k = 32 := by omega
      rw [Crc.part_all] at hC
      have hsz : (Crc.row (n + n)).size = (Crc.part (n + n) 0).size := by rw [Crc.row_size, Crc.part_size]
      have hi2 : (Tryd.prog.info? 45).map (·.size) = some (Crc.row (n + n)).size := by rw [Crc.row_size]; exact shifter_info
      have ho2 := Crc.row_one (n + n)
      generalize hR2 : Crc.row (n + n) = R2 at *
      have HR2 := hide hR2
      generalize Crc.part (n + n) 0 = Z at *
      clear hR2 HP K1 K2 KE HW1 HD HG HS HIX
      go_wp2_with (first
        | (refine wpList_load_row rfl 45 (.tmp 3) rfl _ rfl _ _ _ _ hC Tryd.underlying45 rfl hi2 ?_)
        | (refine wpList_storeW rfl 45 (.tmp 2) (.tmp 17) rfl rfl rfl hB hsz hi2 ho2 ?_; intro w5 hW5 hG5 _))
      refine bodyPost_ret (results_cell_row rfl _ _ _ _ _ _ _ rfl hW5 Tryd.underlying45 rfl hi2) rfl ⟨by rw [HR2.out], ?_⟩
      exact Below.grown hE hG5 hE.le (fun k hk => by cases hk; omega)
end Go.Proofs.YtcoegdkkogoaiaaDoor
