/- Contract of the program's Row. -/
import Derived.Test.YtbfkknoeaekajaaGfCalc
import Derived.Test.YtbfkknoeaekajaaGfAddDef
namespace Go.Proofs.Ytbfkknoeaekajaa
open Go.RowKit

/-- The first n products of c, then zeros. -/
def Gf.rowP (c n : Nat) : Array Value := ((List.range 256).map fun i => Value.int .u8 (((if i < n then Gf.mul c i else 0) : Nat) : Int)).toArray
theorem Gf.rowP_size (c n : Nat) : (Gf.rowP c n).size = 256 := by simp [Gf.rowP]
theorem Gf.rowP_at (c n : Nat) {i : Nat} (hi : i < 256) : (Gf.rowP c n)[i]? = some (.int .u8 (((if i < n then Gf.mul c i else 0) : Nat) : Int)) := by simp [Gf.rowP, hi]
theorem Gf.rowP_set (c n : Nat) (hn : n < 256) : (Gf.rowP c n).setIfInBounds n (.int .u8 ((Gf.mul c n : Nat) : Int)) = Gf.rowP c (n + 1) := by
  apply Array.ext_getElem?
  intro i
  rcases Nat.lt_or_ge i 256 with hi | hi
  · rw [Gf.rowP_at c (n + 1) hi]
    by_cases h : n = i
    · subst h
      rw [Array.getElem?_setIfInBounds_self_of_lt (by rw [Gf.rowP_size]; exact hn), if_pos (by omega)]
    · rw [Array.getElem?_setIfInBounds_ne h, Gf.rowP_at c n hi]
      by_cases h2 : i < n
      · rw [if_pos h2, if_pos (by omega)]
      · rw [if_neg h2, if_neg (by omega)]
  · rw [Array.getElem?_eq_none (by rw [Array.size_setIfInBounds, Gf.rowP_size]; exact hi), Array.getElem?_eq_none (by rw [Gf.rowP_size]; exact hi)]
theorem Gf.rowP_full (c : Nat) : Gf.rowP c 256 = Gf.rowV c := by
  apply Array.ext_getElem?
  intro i
  rcases Nat.lt_or_ge i 256 with hi | hi
  · rw [Gf.rowP_at c 256 hi, Gf.rowV_at c hi, if_pos hi]
  · rw [Array.getElem?_eq_none (by rw [Gf.rowP_size]; exact hi), Array.getElem?_eq_none (by rw [Gf.rowV_size]; exact hi)]
theorem row_zero' : ∃ Z : Array Value, Z.size = 256 ∧ (∀ W : World, (zeroValue 69).run Try.prog W = .ok (.agg Z) W) ∧ ∀ i, i < 256 → Z[i]? = some (.int .u8 0) := by
  refine ⟨Array.replicate 256 (.int .u8 0), by simp, fun W => ?_, fun i hi => by simp [hi]⟩
  have h : (Try.prog.info? 69).map (fun i => i.zero) = some (some (.agg (Array.replicate 256 (.int .u8 0)))) := by kernel_rfl
  obtain ⟨i, hi, hz⟩ := Option.map_eq_some_iff.1 h
  simp [zeroValue, typeInfo, hi, hz]
theorem row_start {c : Nat} (hc : c < 256) {Z : Array Value} (hs : Z.size = 256) (hz : ∀ i, i < 256 → Z[i]? = some (.int .u8 0)) : Z.setIfInBounds 1 (.int .u8 (c : Int)) = Gf.rowP c 2 := by
  apply Array.ext_getElem?
  intro i
  rcases Nat.lt_or_ge i 256 with hi | hi
  · rw [Gf.rowP_at c 2 hi]
    by_cases h : 1 = i
    · subst h
      rw [Array.getElem?_setIfInBounds_self_of_lt (by omega), if_pos (by omega), Gf.mul_one hc]
    · rw [Array.getElem?_setIfInBounds_ne h, hz i hi]
      by_cases h0 : i = 0
      · subst h0
        rw [if_pos (by omega), Gf.mul_zero]
        rfl
      · rw [if_neg (by omega)]
        rfl
  · rw [Array.getElem?_eq_none (by rw [Array.size_setIfInBounds, hs]; exact hi), Array.getElem?_eq_none (by rw [Gf.rowP_size]; exact hi)]
theorem rowP_one (c n : Nat) : (Gf.rowP c n).all (·.oneCell') = true := by
  simp [Gf.rowP]
  intros
  rfl
theorem two_all : ∀ k : Fin 128, Gf.mul k.val 2 = 2 * k.val := by decide +kernel
theorem row_even {c k : Nat} (hc : c < 256) (hk : k < 128) : Gf.mul (Gf.mul c k) 2 = Gf.mul c (2 * k) := by
  rw [Gf.mul_assoc hc (by omega) (by omega), two_all ⟨k, hk⟩]
theorem odd_all : ∀ k : Fin 128, (2 * k.val) ^^^ 1 = 2 * k.val + 1 := by decide +kernel
theorem row_odd {c k : Nat} (hc : c < 256) (hk : k < 128) : Gf.mul c (2 * k) ^^^ c = Gf.mul c (2 * k + 1) := by
  rw [← odd_all ⟨k, hk⟩, Gf.mul_xor, Gf.mul_one hc]

set_option maxHeartbeats 1000000 in
set_option maxRecDepth 100000 in
theorem row_any (c : Nat) (w : World) (hc : c < 256) : Calls Try.prog 65 #[.int .u8 c] w fun e w' => e = .returned (.agg (Gf.rowV c)) ∧ Ext w w' := by
  obtain ⟨Z, hZ, hzero, hz⟩ := row_zero'
  have HB := hide (row_start hc hZ hz)
  have HF := hide (Gf.rowP_full c)
  have HV1 := hide (Gf.rowV_one c)
  have HV := hide (Gf.rowV_size c)
  have hE0 : Ext w ((w.alloc (.cells Z 69)).alloc (.cells Z 69)) := (extNew w _).alloc _
  have hWr : Whole ((w.alloc (.cells Z 69)).alloc (.cells Z 69)) w.heap.size 69 Z := (Whole.new w _ _).alloc _
  have hWx : Whole ((w.alloc (.cells Z 69)).alloc (.cells Z 69)) (w.heap.size + 1) 69 Z := by
    have := Whole.new (w.alloc (.cells Z 69)) 69 Z
    simpa using this
  have hs : (Gf.rowP c 2).size = Z.size := by rw [Gf.rowP_size, hZ]
  have hinf : (Try.prog.info? 69).map (·.size) = some (Gf.rowP c 2).size := by rw [Gf.rowP_size]; exact row_info
  have hone := rowP_one c 2
  have HZ := hide hZ
  have hz2 : ¬ (Z.size < 2) := by omega
  have hHS := hide (show ((w.alloc (.cells Z 69)).alloc (.cells Z 69)).heap.size = w.heap.size + 2 by simp)
  clear hz hZ
  go_enter Try.func65, Try.ntmps65
  go_wp2_with (refine wpList_storeW rfl 69 (.tmp 3) (.tmp 6) rfl rfl (congrArg Value.agg HB.out) hWx hs hinf hone ?_; intro w1 hW1 hG1 _)
  have hE1 : Ext w w1 := Below.grown hE0 hG1 hE0.le (fun k hk => by cases hk; omega)
  have hWr1 := hWr.grown hG1 (by omega)
  clear hG1 hWr hWx hE0 hs hinf hone hzero hz2 HB
  go_loopw [4] (fun i W => ∃ k : Nat, 1 ≤ k ∧ k ≤ 128 ∧ i = .int .i64 ((2 * k : Nat) : Int) ∧ Whole W (w.heap.size + 1) 69 (Gf.rowP c (2 * k)) ∧ Whole W w.heap.size 69 Z ∧ Ext w W) (fun i _ => 256 - (intOf i).toNat)
  case atStart => exact ⟨1, by omega, by omega, rfl, hW1, hWr1, hE1⟩
  case round =>
    obtain ⟨k, hk1, hk, rfl, hW, hWz, hE⟩ := hrel
    by_cases hlt : k < 128
    · have hlt' : ((2 * k : Nat) : Int) < 256 := by omega
      have hq : ((2 * k : Nat) : Int).tdiv 2 = (k : Int) := by rw [Int.tdiv_eq_ediv_of_nonneg (by omega)]; omega
      have hck := Gf.mul_lt hc (show k < 256 by omega)
      have h2k := Gf.mul_lt hc (show 2 * k < 256 by omega)
      have C := fun W => doubled_any (Gf.mul c k) W hck
      rw [row_even hc hlt] at C
      have d0 := hW.at k (by rw [Gf.rowP_at c _ (show k < 256 by omega), if_pos (by omega)])
      have hxor := u8_xor_nat (Gf.mul c (2 * k)) c h2k hc
      rw [row_odd hc hlt] at hxor
      have S1 := hide (Gf.rowP_set c (2 * k) (by omega))
      have S2 := hide (Gf.rowP_set c (2 * k + 1) (by omega))
      have HS := hide (Gf.rowP_size c (2 * k))
      have SAT := hide (show (Gf.rowP c (2 * k + 1))[2 * k]? = some (.int .u8 ((Gf.mul c (2 * k) : Nat) : Int)) by rw [Gf.rowP_at c _ (show 2 * k < 256 by omega), if_pos (by omega)])
      clear hck h2k
      generalize Gf.mul c k = x at *
      generalize Gf.mul c (2 * k) = y at *
      generalize Gf.mul c (2 * k + 1) = z at *
      go_wp2_with fail
      refine (C _).mono ?_
      rintro e w2 ⟨rfl, hE2⟩
      have hW2 := hW.ext hE2
      have i2 : 2 * k < (Gf.rowP c (2 * k)).size := by rw [HS.out]; omega
      have iz : 2 * k + 1 < (Gf.rowP c (2 * k + 1)).size := by rw [Gf.rowP_size]; omega
      have hb1 : (Try.prog.info? 5).map (·.size) = some 1 := by kernel_rfl
      have H2k := hide i2
      have Hz := hide iz
      clear i2 iz d0
      go_wp2_with (first
        | (refine wpList_storeC rfl 5 (.tmp 17) (.tmp 16) rfl _ rfl rfl hW2 H2k.out hb1 rfl rfl S1.out ?_; intro w3 hW3 hG3; have d3 : w3.cell? ⟨w.heap.size + 1, 2 * k, none⟩ = some (.int .u8 (y : Int)) := hW3.at (2 * k) SAT.out)
        | (refine wpList_storeC rfl 5 (.tmp 25) (.tmp 24) rfl _ rfl rfl hW3 Hz.out hb1 rfl rfl S2.out ?_; intro w4 hW4 hG4))
      go_roundw
      case rel =>
        have hF3 : Ext w w3 := Below.grown (hE.trans hE2) hG3 (hE.trans hE2).le (fun k hk => by cases hk; omega)
        have hF4 : Ext w w4 := Below.grown hF3 hG4 hF3.le (fun k hk => by cases hk; omega)
        exact ⟨k + 1, by omega, by omega, congrArg (Value.int .i64) (by omega), hW4, ((hWz.ext hE2).grown hG3 (by omega)).grown hG4 (by omega), hF4⟩
      case measure => simp [intOf]; omega
    · obtain rfl : k = 128 := by omega
      have hWx := hW
      rw [show 2 * 128 = 256 from rfl, HF.out] at hWx
      have hsz := HV.out
      have hinf : (Try.prog.info? 69).map (·.size) = some (Gf.rowV c).size := by rw [hsz]; exact row_info
      have hss : (Gf.rowV c).size = Z.size := by rw [hsz, HZ.out]
      have hone := HV1.out
      clear hW hsz
      obtain ⟨V, hV⟩ : ∃ V, V = Gf.rowV c := ⟨_, rfl⟩
      rw [← hV] at hWx hinf hss hone
      have HVV := hide hV
      clear hV
      go_wp2_with (first
        | (refine wpList_load_row rfl 69 (.tmp 3) rfl _ rfl _ _ _ _ hWx Try.underlying69 rfl hinf ?_)
        | (refine wpList_storeW rfl 69 (.tmp 2) (.tmp 26) rfl rfl rfl hWz hss hinf hone ?_; intro w5 hW5 hG5 _))
      refine bodyPost_ret (results_cell_row rfl _ _ _ _ _ _ _ rfl hW5 Try.underlying69 rfl hinf) rfl ?_
      exact ⟨by rw [HVV.out], Below.grown hE hG5 hE.le (fun k hk => by cases hk; omega)⟩
end Go.Proofs.Ytbfkknoeaekajaa
