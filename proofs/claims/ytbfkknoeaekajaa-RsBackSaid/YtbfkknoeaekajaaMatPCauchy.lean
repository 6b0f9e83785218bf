/- Contract of the program's Cauchy. -/
import Derived.Test.YtbfkknoeaekajaaMatPBase
import Derived.Test.YtbfkknoeaekajaaMatCauchy
import Derived.Test.YtbfkknoeaekajaaGfCalc
import Derived.Test.YtbfkknoeaekajaaGfRow
namespace Go.Proofs.Ytbfkknoeaekajaa
open Go.RowKit

/-- The cells that are made so far: the rows above i, and j cells of row i. -/
def cauTo (k i j : Nat) : Mat.M := fun a b => if a < i ∨ (a = i ∧ b < j) then cauchyF k a b else 0
theorem cauTo_none (k : Nat) : cauTo k 0 0 = fun _ _ => 0 := by
  funext a b
  simp [cauTo]
theorem cauTo_step (k i j : Nat) : (fun a b => if a = i ∧ b = j then cauchyF k i j else cauTo k i j a b) = cauTo k i (j + 1) := by
  funext a b
  unfold cauTo
  by_cases h : a = i ∧ b = j
  · obtain ⟨rfl, rfl⟩ := h
    rw [if_pos ⟨rfl, rfl⟩, if_pos (.inr ⟨rfl, by omega⟩)]
  · rw [if_neg h]
    by_cases h2 : a < i ∨ (a = i ∧ b < j)
    · rw [if_pos h2, if_pos (by omega)]
    · rw [if_neg h2, if_neg (by omega)]
theorem cauTo_row (k i N : Nat) (hk : 0 < k) : cellsOf k (cauTo k i k) N = cellsOf k (cauTo k (i + 1) 0) N := by
  refine cells_congr fun p _ => ?_
  have := Nat.mod_lt p hk
  unfold cauTo
  by_cases h : p / k < i + 1
  · rw [if_pos (by omega), if_pos (.inl h)]
  · rw [if_neg (by omega), if_neg (by omega)]
theorem cauTo_all (k m : Nat) : cellsOf k (cauTo k m 0) (m * k) = cellsOf k (cauchyF k) (m * k) := by
  refine cells_congr fun p hp => ?_
  unfold cauTo
  rw [if_pos (.inl (Nat.div_lt_of_lt_mul (by rw [Nat.mul_comm]; exact hp)))]

/-- A table of inverses: each cell is 0, or the inverse of its number. -/
def InvT (w : World) (g : Nat) : Prop := ∃ cs : Array Value, Whole w g 69 cs ∧ cs.size = 256 ∧ ∀ x : UInt8, cs[x.toNat]? = some (.int .u8 0) ∨ cs[x.toNat]? = some (.int .u8 ((Mat.fi x).toNat : Int))
theorem InvT.ext {w W : World} {g : Nat} (h : InvT w g) (hE : Ext w W) : InvT W g := by
  obtain ⟨cs, h1, h2⟩ := h
  exact ⟨cs, h1.ext hE, h2⟩
theorem InvT.far {w : World} {g b : Nat} (h : InvT w g) (hb : g ≠ b) (i : Nat) (u : Value) : InvT (w.setCell ⟨b, i, none⟩ u) g := by
  obtain ⟨cs, h1, h2⟩ := h
  exact ⟨cs, h1.far hb i u, h2⟩
theorem inv_ne {x : UInt8} (h : x ≠ 0) : Mat.fi x ≠ 0 := fun e => by
  have := Mat.fm_fi h
  rw [e, Mat.fm_zero] at this
  exact Mat.one_ne this.symm
theorem invT_set {cs : Array Value} (hs : cs.size = 256) (hv : ∀ x : UInt8, cs[x.toNat]? = some (.int .u8 0) ∨ cs[x.toNat]? = some (.int .u8 ((Mat.fi x).toNat : Int))) (y : UInt8) :
    ∀ x : UInt8, (cs.setIfInBounds y.toNat (.int .u8 ((Mat.fi y).toNat : Int)))[x.toNat]? = some (.int .u8 0) ∨ (cs.setIfInBounds y.toNat (.int .u8 ((Mat.fi y).toNat : Int)))[x.toNat]? = some (.int .u8 ((Mat.fi x).toNat : Int)) := fun x => by
  by_cases h : y.toNat = x.toNat
  · obtain rfl := Mat.ext8 h
    exact .inr (Array.getElem?_setIfInBounds_self_of_lt (by have := Mat.lt y; omega))
  · rw [Array.getElem?_setIfInBounds_ne h]
    exact hv x

set_option maxHeartbeats 4000000 in
set_option maxRecDepth 100000 in
theorem matCauchy_any (k m : Int) (w : World) : Calls Try.prog 33 #[.int .i64 k, .int .i64 m] w (MadeM w (cauchyE k m).1 (cauchyE k m).2) := by
  have hE1 := extNew w (.cells #[.int .i64 0, .int .i64 0, .slice none 0 0] 42)
  have hW1 := Whole.new w 42 #[.int .i64 0, .int .i64 0, .slice none 0 0]
  have C1 := counts_any k
  have C2 := counts_any m
  obtain ⟨Z, hZ, hzero, hz⟩ := row_zero'
  have HZI := hide (show ∀ W : World, InvT (W.alloc (.cells Z 69)) W.heap.size from fun W => ⟨Z, Whole.new W _ _, hZ, fun x => .inl (hz _ (Mat.lt x))⟩)
  clear hZ hz
  have HI := hide (show cauchyE k m = if 0 ≤ k ∧ 0 ≤ m ∧ k + m ≤ 255 then (⟨m, k, cellsOf k.toNat (cauchyF k.toNat) (m.toNat * k.toNat)⟩, 0) else (MV.zero, 13) from rfl)
  by_cases hk : 0 ≤ k ∧ k ≤ 255
  · rw [decide_eq_true hk] at C1
    by_cases hm : 0 ≤ m ∧ m ≤ 255
    · rw [decide_eq_true hm] at C2
      have C3 := counts_any (k + m)
      by_cases hkm : 0 ≤ k + m ∧ k + m ≤ 255
      · rw [decide_eq_true hkm] at C3
        rw [HI.out, if_pos ⟨hk.1, hm.1, hkm.2⟩]
        obtain ⟨k, rfl⟩ := Int.eq_ofNat_of_zero_le hk.1
        obtain ⟨m, rfl⟩ := Int.eq_ofNat_of_zero_le hm.1
        simp only [Int.toNat_natCast]
        have hkm' : k + m ≤ 255 := by omega
        have C4 := fun W => blank_any m k (by omega) (by omega) W
        have HA := hide (cauTo_all k m)
        clear hk hm hkm HI
        go_enter Try.func33, Try.ntmps33
        go_wp2_with fail
        refine (C1 _).mono ?_
        rintro e w1 ⟨rfl, rfl⟩
        go_wp2_with fail
        refine (C2 _).mono ?_
        rintro e w1 ⟨rfl, rfl⟩
        go_wp2_with fail
        refine (C3 _).mono ?_
        rintro e w1 ⟨rfl, rfl⟩
        go_wp2_with fail
        refine (C4 _).mono ?_
        rintro e w2 ⟨g, rfl, hg, hO, hE2⟩
        rw [World.size_alloc] at hg hO
        have hg2 := (hO.lt g rfl).2
        have hW2 := Whole.new w2 42 #[.int .i64 0, .int .i64 0, .slice none 0 0]
        have hWr2 := hW1.ext hE2
        have hE3 := extNew w2 (.cells #[.int .i64 0, .int .i64 0, .slice none 0 0] 42)
        unfold matV
        go_wp2_with (refine wpList_storeW rfl 42 (.tmp 6) (.tmp 30) rfl rfl rfl hW2 rfl mat_info (mat_one rfl) ?_; intro w3 hW3 hG3 hS3; clear hS3)
        have hO3 := (Mod.ofRow (ob := none) hG3).own (hO.ext hE3) (by simp [Value.ownBlock]; omega) (by simp [Classical.em])
        have hWr3 := (hWr2.ext hE3).grown hG3 (by have := hWr2.lt; omega)
        have hF3 : Ext w w3 := Below.grown ((hE1.trans hE2).trans hE3) hG3 ((hE1.trans hE2).trans hE3).le (fun k hk => by cases hk; exact (hE1.trans hE2).le)
        rw [cells_zero k, ← cauTo_none k] at hO3
        have hIv := HZI.out w3
        have hE4 := extNew w3 (.cells Z 69)
        have hO4 := hO3.ext hE4
        have hW4 := hW3.ext hE4
        have hWr4 := hWr3.ext hE4
        have hF4 := hF3.trans hE4
        have hgi3 : w2.heap.size + 1 ≤ w3.heap.size := by have := hG3.size; rw [World.size_alloc] at this; exact this
        obtain ⟨gi, hgi⟩ : ∃ gi, gi = w3.heap.size := ⟨_, rfl⟩
        rw [← hgi] at hIv hgi3
        obtain ⟨gb, hgb⟩ : ∃ gb, gb = w2.heap.size := ⟨_, rfl⟩
        rw [← hgb] at hW3 hW4 hgi3 ⊢
        have hb : w.heap.size < gb := by have := (hE1.trans hE2).le; have := hE2.le; rw [World.size_alloc] at this; omega
        have hgg : g < gb := by omega
        clear hO hE2 hW2 hWr2 hE3 hG3 hg2 hgb C1 C2 C3 C4 hW1 hE1 hO3 hW3 hWr3 hF3 HZI hE4
        go_wp2_with fail
        rw [← hgi]
        clear hgi
        go_loopw [32] (fun i wr => ∃ j : Nat, j ≤ m ∧ i = .int .i64 (j : Int) ∧ OwnB wr (w.heap.size + 1) (.slice (some ⟨g, 0, none⟩) (m * k) (m * k)) (cellsOf k (cauTo k j 0) (m * k)) ∧ Whole wr gb 42 #[.int .i64 m, .int .i64 k, .slice (some ⟨g, 0, none⟩) (m * k) (m * k)] ∧ Whole wr w.heap.size 42 #[.int .i64 0, .int .i64 0, .slice none 0 0] ∧ InvT wr gi ∧ Ext w wr) (fun i _ => m - (intOf i).toNat)
        case atStart => exact ⟨0, by omega, rfl, hO4, hW4, hWr4, hIv, hF4⟩
        case round =>
          obtain ⟨i, hi, rfl, hOi, hWm, hWr, hIi, hE⟩ := hrel
          by_cases hlt : i < m
          · have CR := fun W => row_any' m i k (m * k) (m * k) (some ⟨g, 0, none⟩) (by omega) (by omega) (Nat.mul_le_mul_right _ hlt) W
            unfold matV at CR
            go_wp2_with (refine wpList_load_row rfl 42 (.tmp 6) rfl _ rfl _ _ _ _ hWm Try.underlying42 rfl mat_info ?_)
            refine (CR _).mono ?_
            rintro e w4 ⟨rfl, hE4⟩
            clear CR
            obtain ⟨R, hR⟩ : ∃ R, R = cutAt (some ⟨g, 0, none⟩) (m * k) (i * k) := ⟨_, rfl⟩
            rw [← hR]
            have HRr := hide hR
            clear hR
            go_wp2_with fail
            go_loopw [40] (fun x wq => ∃ j : Nat, j ≤ k ∧ x = .int .i64 (j : Int) ∧ OwnB wq (w.heap.size + 1) (.slice (some ⟨g, 0, none⟩) (m * k) (m * k)) (cellsOf k (cauTo k i j) (m * k)) ∧ Whole wq gb 42 #[.int .i64 m, .int .i64 k, .slice (some ⟨g, 0, none⟩) (m * k) (m * k)] ∧ Whole wq w.heap.size 42 #[.int .i64 0, .int .i64 0, .slice none 0 0] ∧ InvT wq gi ∧ Ext w wq) (fun x _ => k - (intOf x).toNat)
            case atStart => exact ⟨0, by omega, rfl, hOi.ext hE4, hWm.ext hE4, hWr.ext hE4, hIi.ext hE4, hE.trans hE4⟩
            case round =>
              obtain ⟨j, hj, rfl, hOj, hWm2, hWr2, hIj, hE2⟩ := hrel
              by_cases hjt : j < k
              · obtain ⟨p1, p2⟩ := row_place hlt (by omega : 0 < k)
                have hR2 := HRr.out
                rw [cutAt_zero p2] at hR2
                subst hR2
                have hx0 : UInt8.ofNat (k + i) ^^^ UInt8.ofNat j ≠ 0 := fun e => by
                  have := Mat.ofNat_inj (by omega) (by omega) (Mat.xor_eq_zero e)
                  omega
                have hxb' : bits .xor .i64 ((k : Int) + (i : Int)) (j : Int) = ((UInt8.ofNat (k + i) ^^^ UInt8.ofNat j).toNat : Int) := by
                  have := i64_xor_nat (k + i) j (by omega) (by omega)
                  rw [UInt8.toNat_xor, UInt8.toNat_ofNat', UInt8.toNat_ofNat', Nat.mod_eq_of_lt (by omega), Nat.mod_eq_of_lt (by omega)]
                  exact this
                have HS := hide (cells_set k (m * k) (cauTo k i j) hjt (cauchyF k i j) (i := i))
                have hcell : cauchyF k i j = Mat.fi (UInt8.ofNat (k + i) ^^^ UInt8.ofNat j) := rfl
                have C := fun W => inv_any (UInt8.ofNat (k + i) ^^^ UInt8.ofNat j).toNat W (Mat.lt _)
                rw [inv_byte hx0, ← hcell] at C
                have hne := inv_ne hx0
                rw [← hcell] at hne
                obtain ⟨cs, hWi, hcs, hvals⟩ := hIj
                have HV := hide hvals
                have hv := hvals (UInt8.ofNat (k + i) ^^^ UInt8.ofNat j)
                have HSV := hide (invT_set hcs hvals (UInt8.ofNat (k + i) ^^^ UInt8.ofNat j))
                rw [← hcell] at hv HSV
                clear hvals
                have HT := hide (cauTo_step k i j)
                generalize cauchyF k i j = bt at *
                have hbx := Mat.lt (UInt8.ofNat (k + i) ^^^ UInt8.ofNat j)
                generalize (UInt8.ofNat (k + i) ^^^ UInt8.ofNat j).toNat = xx at *
                have b1 : ((k : Int) + (i : Int)) ≤ 255 := by omega
                have b2 : (j : Int) ≤ 255 := by omega
                have b0 : (0 : Int) ≤ (k : Int) + (i : Int) := by omega
                have hbx2 : (xx : Int) < 256 := by omega
                clear hcell hx0
                clear HRr
                have hgg1 : gi ≠ g := by omega
                rcases hv with h0 | h1
                · have d0 := hWi.at xx h0
                  have hxc : xx < cs.size := by omega
                  have hb1 : (Try.prog.info? 5).map (·.size) = some 1 := by kernel_rfl
                  have HC := hide hcs
                  clear hcs
                  go_wp2_with fail
                  refine (C _).mono ?_
                  rintro e w5 ⟨rfl, hE5⟩
                  have hWi5 := hWi.ext hE5
                  have HXC := hide hxc
                  clear d0 hxc
                  go_wp2_with (refine wpList_storeC rfl 5 (.tmp 59) (.tmp 57) rfl _ rfl rfl hWi5 HXC.out hb1 rfl rfl rfl ?_; intro w6 hWi6 hG6; have d6 : w6.cell? ⟨gi, xx, none⟩ = some (.int .u8 (bt.toNat : Int)) := hWi6.at xx (Array.getElem?_setIfInBounds_self_of_lt HXC.out); have hOj6 := (Mod.ofRow (ob := none) hG6).own (hOj.ext hE5) (by simp [Value.ownBlock]; omega) (by simp [Classical.em]); obtain ⟨hc5, hf5⟩ := hOj6.cell (i := i * k + j) (by rw [cellsOf_len]; omega))
                  have hO6 := hOj6.set (i * k + j) bt
                  have hE5' := hE2.trans hE5
                  have hE6' : Ext w w6 := Below.grown hE5' hG6 hE5'.le (fun k hk => by cases hk; omega)
                  have hE6 := hE6'.setCell (g := g) (i := i * k + j) (by omega) (.int .u8 (bt.toNat : Int))
                  have hWm6 := ((hWm2.ext hE5).grown hG6 (by omega)).far (b := g) (by omega) (i * k + j) (.int .u8 (bt.toNat : Int))
                  have hWr6 := ((hWr2.ext hE5).grown hG6 (by omega)).far (b := g) (by omega) (i * k + j) (.int .u8 (bt.toNat : Int))
                  have hI6 : InvT w6 gi := ⟨_, hWi6, by rw [Array.size_setIfInBounds]; exact HC.out, HSV.out⟩
                  have hI7 := hI6.far hgg1 (i * k + j) (.int .u8 (bt.toNat : Int))
                  rw [HS.out, HT.out] at hO6
                  go_roundw
                  case rel => exact ⟨j + 1, by omega, by go_num, hO6, hWm6, hWr6, hI7, hE6⟩
                  case measure => simp [intOf]; omega
                · have d0 := hWi.at xx h1
                  have hbt : ((bt.toNat : Int) == 0) = false := by
                    have : bt.toNat ≠ 0 := fun e => hne (Mat.ext8 e)
                    simp only [beq_eq_false_iff_ne, ne_eq]
                    omega
                  obtain ⟨hc5, hf5⟩ := hOj.cell (i := i * k + j) (by rw [cellsOf_len]; omega)
                  have hO6 := hOj.set (i * k + j) bt
                  have hE6 := hE2.setCell (g := g) (i := i * k + j) (by omega) (.int .u8 (bt.toNat : Int))
                  have hWm6 := hWm2.far (b := g) (by omega) (i * k + j) (.int .u8 (bt.toNat : Int))
                  have hWr6 := hWr2.far (b := g) (by omega) (i * k + j) (.int .u8 (bt.toNat : Int))
                  have hI7 := InvT.far ⟨cs, hWi, hcs, HV.out⟩ hgg1 (i * k + j) (.int .u8 (bt.toNat : Int))
                  rw [HS.out, HT.out] at hO6
                  clear C hne hcs
                  go_wp2
                  go_roundw
                  case rel => exact ⟨j + 1, by omega, by go_num, hO6, hWm6, hWr6, hI7, hE6⟩
                  case measure => simp [intOf]; omega
              · obtain rfl : j = k := by omega
                go_wp2
                go_roundw
                case rel =>
                  refine ⟨i + 1, by omega, by go_num, ?_, hWm2, hWr2, hIj, hE2⟩
                  rcases Nat.eq_zero_or_pos j with h0 | h0
                  · subst h0
                    simpa [cellsOf] using hOj
                  · rw [← cauTo_row j i _ h0]
                    exact hOj
                case measure => simp [intOf]; omega
          · obtain rfl : i = m := by omega
            rw [HA.out] at hOi
            go_wp2_with (first
              | (refine wpList_load_row rfl 42 (.tmp 6) rfl _ rfl _ _ _ _ hWm Try.underlying42 rfl mat_info ?_)
              | (refine wpList_storeW rfl 42 (.tmp 4) (.tmp 68) rfl rfl rfl hWr rfl mat_info (mat_one rfl) ?_; intro w5 hW5 hG5 _))
            refine bodyPost_ret (results_mat rfl _ rfl rfl hW5 rfl) rfl ?_
            exact made_end hE hG5 hOi (by omega)
      · rw [decide_eq_false hkm] at C3
        rw [HI.out, if_neg (by omega)]
        obtain ⟨k0, k1⟩ := hk
        obtain ⟨m0, m1⟩ := hm
        clear hkm
        go_enter Try.func33, Try.ntmps33
        go_wp2_with fail
        refine (C1 _).mono ?_
        rintro e w1 ⟨rfl, rfl⟩
        go_wp2_with fail
        refine (C2 _).mono ?_
        rintro e w1 ⟨rfl, rfl⟩
        go_wp2_with fail
        refine (C3 _).mono ?_
        rintro e w1 ⟨rfl, rfl⟩
        go_wp2_with (refine wpList_storeW rfl 42 (.tmp 4) (.tmp 27) rfl rfl rfl hW1 rfl mat_info (mat_one rfl) ?_; intro w5 hW5 hG5 _)
        refine bodyPost_ret (results_mat rfl _ rfl rfl hW5 rfl) rfl ?_
        exact MadeM.zero 13 (Below.grown hE1 hG5 hE1.le (fun k hk => by cases hk; exact Nat.le_refl _))
    · rw [decide_eq_false hm] at C2
      rw [HI.out, if_neg (by omega)]
      clear hk hm
      go_enter Try.func33, Try.ntmps33
      go_wp2_with fail
      refine (C1 _).mono ?_
      rintro e w1 ⟨rfl, rfl⟩
      go_wp2_with fail
      refine (C2 _).mono ?_
      rintro e w1 ⟨rfl, rfl⟩
      go_wp2_with (refine wpList_storeW rfl 42 (.tmp 4) (.tmp 27) rfl rfl rfl hW1 rfl mat_info (mat_one rfl) ?_; intro w5 hW5 hG5 _)
      refine bodyPost_ret (results_mat rfl _ rfl rfl hW5 rfl) rfl ?_
      exact MadeM.zero 13 (Below.grown hE1 hG5 hE1.le (fun k hk => by cases hk; exact Nat.le_refl _))
  · rw [decide_eq_false hk] at C1
    rw [HI.out, if_neg (by omega)]
    clear hk
    go_enter Try.func33, Try.ntmps33
    go_wp2_with fail
    refine (C1 _).mono ?_
    rintro e w1 ⟨rfl, rfl⟩
    go_wp2_with (refine wpList_storeW rfl 42 (.tmp 4) (.tmp 27) rfl rfl rfl hW1 rfl mat_info (mat_one rfl) ?_; intro w5 hW5 hG5 _)
    refine bodyPost_ret (results_mat rfl _ rfl rfl hW5 rfl) rfl ?_
    exact MadeM.zero 13 (Below.grown hE1 hG5 hE1.le (fun k hk => by cases hk; exact Nat.le_refl _))
end Go.Proofs.Ytbfkknoeaekajaa
