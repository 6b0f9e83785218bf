/- The law RsFew. -/
import Derived.Test.YtbfkknoeaekajaaRsEasy
namespace Go.Proofs.Ytbfkknoeaekajaa
open Go.RowKit

/-- How many of the first j are good. -/
def cnt (good : List Bool) (j : Nat) : Nat := ((List.range j).filter fun i => good.getD i false).length
theorem cnt_yes {good : List Bool} {j : Nat} (h : good.getD j false = true) : cnt good (j + 1) = cnt good j + 1 := by
  unfold cnt
  rw [List.range_succ, List.filter_append, List.length_append]
  simp only [List.filter_cons, h, if_true, List.filter_nil, List.length_cons, List.length_nil]
theorem cnt_no {good : List Bool} {j : Nat} (h : good.getD j false = false) : cnt good (j + 1) = cnt good j := by
  unfold cnt
  rw [List.range_succ, List.filter_append, List.length_append]
  simp only [List.filter_cons, h, List.filter_nil, List.length_nil, Bool.false_eq_true, if_false, Nat.add_zero]
theorem cnt_le (good : List Bool) (j : Nat) : cnt good j ≤ j := by
  refine Nat.le_trans (List.length_filter_le _ _) (by simp)
theorem cnt_all (good : List Bool) : cnt good good.length = (goodAt good).length := rfl
/-- The place of a good part among the good ones. -/
theorem goodAt_cnt {good : List Bool} {j : Nat} (hj : j < good.length) (h : good.getD j false = true) : (goodAt good).getD (cnt good j) 0 = j ∧ cnt good j < (goodAt good).length := by
  have e : goodAt good = ((List.range j).filter fun i => good.getD i false) ++ (j :: ((List.range (good.length - (j + 1))).map (j + 1 + ·)).filter fun i => good.getD i false) := by
    have e1 : List.range good.length = List.range (j + 1) ++ (List.range (good.length - (j + 1))).map (j + 1 + ·) := by
      rw [← List.range_add, show j + 1 + (good.length - (j + 1)) = good.length by omega]
    unfold goodAt
    rw [e1, List.filter_append, List.range_succ, List.filter_append]
    simp only [List.filter_cons, h, if_true, List.filter_nil, List.append_assoc, List.cons_append, List.nil_append]
  rw [e]
  constructor
  · rw [List.getD_eq_getElem?_getD, List.getElem?_append_right (by unfold cnt; exact Nat.le_refl _)]
    simp [cnt]
  · rw [List.length_append]
    simp [cnt]
/-- How many are asked for their bytes. -/
def askd (n : Nat) (good : List Bool) (j : Nat) : Nat := min n (cnt good j)
theorem askd_0 (n : Nat) (good : List Bool) : askd n good 0 = 0 := by simp [askd, cnt]
theorem askd_le (n : Nat) (good : List Bool) (j : Nat) : askd n good j ≤ n := Nat.min_le_left _ _
theorem askd_no (n : Nat) {good : List Bool} {j : Nat} (h : good.getD j false = false) : askd n good (j + 1) = askd n good j := by
  unfold askd
  rw [cnt_no h]
theorem askd_cnt {n : Nat} {good : List Bool} {j : Nat} (h : askd n good j < n) : cnt good j < n := by
  unfold askd at h
  omega
theorem askd_yes {n : Nat} {good : List Bool} {j : Nat} (h : good.getD j false = true) (hq : askd n good j < n) : askd n good (j + 1) = askd n good j + 1 := by
  have := askd_cnt hq
  unfold askd at hq ⊢
  rw [cnt_yes h]
  omega
theorem askd_full {n : Nat} {good : List Bool} {j : Nat} (hq : ¬ askd n good j < n) : askd n good (j + 1) = askd n good j := by
  have h1 : cnt good j ≤ cnt good (j + 1) := by
    cases h : good.getD j false with
    | true => rw [cnt_yes h]; omega
    | false => rw [cnt_no h]; exact Nat.le_refl _
  unfold askd at hq ⊢
  omega
theorem alike_map {parts : List (List UInt8)} {L : List Nat} (h : alike parts) (hL : ∀ x ∈ L, x < parts.length) : alike (L.map fun i => parts.getD i []) := by
  intro i hi
  rw [List.length_map] at hi
  have hm : ∀ j, j < L.length → L.getD j 0 < parts.length := fun j hj => hL _ (by rw [List.getD_eq_getElem?_getD, List.getElem?_eq_getElem hj]; exact List.getElem_mem hj)
  rw [getD_mapL hi, getD_mapL (by omega), h _ (hm i hi), h _ (hm 0 (by omega))]

set_option maxHeartbeats 4000000 in
set_option maxRecDepth 100000 in
theorem rsFew_walk0 (k m : Int) (A1 A2 : Option Addr) (c1 c2 : Nat) (parts : List (List UInt8)) (good : List Bool) (w : World) (hM : MendC w) (hR : RightC w) (hk0 : 0 ≤ k) (hk1 : k ≤ 255) (hm0 : 0 ≤ m) (hm1 : m ≤ 255) (h : RowsAt w w.heap.size A1 parts.length parts) (hc : parts.length ≤ c1)
    (h2 : BoolsAt w w.heap.size A2 good.length good) (hc2 : good.length ≤ c2) :
    Calls Try.prog 6 #[.int .u8 k, .int .u8 m, .slice A1 parts.length c1, .slice A2 good.length c2] w fun e w' => e = .returned (.bool true) ∧ Below w.heap.size w w' := by
  have G1 := fun W hE => great6_any A1 c1 parts W (h.ext hE)
  obtain ⟨k, rfl⟩ := Int.eq_ofNat_of_zero_le hk0
  obtain ⟨m, rfl⟩ := Int.eq_ofNat_of_zero_le hm0
  obtain ⟨n, hn⟩ : ∃ n : Nat, n = 1 + k % 8 := ⟨_, rfl⟩
  obtain ⟨p, hp⟩ : ∃ p : Nat, p = m % 8 := ⟨_, rfl⟩
  have hn1 : 1 ≤ n := by omega
  have hn8 : n ≤ 8 := by omega
  have hp8 : p ≤ 7 := by omega
  have en : (1 : Int) + (k : Int) % 8 = (n : Int) := by omega
  have ep : (m : Int) % 8 = (p : Int) := by omega
  have EN := hide en
  have EP := hide ep
  clear hn hp en ep
  go_enter Try.func6, Try.ntmps6
  go_wp2_with fail
  refine (alive6_any hM (Ext.refl w)).mono ?_
  rintro e w1 ⟨rfl, hE1⟩
  go_wp2_with fail
  refine (G1 _ hE1).mono ?_
  rintro e w2 ⟨b, rfl, hb, hE2⟩
  have hE12 := hE1.trans hE2
  rw [EN.out, EP.out]
  clear EN EP
  cases b with
  | true =>
    go_wp2
    go_ret
    exact ⟨rfl, hE12⟩
  | false =>
    obtain ⟨f1, f2⟩ := hb rfl
    have HF2 := hide f2
    clear hb f2 G1
    by_cases hlp : (parts.length : Int) = (n : Int) + (p : Int)
    · have hne1 : ((parts.length : Int) != (n : Int) + (p : Int)) = false := by simp; omega
      by_cases hlg : (good.length : Int) = (n : Int) + (p : Int)
      · have hne2 : ((good.length : Int) != (n : Int) + (p : Int)) = false := by simp; omega
        have hpn : parts.length = n + p := by omega
        have hgn : good.length = n + p := by omega
        have HPN := hide hpn
        have HGN := hide hgn
        have L1 := fun W h => refAlike_any A1 c1 parts W h (by omega)
        clear hlp hlg hpn hgn
        by_cases hal : alike parts
        · simp only [decide_eq_true hal] at L1
          have HAL := hide (alike_map (L := goodAt good) hal (fun x hx => by have := (goodAt_mem.1 hx).1; have := HGN.out; have := HPN.out; omega))
          have C1 := fun W hE => hM n p A1 A2 c1 c2 parts good W hE (by omega) (by omega) (h.ext hE) (h2.ext hE) hc hc2 (by omega) (by have := HGN.out; omega) (fun i hi => by have := HF2.out i hi; omega)
          clear hal
          go_wp2_with fail
          refine (L1 _ (h.ext hE12)).mono ?_
          rintro e w3 ⟨rfl, hE3⟩
          have hE13 := hE12.trans hE3
          clear L1
          go_wp2_with fail
          go_loopw [11, 12] (fun x y wr => ∃ j : Nat, j ≤ good.length ∧ x = .int .i64 (cnt good j : Int) ∧ y = .int .i64 (j : Int) ∧ Ext w wr) (fun _ y _ => good.length - (intOf y).toNat)
          case atStart => exact ⟨0, by omega, rfl, rfl, hE13⟩
          case round =>
            obtain ⟨j, hj, rfl, rfl, hE⟩ := hrel
            by_cases hlt : j < good.length
            · rcases h2.2 with h0 | ⟨b2, o2, rfl, hb2, hc2'⟩
              · omega
              have kg := (hE.cell (i := o2 + j) hb2).trans (hc2' j hlt)
              have hj0 : (0 : Int) ≤ (j : Int) := by omega
              have hj1 : (j : Int) < (good.length : Int) := by omega
              have hcl := cnt_le good j
              have hgl : good.length ≤ 1000 := by have := HGN.out; omega
              clear hc2'
              obtain ⟨bt, hbt⟩ : ∃ bt, bt = good.getD j false := ⟨_, rfl⟩
              rw [← hbt] at kg
              cases bt
              · have HY := hide (cnt_no hbt.symm)
                clear hbt
                go_wp2
                go_roundw
                case rel => exact ⟨j + 1, by omega, by rw [HY.out], by go_num, hE⟩
                case measure => simp [intOf]; omega
              · have HY := hide (cnt_yes hbt.symm)
                clear hbt
                generalize cnt good j = q at *
                go_wp2
                go_roundw
                case rel => exact ⟨j + 1, by omega, by rw [HY.out]; go_num, by go_num, hE⟩
                case measure => simp [intOf]; omega
            · obtain rfl : j = good.length := by omega
              rw [cnt_all]
              have C2 := C1 wr hE
              have hga : (goodAt good).length ≤ 1000 := by have h3 := cnt_le good good.length; rw [cnt_all] at h3; have := HGN.out; omega
              clear C1
              by_cases hfew : (goodAt good).length < n
              · have hE0 : mendE n p parts good = ([], 12) := by
                  unfold mendE
                  rw [if_pos ⟨mayK_iff.2 ⟨by omega, by omega, by omega, by omega⟩, by have := HPN.out; omega, by have := HGN.out; omega⟩, if_pos HAL.out, if_pos (by omega)]
                rw [hE0] at C2
                clear hE0
                go_wp2_with fail
                refine C2.mono ?_
                rintro e w4 ⟨v, rfl, hO, hE4⟩
                obtain ⟨A4, c4, rfl, _, _, _⟩ := hO.form
                have hEE := hE.trans hE4
                clear C2 hO
                go_wp2
                go_ret
                exact ⟨ret_bool (by simp), hEE⟩
              · obtain ⟨D, hD, hDa, hE0, hsame⟩ := mend_right (k := n) (m := p) (parts := parts) (good := good) hn1 (by omega) HPN.out HGN.out (by omega) HAL.out
                have hRt := code_right (k := n) (m := p) hn1 (by omega) hD hDa
                have hXl := codeL_len n (n + p) D
                have hXr : ∀ i, i < (codeL n (n + p) D).length → ((codeL n (n + p) D).getD i []).length ≤ 1000 := fun i hi => by
                  rw [hXl] at hi
                  have hg0 : (goodAt good).getD 0 0 ∈ goodAt good := by rw [List.getD_eq_getElem?_getD, List.getElem?_eq_getElem (by omega)]; exact List.getElem_mem (by omega)
                  have hb0 := (goodAt_mem.1 hg0).1
                  have e := congrArg List.length (hsame 0 (by omega))
                  rw [codeL_at (by have := HGN.out; omega), rowB_len] at e
                  rw [codeL_at hi, rowB_len, e]
                  have := HF2.out ((goodAt good).getD 0 0) (by have := HGN.out; have := HPN.out; omega)
                  omega
                rw [hE0] at C2
                clear hE0
                have HS := hide (show ∀ j, j < good.length → good.getD j false = true → cnt good j < n → (codeL n (n + p) D).getD j [] = parts.getD j [] from fun j hj hg hcn => by
                  have h3 := hsame (cnt good j) hcn
                  rw [(goodAt_cnt hj hg).1] at h3
                  exact h3)
                have R1 := fun c' A' W hE hr hcc => hR n p A' c' (codeL n (n + p) D) W hE (by omega) (by omega) hr hcc (by rw [hXl]; omega) hXr
                rw [hRt] at R1
                clear hsame hXr hRt hD hDa
                generalize codeL n (n + p) D = X at *
                go_wp2_with fail
                refine C2.mono ?_
                rintro e w4 ⟨v, rfl, hO, hE4⟩
                obtain ⟨A4, c4, rfl, hcX, _, hRX⟩ := hO.form
                have hEE := hE.trans hE4
                have hne3 : ((X.length : Int) != (n : Int) + (p : Int)) = false := by rw [hXl]; simp
                have HXL := hide hXl
                have hgl : good.length ≤ 1000 := by have := HGN.out; omega
                have C3 := R1 c4 A4 w4 hEE hRX hcX
                clear C2 hO hXl R1
                go_wp2_with fail
                refine C3.mono ?_
                rintro e w5 ⟨rfl, hE5⟩
                have hRX5 := hRX.ext hE5
                have hE05 := hEE.trans hE5
                have h5 := h.ext hE05
                have h25 := h2.ext hE05
                clear C3 hRX hE4 hE5 hEE hE3 hE13 hE12 hE1 hE2 hE hM hR h h2
                go_wp2_with fail
                go_loopw [15, 16] (fun x y wq => ∃ j : Nat, j ≤ good.length ∧ x = .int .i64 (askd n good j : Int) ∧ y = .int .i64 (j : Int) ∧ Ext w5 wq) (fun _ y _ => good.length - (intOf y).toNat)
                case atStart => exact ⟨0, by omega, by rw [askd_0]; rfl, rfl, Ext.refl _⟩
                case round =>
                  obtain ⟨j, hj, rfl, rfl, hEq⟩ := hrel
                  by_cases hlt2 : j < good.length
                  · rcases (h25.ext hEq).2 with h0 | ⟨b2, o2, rfl, hb2, hc2'⟩
                    · omega
                    have kg := hc2' j hlt2
                    have hj0 : (0 : Int) ≤ (j : Int) := by omega
                    have hj1 : (j : Int) < (good.length : Int) := by omega
                    have hakn := askd_le n good j
                    clear hc2'
                    obtain ⟨bt, hbt⟩ : ∃ bt, bt = good.getD j false := ⟨_, rfl⟩
                    rw [← hbt] at kg
                    cases bt
                    · have HY := hide (askd_no n hbt.symm)
                      clear hbt
                      go_wp2
                      go_roundw
                      case rel => exact ⟨j + 1, by omega, by rw [HY.out], by go_num, hEq⟩
                      case measure => simp [intOf]; omega
                    · by_cases hq : askd n good j < n
                      · have HY := hide (askd_yes hbt.symm hq)
                        have hsame := HS.out j hlt2 hbt.symm (askd_cnt hq)
                        rcases (hRX5.ext hEq).2 with h0 | ⟨bx, ox, rfl, hBx, hcellx⟩
                        · have := HXL.out; have := HGN.out; omega
                        rcases (h5.ext hEq).2 with h0 | ⟨by', oy, rfl, hBy, hcelly⟩
                        · have := HPN.out; have := HGN.out; omega
                        obtain ⟨x, k1, Ax, kx, hx, _, _, hx4⟩ := hcellx j (by have := HXL.out; have := HGN.out; omega)
                        obtain ⟨y, k2, Ay, ky, hy, _, _, hy4⟩ := hcelly j (by have := HPN.out; have := HGN.out; omega)
                        subst hx
                        subst hy
                        have hj2 : (j : Int) < (X.length : Int) := by have := HXL.out; have := HGN.out; omega
                        have hj3 : (j : Int) < (parts.length : Int) := by have := HPN.out; have := HGN.out; omega
                        have v1 := fun m => conv_bytes kx (((Ext.refl wr).drewN m).bytes hx4) (fun h => by subst h; rcases hx4.2 with h | ⟨_, _, h, _⟩; exact h; cases h)
                        have v2 := fun m => conv_bytes ky (((Ext.refl wr).drewN m).bytes hy4) (fun h => by subst h; rcases hy4.2 with h | ⟨_, _, h, _⟩; exact h; cases h)
                        rw [hsame] at k1 v1
                        clear hbt hsame hcellx hcelly hx4 hy4 h5 h25 hRX5
                        generalize parts.getD j [] = lx at *
                        generalize askd n good j = q at *
                        go_wp2_with fail
                        go_quiet (fail)
                        go_wp2
                        go_roundw
                        case rel => exact ⟨j + 1, by omega, by rw [HY.out]; go_num, by go_num, hEq.drewN _⟩
                        case measure => simp [intOf]; omega
                      · have HY := hide (askd_full hq)
                        clear hbt
                        generalize askd n good j = q at *
                        go_wp2
                        go_roundw
                        case rel => exact ⟨j + 1, by omega, by rw [HY.out], by go_num, hEq⟩
                        case measure => simp [intOf]; omega
                  · obtain rfl : j = good.length := by omega
                    clear h5 h25 hRX5
                    go_wp2
                    go_ret
                    exact ⟨rfl, hE05.trans hEq⟩
        · simp only [decide_eq_false hal] at L1
          go_wp2_with fail
          refine (L1 _ (h.ext hE12)).mono ?_
          rintro e w3 ⟨rfl, hE3⟩
          go_wp2
          go_ret
          exact ⟨rfl, hE12.trans hE3⟩
      · have hne2 : ((good.length : Int) != (n : Int) + (p : Int)) = true := by simpa using hlg
        go_wp2
        go_ret
        exact ⟨rfl, hE12⟩
    · have hne1 : ((parts.length : Int) != (n : Int) + (p : Int)) = true := by simpa using hlp
      go_wp2
      go_ret
      exact ⟨rfl, hE12⟩
end Go.Proofs.Ytbfkknoeaekajaa
