/- The contract of the document's Put. -/
import Derived.Test.YtabhemmmefefgaaBitRef
namespace Go.Proofs.Ytabhemmmefefgaa
open Go.RowKit

def Bit.lows (x k : Nat) : List UInt8 := (List.range k).map fun i => bit8 (x.testBit i)
theorem Bit.lows_len (x k : Nat) : (Bit.lows x k).length = k := by simp [Bit.lows]
theorem Bit.lows_succ (x k : Nat) : Bit.lows x (k + 1) = Bit.lows x k ++ [bit8 (x.testBit k)] := by simp [Bit.lows, List.range_succ]
theorem Bit.lows_get (x k i : Nat) (h : i < k) : (Bit.lows x k).getD i 0 = bit8 (x.testBit i) := by simp [Bit.lows, List.getD_eq_getElem?_getD, h]
theorem Bit.num_take (x n j : Nat) (hj : j < n) : ((Bit.num x n).take (n - (j + 1))).map bit8 ++ [bit8 (x.testBit j)] = ((Bit.num x n).take (n - j)).map bit8 := by
  have hl : n - (j + 1) < (Bit.num x n).length := by rw [Bit.num_length]; omega
  have hg : (Bit.num x n)[n - (j + 1)] = x.testBit j := by
    have h1 := Bit.num_getD x n (n - (j + 1)) (by omega)
    rw [List.getD_eq_getElem?_getD, List.getElem?_eq_getElem hl, show n - 1 - (n - (j + 1)) = j by omega] at h1
    exact h1
  rw [show n - j = n - (j + 1) + 1 by omega, List.take_succ_eq_append_getElem hl, List.map_append, hg]
  rfl
theorem Bit.bit_int (y : Nat) (b : Bool) (h : b.toNat = y % 2) : (y : Int) % 2 = ((bit8 b).toNat : Int) := by rw [bit8_int]; omega

set_option maxHeartbeats 2000000 in
theorem refPut_any {w : World} {base g : Nat} {ob : Option Nat} {L : List UInt8} (h : RefW w base g ob L) (x : Nat) (n : Int) (hx64 : x ≤ 18446744073709551615) (hL : L.length ≤ 900000000) :
    Calls Try.prog 16 #[.pointer (some ⟨g, 0, none⟩), .int .u64 x, .int .i64 n] w (RefPuts w base g ob (L ++ (Bit.putBits x n).map bit8) (Bit.putErr x n)) := by
  by_cases hr : 0 ≤ n ∧ n ≤ 64
  · obtain ⟨h0, h1⟩ := hr
    obtain ⟨k, rfl⟩ := Int.eq_ofNat_of_zero_le h0
    have hk : k ≤ 64 := by omega
    have HF := hide h
    go_enter Try.func16, Try.ntmps16
    go_wp2
    go_loopw [1, 7, 8] (fun y v i wr => ∃ j : Nat, j ≤ k ∧ i = .int .i64 (j : Int) ∧ y = .int .u64 ((x / 2 ^ j : Nat) : Int) ∧ OwnB wr w.heap.size v (Bit.lows x j) ∧ Ext w wr) (fun _ _ i _ => k - (intOf i).toNat)
    case atStart => exact ⟨0, by omega, rfl, by simp, OwnB.nil _ _, Ext.refl _⟩
    case round =>
      obtain ⟨j, hj, rfl, rfl, hO, hE⟩ := hrel
      by_cases hlt : j < k
      · have hbit := Bit.bit_int (x / 2 ^ j) (x.testBit j) (Bit.testBit_toNat x j)
        have hdiv := hide (show ((x / 2 ^ j : Nat) : Int) / 2 = ((x / 2 ^ (j + 1) : Nat) : Int) by rw [Nat.pow_succ, ← Nat.div_div_eq_div_mul]; omega)
        have hy : x / 2 ^ j ≤ 18446744073709551615 := Nat.le_trans (Nat.div_le_self _ _) hx64
        have HL := hide (Bit.lows_succ x j)
        have hlen := Bit.lows_len x j
        have hfit : (Bit.lows x j).length + 1 ≤ 140737488355328 := by omega
        generalize Bit.lows x j = Lo at *
        generalize x / 2 ^ j = y at *
        generalize bit8 (x.testBit j) = bt at *
        have hbt := bt.toNat_lt
        have hb1 := bytesNew wr [bt] #[.int .u8 (bt.toNat : Int)] 5 (0, 0) rfl 1 rfl
        have hO1 := hO.ext (extNew wr (.cells #[.int .u8 (bt.toNat : Int)] 5))
        have hE1 := hE.trans (extNew wr (.cells #[.int .u8 (bt.toNat : Int)] 5))
        have hB1 := hE1.le
        clear hlen
        go_wp2_with (at_builtin; refine wpList_appAt rfl (.tmp 21) (.tmp 25) rfl rfl hO1 rfl hb1 hfit hB1 ?_; intro v2 w2 hO2 hG2 hN2)
        go_roundw
        case rel =>
          refine ⟨j + 1, by omega, by go_num, by rw [← hdiv.out], by rw [HL.out]; exact hO2, hO1.below hE1 hG2 hB1⟩
        case measure => simp [intOf]; omega
      · obtain rfl : j = k := by omega
        by_cases hz : x / 2 ^ j = 0
        · have hxl : x < 2 ^ j := by
            rcases Nat.div_eq_zero_iff.1 hz with h | h
            · exact absurd h (Nat.ne_of_gt (Nat.two_pow_pos j))
            · exact h
          have HP := hide (Bit.put_good (x := x) (n := (j : Int)) (decide_eq_true ⟨by omega, by omega, by simpa using hxl⟩))
          have hz' : (((x / 2 ^ j : Nat) : Int) != 0) = false := by rw [hz]; rfl
          have HO := hide hO
          clear hz hxl
          generalize x / 2 ^ j = y at *
          generalize hwz : wr = wz at *
          clear hwz
          go_wp2
          have hR := HF.out.ext hE
          go_loopw [9] (fun i ww => ∃ (m : Nat) (ob1 : Option Nat), m ≤ j ∧ i = .int .i64 ((m : Int) - 1) ∧ RefW ww base g ob1 (L ++ ((Bit.num x j).take (j - m)).map bit8) ∧ NewOb wz ob ob1 ∧ Mod wz ww g ob) (fun i _ => ((intOf i) + 1).toNat)
          case atStart => exact ⟨j, ob, by omega, rfl, by simpa using hR, .inl rfl, Mod.refl _ _ _⟩
          case round =>
            obtain ⟨m, ob1, hm, rfl, ⟨v, hW, hOw, hne, hb, rfl⟩, hN, hM⟩ := hrel
            rcases m with _ | m
            · have hneg : ¬ (0 ≤ ((0 : Nat) : Int) - 1) := by omega
              go_wp2
              go_ret
              refine ⟨ret_i64 HP.out.1.symm, v.ownBlock, ?_, (NewOb.same w ob).trans hE.le hN, (Mod.ofExt hE).trans hM (.inl rfl)⟩
              rw [HP.out.2, Int.toNat_natCast]
              rw [Nat.sub_zero, List.take_of_length_le (by rw [Bit.num_length]; exact Nat.le_refl _)] at *
              exact ⟨v, hW, hOw, hne, hb, rfl⟩
            · rw [show (((m + 1 : Nat) : Int) - 1) = (m : Int) by omega]
              have hO1 := HO.out
              have hgl := HF.out.lt
              have hob := HF.out.own
              obtain ⟨gl, cl, hu, hbl, hcl⟩ := hO1.formG (by rw [Bit.lows_len]; omega)
              rw [Bit.lows_len] at hu
              subst hu
              have hOl := hM.own hO1 (by simp [Value.ownBlock]; omega) (.inr (fun e => by have := (hob gl e.symm).2; omega))
              have hcell := (hOl.cell (i := m) (by rw [Bit.lows_len]; omega)).1
              rw [Bit.lows_get x j m (by omega)] at hcell
              have HT := hide (Bit.num_take x j m (by omega))
              have hlen : (L ++ List.map bit8 (List.take (j - (m + 1)) (Bit.num x j))).length ≤ 900000064 := by
                rw [List.length_append, List.length_map, List.length_take]; omega
              have hfit : (L ++ List.map bit8 (List.take (j - (m + 1)) (Bit.num x j))).length + 1 ≤ 140737488355328 := by omega
              generalize bit8 (x.testBit m) = bt at *
              generalize hLL : L ++ List.map bit8 (List.take (j - (m + 1)) (Bit.num x j)) = LL at *
              have HLL := hide hLL
              have hbt := bt.toNat_lt
              have d0 : wr.cell? ⟨g, 0, none⟩ = some v := hW.at 0 rfl
              have hEa := extNew wr (.cells #[.int .u8 (bt.toNat : Int)] 5)
              have d0' : (wr.alloc (.cells #[.int .u8 (bt.toNat : Int)] 5)).cell? ⟨g, 0, none⟩ = some v := (hW.ext hEa).at 0 rfl
              have hb1 := (Ext.refl (wr.alloc (.cells #[.int .u8 (bt.toNat : Int)] 5))).drew.bytes (bytesNew wr [bt] #[.int .u8 (bt.toNat : Int)] 5 (0, 0) rfl 1 rfl)
              have hEw : Ext wr (wr.alloc (.cells #[.int .u8 (bt.toNat : Int)] 5)).drew := hEa.drew
              have hOx := hOw.ext hEw
              have hB1 : base ≤ (wr.alloc (.cells #[.int .u8 (bt.toNat : Int)] 5)).drew.heap.size := Nat.le_trans (Nat.le_trans hb (Nat.le_of_lt hW.lt)) hEw.le
              have hi : (Try.prog.info? 22).map (·.size) = some 1 := by kernel_rfl
              have hmj : (m : Int) < (j : Int) := by omega
              clear hLL hlen hO1 hO hOl hob
              go_wp2
              go_region_law (refine step_appAt rfl (.tmp 41) (.tmp 46) rfl rfl hOx rfl hb1 hfit hB1 ?_; intro v2 w2 hO2 hG2' hN2'; have hG2 : (wr.alloc (.cells #[.int .u8 (bt.toNat : Int)] 5)).drew.grownBy w2 v.ownBlock := hG2'; have hN2 : NewOb (wr.alloc (.cells #[.int .u8 (bt.toNat : Int)] 5)).drew v.ownBlock v2.ownBlock := hN2'; clear hG2' hN2'; have hW2 := (hW.ext hEw).ownGrown hG2 hne; obtain ⟨A2, n2, c2, hv2, _, _, _⟩ := hO2.form'; subst hv2; have e0 := hW2.at 0 rfl; have f2 := hW2.frozen 0)
              all_goals (
                have hG3 := grown_setCell w2 g 0 (.slice A2 n2 c2)
                have hW3 : Whole (w2.setCell ⟨g, 0, none⟩ (.slice A2 n2 c2)) g 37 #[.slice A2 n2 c2] := hW2.set 0 _
                obtain ⟨ob2, hR2, hN3, hM3⟩ := RefW.put hW hne hb hEw hO2 hG2 hN2 hW3 hG3
                rw [← HLL.out, List.append_assoc, HT.out] at hR2
                have HR := hide (show RefW (w2.setCell ⟨g, 0, none⟩ (.slice A2 n2 c2)) base g ob2 (L ++ ((Bit.num x j).take (j - m)).map bit8) ∧ NewOb wz ob ob2 ∧ Mod wz (w2.setCell ⟨g, 0, none⟩ (.slice A2 n2 c2)) g ob from ⟨hR2, hN.trans hM.size hN3, hM.trans hM3 hN⟩)
                clear hR2 hN3 hM3 hW3 hG3
                go_wp2
                go_roundw
                case rel => exact ⟨m, ob2, by omega, rfl, HR.out⟩
                case measure => simp [intOf])
        · have hxl : ¬ x < 2 ^ j := fun h => hz (Nat.div_eq_of_lt h)
          have HP := hide (Bit.put_bad (x := x) (n := (j : Int)) (decide_eq_false (fun h => hxl (by simpa using h.2.2))))
          have hz' : (((x / 2 ^ j : Nat) : Int) != 0) = true := by simpa using fun h => hz (by exact_mod_cast h)
          clear hz hxl
          generalize x / 2 ^ j = y at *
          go_wp2
          go_ret
          exact ⟨ret_i64 HP.out.1.symm, ob, by rw [HP.out.2, List.map_nil, List.append_nil]; exact HF.out.ext hE, .inl rfl, Mod.ofExt hE⟩
  · have HP := hide (Bit.put_bad (x := x) (n := n) (decide_eq_false (fun h => hr ⟨h.1, h.2.1⟩)))
    have HF := hide h
    by_cases h0 : n < 0
    · clear hr
      go_enter Try.func16, Try.ntmps16
      go_wp2
      go_ret
      exact ⟨ret_i64 HP.out.1.symm, ob, by rw [HP.out.2, List.map_nil, List.append_nil]; exact HF.out, .inl rfl, Mod.refl _ _ _⟩
    · have h1 : 64 < n := by omega
      clear hr
      go_enter Try.func16, Try.ntmps16
      go_wp2
      go_ret
      exact ⟨ret_i64 HP.out.1.symm, ob, by rw [HP.out.2, List.map_nil, List.append_nil]; exact HF.out, .inl rfl, Mod.refl _ _ _⟩
end Go.Proofs.Ytabhemmmefefgaa
