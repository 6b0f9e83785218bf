/- The contract of the document's Reader: what makes it. -/
import Derived.Test.YtabhemmmefefgaaBitRefR
import Derived.Test.YtabhemmmefefgaaBitRef2
import Derived.Deep.RegionLaw
namespace Go.Proofs.Ytabhemmmefefgaa
open Go.RowKit

/-- While it is made: block g holds the first p bits. -/
def Making (w0 w : World) (g : Nat) (l : List UInt8) (p : Nat) : Prop :=
  ∃ v, Whole w g 75 #[v, .int .i64 0] ∧ OwnB w w0.heap.size v (Bit.spread l p) ∧ v.ownBlock ≠ some g ∧ w0.heap.size ≤ g ∧ Ext w0 w
theorem Bit.mask (d : Nat) (h : d < 8) : 128 / 2 ^ d = 2 ^ (7 - d) := by
  rcases (by omega : d = 0 ∨ d = 1 ∨ d = 2 ∨ d = 3 ∨ d = 4 ∨ d = 5 ∨ d = 6 ∨ d = 7) with rfl | rfl | rfl | rfl | rfl | rfl | rfl | rfl <;> decide

set_option maxHeartbeats 2000000 in
theorem refReader_any (A : Option Addr) (n c : Nat) (l : List UInt8) (w : World) (hn : n ≤ 1000000) (hb : Bytes w w.heap.size A n l) :
    Calls Try.prog 24 #[.slice A n c] w fun e w' => ∃ g, e = .returned (.pointer (some ⟨g, 0, none⟩)) ∧ RefR w' w.heap.size g l 0 ∧ Ext w w' := by
  have hll := hb.1
  subst hll
  have hM0 : Making w (w.alloc (.cells #[.slice none 0 0, .int .i64 0] 75)) w.heap.size l 0 :=
    ⟨.slice none 0 0, Whole.new w _ _, OwnB.nil _ _, by simp [Value.ownBlock], Nat.le_refl _, extNew w _⟩
  have HB := hide hb
  clear hb
  go_enter Try.func24, Try.ntmps24
  go_wp2
  go_loopw [4, 5, 6] (fun i _ _ wr => ∃ j : Nat, j ≤ l.length ∧ i = .int .i64 (j : Int) ∧ Making w wr w.heap.size l (8 * j)) (fun i _ _ _ => l.length - (intOf i).toNat)
  case atStart => exact ⟨0, by omega, rfl, hM0⟩
  case round =>
    obtain ⟨j, hj, rfl, hMk⟩ := hrel
    by_cases hlt : j < l.length
    · rcases HB.out.2 with h0 | ⟨b, off, rfl, hbl, hcells⟩
      · omega
      have hcell := hcells j hlt
      clear hcells
      go_wp2
      go_loopw [5, 6] (fun m k ww => ∃ d : Nat, d ≤ 8 ∧ m = .int .i64 ((128 / 2 ^ d : Nat) : Int) ∧ k = .int .i64 (d : Int) ∧ Making w ww w.heap.size l (8 * j + d)) (fun _ k _ => 8 - (intOf k).toNat)
      case atStart => exact ⟨0, by omega, rfl, rfl, hMk⟩
      case round =>
        obtain ⟨d, hd, rfl, rfl, v, hW, hO, hne, hge, hE⟩ := hrel
        by_cases hd8 : d < 8
        · have hc := (hE.cell hbl).trans hcell
          have hmask := Bit.mask d hd8
          have hbit := Bit.bit_int ((l.getD j 0).toNat / 2 ^ (7 - d)) ((l.getD j 0).toNat.testBit (7 - d)) (Bit.testBit_toNat _ _)
          have hat : Bit.at_ l (8 * j + d) = (l.getD j 0).toNat.testBit (7 - d) := by unfold Bit.at_; rw [show (8 * j + d) / 8 = j by omega, show (8 * j + d) % 8 = d by omega]
          have HS := hide (Bit.spread_succ l (8 * j + d))
          rw [hat] at HS
          have hnext : ((128 / 2 ^ d : Nat) : Int) / 2 = ((128 / 2 ^ (d + 1) : Nat) : Int) := by rw [Nat.pow_succ, ← Nat.div_div_eq_div_mul]; omega
          have Hnext := hide hnext
          have hpow : 0 < 2 ^ (7 - d) := Nat.two_pow_pos _
          rw [hmask] at Hnext
          have hdiv : ((l.getD j 0).toNat : Int) / ((2 ^ (7 - d) : Nat) : Int) = (((l.getD j 0).toNat / 2 ^ (7 - d) : Nat) : Int) := by rw [Int.natCast_ediv]
          rw [hmask]
          have hdivt : ((l.getD j 0).toNat : Int).tdiv ((2 ^ (7 - d) : Nat) : Int) = (((l.getD j 0).toNat / 2 ^ (7 - d) : Nat) : Int) := by rw [Int.tdiv_eq_ediv_of_nonneg (by omega)]; exact hdiv
          have hylt : (l.getD j 0).toNat / 2 ^ (7 - d) ≤ 255 := Nat.le_trans (Nat.div_le_self _ _) (by have := (l.getD j 0).toNat_lt; omega)
          have hcc : (l.getD j 0).toNat ≤ 255 := by have := (l.getD j 0).toNat_lt; omega
          have hM2 : 2 ^ (7 - d) ≤ 128 := Nat.le_trans (Nat.pow_le_pow_right (by omega) (show 7 - d ≤ 7 by omega)) (by decide)
          have hM1 : ¬ (2 ^ (7 - d) = 0) := Nat.ne_of_gt hpow
          have hlen : (Bit.spread l (8 * j + d)).length = 8 * j + d := Bit.spread_len _ _
          have hfit : (Bit.spread l (8 * j + d)).length + 1 ≤ 140737488355328 := by omega
          clear hat hnext hmask hlen
          generalize bit8 ((l.getD j 0).toNat.testBit (7 - d)) = bt at *
          generalize (l.getD j 0).toNat / 2 ^ (7 - d) = y at *
          generalize (l.getD j 0).toNat = cc at *
          generalize 2 ^ (7 - d) = M at *
          generalize Bit.spread l (8 * j + d) = Sp at *
          have hbt := bt.toNat_lt
          have a1 : IntKind.i64.wrap (cc : Int) = cc := by rw [IntKind.wrap_i64]; omega
          have a3 : IntKind.i64.wrap (y : Int) = y := by rw [IntKind.wrap_i64]; omega
          have a4 : (y : Int).tmod 2 = (bt.toNat : Int) := by rw [Int.tmod_eq_emod_of_nonneg (by omega)]; exact hbit
          have a5 : IntKind.u8.wrap (bt.toNat : Int) = (bt.toNat : Int) := by rw [IntKind.wrap_u8']; omega
          clear hdiv
          have d0 : wr.cell? ⟨w.heap.size, 0, none⟩ = some v := hW.at 0 rfl
          have hEa := extNew wr (.cells #[.int .u8 (bt.toNat : Int)] 5)
          have d0' : (wr.alloc (.cells #[.int .u8 (bt.toNat : Int)] 5)).cell? ⟨w.heap.size, 0, none⟩ = some v := (hW.ext hEa).at 0 rfl
          have hb1 := (Ext.refl (wr.alloc (.cells #[.int .u8 (bt.toNat : Int)] 5))).drew.bytes (bytesNew wr [bt] #[.int .u8 (bt.toNat : Int)] 5 (0, 0) rfl 1 rfl)
          have hEw : Ext wr (wr.alloc (.cells #[.int .u8 (bt.toNat : Int)] 5)).drew := hEa.drew
          have hOx := hO.ext hEw
          have hB1 : w.heap.size ≤ (wr.alloc (.cells #[.int .u8 (bt.toNat : Int)] 5)).drew.heap.size := (hE.trans hEw).le
          go_wp2
          go_region_law (refine step_appAt rfl (.tmp 23) (.tmp 33) rfl rfl hOx rfl hb1 hfit hB1 ?_; intro v2 w2 hO2 hG2' hN2'; have hG2 : (wr.alloc (.cells #[.int .u8 (bt.toNat : Int)] 5)).drew.grownBy w2 v.ownBlock := hG2'; have hN2 : NewOb (wr.alloc (.cells #[.int .u8 (bt.toNat : Int)] 5)).drew v.ownBlock v2.ownBlock := hN2'; clear hG2' hN2'; have hW2 := (hW.ext hEw).ownGrown hG2 hne; obtain ⟨A2, n2, c2, hv2, _, _, _⟩ := hO2.form'; subst hv2; have e0 := hW2.at 0 rfl; have f2 := hW2.frozen 0)
          all_goals (
            have hne2 : (Value.slice A2 n2 c2).ownBlock ≠ some w.heap.size := hN2.ne (Nat.lt_of_lt_of_le hW.lt hEw.le) hne
            have hMk2 : Making w (w2.setCell ⟨w.heap.size, 0, none⟩ (.slice A2 n2 c2)) w.heap.size l (8 * j + (d + 1)) := by
              refine ⟨.slice A2 n2 c2, hW2.set 0 _, ?_, hne2, Nat.le_refl _, ?_⟩
              · rw [← Nat.add_assoc, HS.out]
                exact hO2.far hne2 0 _
              · exact Ext.setCell (hOx.below (hE.trans hEw) hG2 hB1) (Nat.le_refl _) _
            have HMk := hide hMk2
            clear hMk2 hMk hM0
            go_wp2
            go_roundw
            case rel => exact ⟨d + 1, by omega, by rw [Hnext.out], by go_num, HMk.out⟩
            case measure => simp [intOf]; omega)
        · obtain rfl : d = 8 := by omega
          have HMk := hide (show Making w wr w.heap.size l (8 * (j + 1)) from ⟨v, hW, hO, hne, hge, hE⟩)
          clear hW hO hMk hM0
          go_wp2
          go_roundw
          case rel => exact ⟨j + 1, by omega, by go_num, HMk.out⟩
          case measure => simp [intOf]; omega
    · obtain rfl : j = l.length := by omega
      obtain ⟨v, hW, hO, hne, hge, hE⟩ := hMk
      go_wp2
      go_ret
      exact ⟨_, rfl, ⟨v, hW, hO, hne, hge, by omega, hn⟩, hE⟩
end Go.Proofs.Ytabhemmmefefgaa
