/- The law CrcTurned. -/
import Derived.Test.YtcoegdkkogoaiaaDoorCrcTurnMath
import Derived.Test.YtcoegdkkogoaiaaDoorLaid
namespace Go.Proofs.YtcoegdkkogoaiaaDoor
open Go.RowKit

theorem Crc.put_length (l : List UInt8) : (Crc.put l).length = l.length + 4 := by unfold Crc.put; rw [List.length_append]; rfl
theorem Crc.put_right (l : List UInt8) : Crc.right (Crc.put l) = true := by
  unfold Crc.right
  rw [Crc.put_length, show l.length + 4 - 4 = l.length by omega]
  have h1 : (Crc.put l).drop l.length = Crc.tail (Crc.sum l) := by unfold Crc.put; rw [List.drop_left' rfl]
  have h2 : (Crc.put l).take l.length = l := by unfold Crc.put; rw [List.take_left' rfl]
  rw [h1, h2]
  exact sameB_true rfl

set_option maxHeartbeats 2000000 in
theorem crcTurned_walk (A : Option Addr) (n c : Nat) (l : List UInt8) (at_ pat : Int) (w : World) (_hn : n ≤ c) (_hc : c ≤ maxLen) (hb : Bytes w w.heap.size A n l) (hat : (Lit.int .u16 at_).wf = true) (hpat : (Lit.int .u32 pat).wf = true) (ht : Tab w) :
    Calls Tryd.prog 6 #[.slice A n c, .int .u16 at_, .int .u32 pat] w fun e w' => e = .returned (.bool true) ∧ Below w.heap.size w w' := by
  have h0 := ht.pos
  have C0 := alive_gives h0 ht
  obtain ⟨ha0, ha1⟩ := bounds_u16 hat
  obtain ⟨hp0, hp1⟩ := bounds_u32 hpat
  obtain ⟨P, rfl⟩ := Int.eq_ofNat_of_zero_le hp0
  clear hat hpat hp0
  by_cases hbig : n > 3000
  · go_enter Tryd.func6, Tryd.ntmps6
    go_wp2_with (go_at_call 10; refine (C0 _ (Ext.refl _)).mono ?_; rintro e w1 ⟨rfl, hb1, _⟩)
    go_ret
    exact ⟨rfl, hb1⟩
  by_cases hz : P = 0
  · subst hz
    go_enter Tryd.func6, Tryd.ntmps6
    go_wp2_with (go_at_call 10; refine (C0 _ (Ext.refl _)).mono ?_; rintro e w1 ⟨rfl, hb1, _⟩)
    go_ret
    exact ⟨rfl, hb1⟩
  have hz' : ((P : Int) == 0) = false := by simpa using hz
  have hz0 : 0 < P := by omega
  clear hz
  have hll := hb.1
  have HPL := hide (show (Crc.put l).length = n + 4 by rw [Crc.put_length, hll])
  obtain ⟨N, hN⟩ : ∃ N, N = n + 4 := ⟨_, rfl⟩
  have hN4 : 4 ≤ N := by omega
  have hN5 : N ≤ 3004 := by omega
  rw [← hN] at HPL
  obtain ⟨f, hf⟩ : ∃ f : Nat, at_ % (8 * (N : Int)) = f := ⟨(at_ % (8 * (N : Int))).toNat, by have := Int.emod_nonneg at_ (show (8 * (N : Int)) ≠ 0 by omega); omega⟩
  have hfN : f < 8 * N := by have := Int.emod_lt_of_pos at_ (show (0 : Int) < 8 * (N : Int) by omega); omega
  clear hN
  go_enter Tryd.func6, Tryd.ntmps6
  go_wp2_with (go_at_call 10; refine (C0 _ (Ext.refl _)).mono ?_; rintro e w1 ⟨rfl, hE1, _⟩)
  refine (put_any _ _ _ l _ (by omega) (hE1.tab ht h0) (hE1.tab ht h0).pos (hE1.bytes hb)).mono ?_
  rintro e w2 ⟨v2, rfl, hown2, hX2⟩
  obtain ⟨g, c2, rfl, hg, hc2⟩ := hown2.formG (by rw [HPL.out]; omega)
  have hgw : w.heap.size ≤ g := Nat.le_trans hE1.le hg
  rw [HPL.out] at hc2
  have hE2 := hE1.trans hX2
  have hown2' := hown2.mono hE1.le
  rw [HPL.out] at hown2'
  rw [HPL.out]
  clear hE1 hown2 hX2 C0 hg
  have HPR := hide (Crc.put_right l)
  have HPU := hide (show (Crc.put l) = Crc.put l from rfl)
  have hP : P < 4294967296 := by omega
  have hfz := hide hf
  clear hf hll hb hp1
  generalize Crc.put l = p at *
  go_wp2_with fail
  rw [hfz.out]
  go_loopw [2, 9, 10] (fun x t i wr => ∃ k : Nat, k ≤ 32 ∧ i = .int .i64 k ∧ x = .int .u32 ((P / 2 ^ k : Nat) : Int) ∧ t = .bool (Crc.turned N f P k) ∧
      OwnB wr w.heap.size (.slice (some ⟨g, 0, none⟩) N c2) (Crc.flips p f P k) ∧ Ext w wr) (fun _ _ i _ => 32 - (intOf i).toNat)
  case atStart => exact ⟨0, by omega, rfl, by simp, rfl, hown2', hE2⟩
  case round =>
    obtain ⟨k, hk, rfl, rfl, rfl, hown, hE⟩ := hrel
    have HFL := hide (Crc.flips_length p f P k)
    by_cases hlt : k < 32
    · have hq : P / 2 ^ k ≤ P := Nat.div_le_self _ _
      have HQ := hide (show P / 2 ^ (k + 1) = P / 2 ^ k / 2 by rw [Nat.pow_succ, Nat.div_div_eq_div_mul])
      have HT := hide (show Crc.turned N f P (k + 1) = if Crc.hit N f P k then true else Crc.turned N f P k from rfl)
      have HF := hide (show Crc.flips p f P (k + 1) = if Crc.hit N f P k then Crc.flip (Crc.flips p f P k) (f + k) else Crc.flips p f P k by rw [← HPL.out]; rfl)
      have HH := hide (show Crc.hit N f P k = decide (P / 2 ^ k % 2 = 1 ∧ f + k < 8 * N) from rfl)
      generalize P / 2 ^ k = q at *
      generalize Crc.turned N f P k = t at *
      by_cases hbit : q % 2 = 1
      · by_cases hin : f + k < 8 * N
        · have hb1 : ((q : Int) % 2 == 1) = true := by simp; omega
          have hyes := hide (show Crc.hit N f P k = true by rw [HH.out]; simp [hbit, hin])
          have hin' : (f : Int) + k < 8 * N := by omega
          obtain ⟨e, he⟩ : ∃ e, e = (f + k) % 8 := ⟨_, rfl⟩
          obtain ⟨d, hd⟩ : ∃ d, d = (f + k) / 8 := ⟨_, rfl⟩
          have hfl := HFL.out
          rw [HPL.out] at hfl
          have hdN : d < N := by omega
          have he7 : e ≤ 7 := by omega
          have hei : ((f : Int) + k) % 8 = (e : Int) := by omega
          have hdi : ((f : Int) + k) / 8 = (d : Int) := by omega
          have HFl := hide (show Crc.flip (Crc.flips p f P k) (f + k) = (Crc.flips p f P k).set d ((Crc.flips p f P k).getD d 0 ^^^ UInt8.ofNat (2 ^ e)) by rw [hd, he]; rfl)
          have HED := hide he
          have HDD := hide hd
          clear hbit he hd
          generalize Crc.flips p f P k = L at *
          obtain ⟨hcell, hfro⟩ := hown.cell (i := d) (by omega)
          have hcs := hown.set d (L.getD d 0 ^^^ UInt8.ofNat (2 ^ e))
          have hEs := hE.setCell (i := d) hgw (.int .u8 (((L.getD d 0 ^^^ UInt8.ofNat (2 ^ e)).toNat : Nat) : Int))
          have hpe : 2 ^ e < 256 := Nat.lt_of_lt_of_le (Nat.pow_lt_pow_right (by omega) (by omega : e < 8)) (by decide)
          have hxr : bits .xor .u8 (((L.getD d 0).toNat : Nat) : Int) ((2 ^ e : Nat) : Int) = (((L.getD d 0 ^^^ UInt8.ofNat (2 ^ e)).toNat : Nat) : Int) := by
            rw [u8_xor_nat _ _ (L.getD d 0).toNat_lt hpe, UInt8.toNat_xor, UInt8.toNat_ofNat', Nat.mod_eq_of_lt hpe]
          have HCS := hide hcs
          have HES := hide hEs
          have HXR := hide hxr
          clear hcs hEs hxr hown
          generalize (L.getD d 0 ^^^ UInt8.ofNat (2 ^ e)) = y at *
          generalize L.getD d 0 = x at *
          go_wp2
          go_loopw [11, 12] (fun m j wx => ∃ i : Nat, i ≤ e ∧ j = .int .i64 i ∧ m = .int .u8 ((2 ^ i : Nat) : Int) ∧ wr = wx) (fun _ j _ => e - (intOf j).toNat)
          case atStart => exact ⟨0, by omega, rfl, rfl, rfl⟩
          case round =>
            obtain ⟨i, hi, rfl, rfl, rfl⟩ := hrel
            by_cases hie : i < e
            · have hpi : 2 ^ i ≤ 64 := Nat.le_trans (Nat.pow_le_pow_right (by omega) (by omega : i ≤ 6)) (by decide)
              have HP2 := hide (show 2 ^ (i + 1) = 2 * 2 ^ i by rw [Nat.pow_succ]; omega)
              generalize 2 ^ i = m at *
              go_wp2
              go_roundw
              case rel => exact ⟨i + 1, by omega, by go_num, by rw [HP2.out]; go_num, by trivial⟩
              case measure => simp [intOf]; omega
            · obtain rfl : i = e := by omega
              have hxr := HXR.out
              generalize 2 ^ i = m at *
              go_wp2
              go_roundw
              case rel => exact ⟨k + 1, by omega, by go_num, by rw [HQ.out]; go_num, by rw [HT.out, hyes.out]; rfl, by rw [HF.out, hyes.out, if_pos rfl, HFl.out]; exact HCS.out, HES.out⟩
              case measure => simp [intOf]; omega
        · have hb1 : ((q : Int) % 2 == 1) = true := by simp; omega
          have hin' : ¬ (f : Int) + k < 8 * N := by omega
          have hno := hide (show Crc.hit N f P k = false by rw [HH.out]; simp [hin])
          clear hbit hin
          go_wp2
          go_roundw
          case rel => exact ⟨k + 1, by omega, by go_num, by rw [HQ.out]; go_num, by rw [HT.out, hno.out]; rfl, by rw [HF.out, hno.out]; exact hown, hE⟩
          case measure => simp [intOf]; omega
      · have hb1 : ((q : Int) % 2 == 1) = false := by simp; omega
        have hno := hide (show Crc.hit N f P k = false by rw [HH.out]; simp [hbit])
        clear hbit
        go_wp2
        go_roundw
        case rel => exact ⟨k + 1, by omega, by go_num, by rw [HQ.out]; go_num, by rw [HT.out, hno.out]; rfl, by rw [HF.out, hno.out]; exact hown, hE⟩
        case measure => simp [intOf]; omega
    · obtain rfl : k = 32 := by omega
      have hfl := HFL.out
      rw [HPL.out] at hfl
      have HW := hide (Crc.turned_wrong p f P HPR.out (by rw [HPL.out]; omega))
      rw [HPL.out] at HW
      generalize Crc.flips p f P 32 = L at *
      obtain ⟨A4, c4, hv4, hc4, _, hb4⟩ := hown.form
      simp only [Value.slice.injEq] at hv4
      obtain ⟨rfl, hNL, rfl⟩ := hv4
      have hcut := cut_any _ _ _ L wr hc4 (by omega) (hE.tab ht h0) (hE.tab ht h0).pos hb4
      rw [hfl] at hcut
      have HC := hide hcut
      cases htt : Crc.turned N f P 32
      · have HTT := hide htt
        clear htt hcut hNL hfl
        go_wp2_with (go_at_call 15; refine HC.out.mono ?_; rintro e w5 ⟨v5, rfl, _, hX5⟩)
        go_ret
        exact ⟨rfl, hE.trans hX5⟩
      · have HTT := hide htt
        have hce : Crc.cutErr L = 5 := by
          unfold Crc.cutErr
          rw [if_neg (by omega), HW.out HTT.out]
          simp
        have HCE := hide hce
        clear htt hcut hNL hfl hce
        go_wp2_with (go_at_call 15; refine HC.out.mono ?_; rintro e w5 ⟨v5, rfl, _, hX5⟩; rw [HCE.out])
        go_ret
        exact ⟨rfl, hE.trans hX5⟩
end Go.Proofs.YtcoegdkkogoaiaaDoor
