/- The law CrcCuts. -/
import Derived.Test.YtcoegdkkogoaiaaDoorCrcCut
import Derived.Test.YtcoegdkkogoaiaaDoorLaid
namespace Go.Proofs.YtcoegdkkogoaiaaDoor
open Go.RowKit

set_option maxHeartbeats 1000000 in
theorem crcCuts_walk (A : Option Addr) (n c : Nat) (l : List UInt8) (w : World) (hn : n ≤ c) (_hc : c ≤ maxLen) (hb : Bytes w w.heap.size A n l) (ht : Tab w) :
    Calls Tryd.prog 5 #[.slice A n c] w fun e w' => e = .returned (.bool true) ∧ Below w.heap.size w w' := by
  have h0 := ht.pos
  have C0 := alive_gives h0 ht
  by_cases hbig : n > 5000
  · go_enter Tryd.func5, Tryd.ntmps5
    go_wp2_with (go_at_call 10; refine (C0 _ (Ext.refl _)).mono ?_; rintro e w1 ⟨rfl, hb1, _⟩)
    go_ret
    exact ⟨rfl, hb1⟩
  · have hll := hb.1
    have hpl : (Crc.put l).length = n + 4 := by unfold Crc.put; rw [List.length_append]; simp [Crc.tail, hll]
    have hcp := Crc.cut_put l
    obtain ⟨hcp1, hcp2⟩ := hcp
    have HC1 := hide hcp1
    have HC2 := hide hcp2
    have HPL := hide hpl
    clear hcp1 hcp2 hpl hll
    go_enter Tryd.func5, Tryd.ntmps5
    go_wp2_with (go_at_call 10; refine (C0 _ (Ext.refl _)).mono ?_; rintro e w1 ⟨rfl, hE1, _⟩)
    refine (cut_any _ _ _ l _ hn (by omega) (hE1.tab ht h0) (hE1.tab ht h0).pos (hE1.bytes hb)).mono ?_
    rintro e w2 ⟨v2, rfl, hown2, hX2⟩
    obtain ⟨A2, n2, c2, rfl, _, _, hb2⟩ := hown2.form'
    have hE2 := hE1.trans hX2
    clear hE1 hown2 hX2 C0
    go_wp2_with fail
    refine (refCut_any _ _ _ l _ hn (by omega) (hE2.bytes hb)).mono ?_
    rintro e w3 ⟨v3, rfl, hown3, hX3⟩
    obtain ⟨A3, n3, c3, rfl, _, _, hb3⟩ := hown3.form'
    have hE3 := hE2.trans hX3
    replace hb2 := hX3.bytes hb2
    clear hE2 hown3 hX3
    go_wp2_with fail
    refine (put_any _ _ _ l _ (by omega) (hE3.tab ht h0) (hE3.tab ht h0).pos (hE3.bytes hb)).mono ?_
    rintro e w4 ⟨v4, rfl, hown4, hX4⟩
    obtain ⟨A4, n4, c4, rfl, hc4, hn4, hb4⟩ := hown4.form'
    have hE4 := hE3.trans hX4
    replace hb2 := hX4.bytes hb2
    replace hb3 := hX4.bytes hb3
    rw [HPL.out] at hn4
    have hn4' : n4 ≤ 1000000 := by omega
    clear hE3 hown4 hX4 hn4
    go_wp2_with fail
    refine (cut_any _ _ _ (Crc.put l) _ hc4 hn4' (hE4.tab ht h0) (hE4.tab ht h0).pos hb4).mono ?_
    rintro e w5 ⟨v5, rfl, hown5, hX5⟩
    obtain ⟨A5, n5, c5, rfl, _, _, hb5⟩ := hown5.form'
    have hE5 := hE4.trans hX5
    replace hb2 := hX5.bytes hb2
    replace hb3 := hX5.bytes hb3
    replace hb4 := hX5.bytes hb4
    rw [HC1.out]
    rw [HC2.out] at hb5
    have hee : (Crc.cutErr l == Crc.cutErr l) = true := by simp
    clear hE4 hown5 hX5
    generalize Crc.cutErr l = err at *
    go_wp2_with fail
    refine (same_gives _ _ rfl hb2 hb3 _ (Ext.refl _)).mono ?_
    rintro e w6 ⟨rfl, hE6, _⟩
    replace hb4 := hE6.bytes hb4
    replace hb5 := hE6.bytes hb5
    replace hE6 := hE5.trans hE6
    clear hE5 hb2 hb3
    go_wp2_with fail
    refine (refPut_any _ _ _ l _ (by omega) (hE6.bytes hb)).mono ?_
    rintro e w7 ⟨v7, rfl, hown7, hX7⟩
    obtain ⟨A7, n7, c7, rfl, _, _, hb7⟩ := hown7.form'
    have hE7 := hE6.trans hX7
    replace hb4 := hX7.bytes hb4
    replace hb5 := hX7.bytes hb5
    clear hE6 hown7 hX7
    go_wp2_with fail
    refine (same_gives _ _ rfl hb4 hb7 _ (Ext.refl _)).mono ?_
    rintro e w8 ⟨rfl, hE8, _⟩
    replace hb5 := hE8.bytes hb5
    replace hE8 := hE7.trans hE8
    clear hE7 hb4 hb7
    go_wp2_with fail
    refine (same_gives _ _ rfl hb5 (hE8.bytes hb) _ (Ext.refl _)).mono ?_
    rintro e w9 ⟨rfl, hE9, _⟩
    go_wp2
    go_ret
    exact ⟨rfl, hE8.trans hE9⟩
end Go.Proofs.YtcoegdkkogoaiaaDoor
