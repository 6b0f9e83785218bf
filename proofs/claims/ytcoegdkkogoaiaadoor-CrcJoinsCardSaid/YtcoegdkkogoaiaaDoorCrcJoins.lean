/- The law CrcJoins. -/
import Derived.Test.YtcoegdkkogoaiaaDoorCrcJoin4
import Derived.Test.YtcoegdkkogoaiaaDoorOwn
import Derived.Test.YtcoegdkkogoaiaaDoorLaid
namespace Go.Proofs.YtcoegdkkogoaiaaDoor
open Go.RowKit

set_option maxHeartbeats 1000000 in
theorem crcJoins_walk (A1 : Option Addr) (n1 c1 : Nat) (l1 : List UInt8) (A2 : Option Addr) (n2 c2 : Nat) (l2 : List UInt8) (w : World)
    (_hn1 : n1 ≤ c1) (_hc1 : c1 ≤ maxLen) (hb1 : Bytes w w.heap.size A1 n1 l1) (_hn2 : n2 ≤ c2) (_hc2 : c2 ≤ maxLen) (hb2 : Bytes w w.heap.size A2 n2 l2) (ht : Tab w) :
    Calls Tryd.prog 8 #[.slice A1 n1 c1, .slice A2 n2 c2] w fun e w' => e = .returned (.bool true) ∧ Below w.heap.size w w' := by
  have h0 := ht.pos
  have C0 := alive_gives h0 ht
  by_cases hbig : n1 > 3000
  · go_enter Tryd.func8, Tryd.ntmps8
    go_wp2_with (go_at_call 10; refine (C0 _ (Ext.refl _)).mono ?_; rintro e w1 ⟨rfl, hE1, _⟩)
    go_ret
    exact ⟨rfl, hE1⟩
  by_cases hbig2 : n2 > 3000
  · go_enter Tryd.func8, Tryd.ntmps8
    go_wp2_with (go_at_call 10; refine (C0 _ (Ext.refl _)).mono ?_; rintro e w1 ⟨rfl, hE1, _⟩)
    go_ret
    exact ⟨rfl, hE1⟩
  have hl1 := hb1.1
  have hl2 := hb2.1
  have hnm1 : n1 ≤ maxLen := by unfold maxLen; omega
  have hnm2 : n2 ≤ maxLen := by unfold maxLen; omega
  have C1 := sum_gives c1 hnm1 h0 ht hb1
  have C2 := sum_gives c2 hnm2 h0 ht hb2
  have s1 := Crc.sum_le l1
  have s2 := Crc.sum_le l2
  have C3 := join_gives (w := w) (a := Crc.sum l1) (b := Crc.sum l2) (N := n2) (by omega) (by omega) (by omega) ht h0
  rw [← hl2, Crc.sum_join, hl2] at C3
  have h12 : ([] ++ l1 : List UInt8).length + n2 ≤ 140737488355328 := by simp; omega
  have h11 : ([] : List UInt8).length + n1 ≤ 140737488355328 := by simp; omega
  have HL := hide (show ([] ++ l1 ++ l2 : List UInt8).length = n1 + n2 by simp; omega)
  have HS := hide (show ([] ++ l1 ++ l2 : List UInt8) = l1 ++ l2 by simp)
  generalize Crc.sum l1 = S1 at *
  generalize Crc.sum l2 = S2 at *
  clear hl1 hl2
  go_enter Tryd.func8, Tryd.ntmps8
  go_wp2_with (first
    | (go_at_call 10; refine (C0 _ (Ext.refl _)).mono ?_; rintro e w1 ⟨rfl, hE1, _⟩; have ho1 := OwnB.nil w1 w.heap.size; have hq1 := hE1.bytes hb1)
    | (at_builtin; refine wpList_app rfl (.tmp 16) (.tmp 17) rfl rfl ho1 rfl hq1 h11 hE1.le ?_; intro v2 w2 hown2 hg2; have hE2 : Ext w w2 := ho1.below hE1 hg2 hE1.le; have hq2 := hE2.bytes hb2)
    | (at_builtin; refine wpList_app rfl (.tmp 18) (.tmp 19) rfl rfl hown2 rfl hq2 h12 hE2.le ?_; intro v3 w3 hown3 hg3; have hE3 : Ext w w3 := hown2.below hE2 hg3 hE2.le; obtain ⟨A3, n3, c3, hv3, _, hn3, hq3⟩ := hown3.form'; subst hv3; rw [HL.out] at hn3)
    | (go_at_call_of 11 (Value.slice A1 n1 c1); refine (C1 _ hE3).mono ?_; rintro e w4 ⟨rfl, hE4, hX4⟩)
    | fail)
  go_wp2_with fail
  refine (C2 _ hE4).mono ?_
  rintro e w5 ⟨rfl, hE5, hX5⟩
  go_wp2_with fail
  refine (C3 _ hE5).mono ?_
  rintro e w6 ⟨rfl, hE6, hX6⟩
  go_wp2_with fail
  rw [HS.out] at hq3
  refine (refSum_gives c3 (by unfold maxLen; omega) (((hq3 |> hX4.bytes) |> hX5.bytes) |> hX6.bytes) _ (Ext.refl _)).mono ?_
  rintro e w7 ⟨rfl, hE7, _⟩
  go_wp2
  go_ret
  exact ⟨rfl, hE6.trans hE7⟩
end Go.Proofs.YtcoegdkkogoaiaaDoor
