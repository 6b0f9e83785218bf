/- The law CrcSums. -/
import Derived.Test.YtcoegdkkogoaiaaDoorCrcGives
import Derived.Test.YtcoegdkkogoaiaaDoorLaid
import Derived.Deep.RegionHeld3
import Derived.Deep.RegionWith
namespace Go.Proofs.YtcoegdkkogoaiaaDoor
open Go.RowKit

attribute [local go_sem ↓] run_cut

set_option maxHeartbeats 1000000 in
theorem crcSums_walk (A : Option Addr) (n c : Nat) (l : List UInt8) (cut : Int) (w : World) (hn : n ≤ c) (hc : c ≤ maxLen) (hb : Bytes w w.heap.size A n l) (hcut : (Lit.int .u16 cut).wf = true) (ht : Tab w) :
    Calls Tryd.prog 3 #[.slice A n c, .int .u16 cut] w fun e w' => e = .returned (.bool true) ∧ Below w.heap.size w w' := by
  have h0 := ht.pos
  unfold maxLen at hc
  have hcut' := bounds_u16 hcut
  obtain ⟨hc0, hc1⟩ := hcut'
  clear hcut
  have C0 := alive_gives h0 ht
  by_cases hbig : n > 5000
  · go_enter Tryd.func3, Tryd.ntmps3
    go_wp2_with (go_at_call 10; refine (C0 _ (Ext.refl _)).mono ?_; rintro e w1 ⟨rfl, hb1, _⟩)
    go_ret
    exact ⟨rfl, hb1⟩
  · obtain ⟨k, hk⟩ : ∃ k : Nat, cut % ((n : Int) + 1) = k := ⟨(cut % ((n : Int) + 1)).toNat, by have := Int.emod_nonneg cut (show ((n : Int) + 1) ≠ 0 by omega); omega⟩
    have hkn : k ≤ n := by have := Int.emod_lt_of_pos cut (show (0 : Int) < (n : Int) + 1 by omega); omega
    have hkn' : (k : Int) ≤ n := by omega
    have hkc' : (k : Int) ≤ c := by omega
    have hk0 : (0 : Int) ≤ k := by omega
    have hnm : n ≤ maxLen := by unfold maxLen; omega
    have hkm : k ≤ maxLen := by omega
    have P1 : Part w (.slice A k c) (l.take k) := ⟨_, _, _, rfl, hkm, hb.take hkn⟩
    have P2 : Part w (.slice (cutAt A c k) (n - k) (c - k)) (l.drop k) := ⟨_, _, _, rfl, by omega, hb.drop hkn hn⟩
    have P3 : Part w (.slice none 0 0) [] := ⟨_, _, _, rfl, by omega, Bytes.none _ _ _⟩
    have C1 := sum_gives c hnm h0 ht hb
    have C2 := refSum_gives c hnm hb
    have C3 := sum_gives c hkm h0 ht (hb.take hkn)
    have C4 := more_gives (n := 1) (s := Crc.sum (l.take k)) (vs := [.slice (cutAt A c k) (n - k) (c - k)]) (ls := [l.drop k]) (by have := Crc.sum_le (l.take k); omega) h0 ht rfl rfl (by omega) (by
      intro i hi
      obtain rfl : i = 0 := by omega
      exact P2)
    have C5 := more_none_gives (s := Crc.sum l) (by have := Crc.sum_le l; omega) h0 ht
    have C6 := more_gives (n := 3) (s := 0) (vs := [.slice A k c, .slice none 0 0, .slice (cutAt A c k) (n - k) (c - k)]) (ls := [l.take k, [], l.drop k]) (by omega) h0 ht rfl rfl (by omega) (by
      intro i hi
      rcases (by omega : i = 0 ∨ i = 1 ∨ i = 2) with rfl | rfl | rfl
      · exact P1
      · exact P3
      · exact P2)
    rw [Crc.more_sum] at C4
    rw [Crc.more_nothing] at C5
    rw [Crc.more_zero] at C6
    simp only [List.flatten_cons, List.flatten_nil, List.append_nil, List.nil_append, List.take_append_drop] at C4 C6
    clear P1 P2 P3
    generalize Crc.sum l = S at *
    generalize Crc.sum (l.take k) = T at *
    have H4 := hide C4
    have H6 := hide C6
    clear C4 C6
    go_enter Tryd.func3, Tryd.ntmps3
    go_wp2_with (go_at_call 10; refine (C0 _ (Ext.refl _)).mono ?_; rintro e w1 ⟨rfl, hb1, _⟩)
    go_region_held3 (fun w' => Ext w w') (first | assumption | exact Ext.drew (by assumption) | exact Ext.alloc (by assumption) _) (first
      | (go_at_call_of 11 (Value.slice A n c); refine (C1 _ (by assumption)).mono ?_; rintro e w2 ⟨rfl, hb2, hx2⟩)
      | (go_at_call_of 11 (Value.slice A k c); refine (C3 _ (by assumption)).mono ?_; rintro e w2 ⟨rfl, hb2, hx2⟩)
      | (go_at_call 12; refine (C2 _ (by assumption)).mono ?_; rintro e w2 ⟨rfl, hb2, hx2⟩)
      | (go_at_call_of 13 (Value.slice none 0 0); refine (C5 _ (by assumption)).mono ?_; rintro e w2 ⟨rfl, hb2, hx2⟩)
      | (go_at_call_of 13 (Value.int .u32 0); refine (H6.out _ (by assumption) _ _ ?_).mono ?_; (first | exact Laid.new _ _ _ | exact (Laid.new _ _ _).ext (by assumption)); rintro e w2 ⟨rfl, hb2, hx2⟩)
      | (go_at_call 13; refine (H4.out _ (by assumption) _ _ ?_).mono ?_; (first | exact Laid.new _ _ _ | exact (Laid.new _ _ _).ext (by assumption)); rintro e w2 ⟨rfl, hb2, hx2⟩))
    all_goals go_wp2
    all_goals go_ret
    all_goals exact ⟨rfl, by assumption⟩
end Go.Proofs.YtcoegdkkogoaiaaDoor
