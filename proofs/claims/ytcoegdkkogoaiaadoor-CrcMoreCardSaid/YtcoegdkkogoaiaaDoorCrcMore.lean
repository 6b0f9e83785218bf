/- The law CrcMore. -/
import Derived.Test.YtcoegdkkogoaiaaDoorCrcGives
import Derived.Test.YtcoegdkkogoaiaaDoorLaid
import Derived.Test.YtcoegdkkogoaiaaDoorOwn
import Derived.Deep.RegionWith
namespace Go.Proofs.YtcoegdkkogoaiaaDoor
open Go.RowKit

theorem Crc.more_flat (s : Nat) (ls : List (List UInt8)) : Crc.more s ls = Crc.more s [ls.flatten] := by simp [Crc.more, Crc.folds]
theorem flatten_take (ls : List (List UInt8)) (k : Nat) (h : k < ls.length) : (ls.take (k + 1)).flatten = (ls.take k).flatten ++ ls.getD k [] := by
  rw [List.take_succ_eq_append_getElem h, List.flatten_append, List.getD_eq_getElem?_getD, List.getElem?_eq_getElem h]
  simp

set_option maxHeartbeats 1000000 in
theorem crcMore_walk (sum : Int) (A : Option Addr) (n c : Nat) (ls : List (List UInt8)) (w : World) (hsum : (Lit.int .u32 sum).wf = true) (hn : n ≤ c) (_hc : c ≤ maxLen) (hb : Parts w w.heap.size A n ls) (ht : Tab w) :
    Calls Tryd.prog 4 #[.int .u32 sum, .slice A n c] w fun e w' => e = .returned (.bool true) ∧ Below w.heap.size w w' := by
  have h0 := ht.pos
  obtain ⟨hs0, hs1⟩ := bounds_u32 hsum
  obtain ⟨s, rfl⟩ := Int.eq_ofNat_of_zero_le hs0
  have hs : s < 4294967296 := by omega
  clear hsum hs0 hs1
  have C0 := alive_gives h0 ht
  by_cases hbig : n > 30
  · go_enter Tryd.func4, Tryd.ntmps4
    go_wp2_with (go_at_call 10; refine (C0 _ (Ext.refl _)).mono ?_; rintro e w1 ⟨rfl, hb1, _⟩)
    go_ret
    exact ⟨rfl, hb1⟩
  · have hHb := hide hb
    have hHt := hide ht
    have hbl := hb.1
    clear hb ht
    go_enter Tryd.func4, Tryd.ntmps4
    go_wp2_with (go_at_call 10; refine (C0 _ (Ext.refl _)).mono ?_; rintro e w1 ⟨rfl, hb1, _⟩)
    go_loopw [5, 6] (fun v i wr => ∃ k : Nat, k ≤ n ∧ i = .int .i64 k ∧ OwnB wr w1.heap.size v (ls.take k).flatten ∧ (ls.take k).flatten.length ≤ 300 * k ∧ Ext w1 wr) (fun _ i _ => n - (intOf i).toNat)
    case atStart => exact ⟨0, by omega, rfl, OwnB.nil _ _, by simp, Ext.refl _⟩
    case round =>
      obtain ⟨k, hk, rfl, hown, hlen, hE⟩ := hrel
      have hEw : Ext w wr := hb1.trans hE
      by_cases hlt : k < n
      · rcases hHb.out.2 with h00 | ⟨b, off, rfl, hB, hcells⟩
        · omega
        obtain ⟨A', n', c', hcell, hn', hby⟩ := hcells k hlt
        have hcell' : wr.cell? ⟨b, off + k, none⟩ = some (.slice A' n' c') := by rw [hEw.cell hB]; exact hcell
        have HF := hide (flatten_take ls k (by omega))
        have hzl := hby.1
        clear hcells hcell
        unfold maxLen at hn'
        by_cases hbig' : n' > 300
        · go_wp2
          go_ret
          exact ⟨rfl, hEw⟩
        · have hbr := hEw.bytes hby
          have hl1 : (ls.take k).flatten.length + n' ≤ 140737488355328 := by omega
          have hl2 := hE.le
          go_wp2_with (at_builtin; refine wpList_app rfl (.tmp 24) (.tmp 28) rfl rfl hown rfl hbr hl1 hl2 ?_; intro v' w2 hown' hgrow)
          have hE2 : Ext w1 w2 := hown.below hE hgrow hE.le
          have hlen2 : ((ls.take k).flatten ++ ls.getD k []).length ≤ 300 * (k + 1) := by rw [List.length_append, hzl]; omega
          rw [← HF.out] at hown' hlen2
          go_wp2
          go_roundw
          case rel => exact ⟨k + 1, by omega, by go_num, hown', hlen2, hE2⟩
          case measure => simp [intOf]; omega
      · obtain rfl : k = n := by omega
        rw [List.take_of_length_le (by omega : ls.length ≤ k)] at hown hlen
        obtain ⟨A2, c2, hv, hc2, hc2m, hby⟩ := hown.form
        subst hv
        have htr := hEw.tab hHt.out h0
        have h0r := htr.pos
        have hm1 : k ≤ maxLen := by unfold maxLen; omega
        have C1 := more_parts_gives c hs htr h0r hm1 (hHb.out.ext hEw)
        have C2 := refMore_gives c2 hs (hown.len_le) hby
        have C3 := more_gives (n := 1) (s := s) (vs := [.slice A2 ls.flatten.length c2]) (ls := [ls.flatten]) hs h0r htr rfl rfl (by omega) (by
          intro i hi
          obtain rfl : i = 0 := by omega
          exact ⟨_, _, _, rfl, hown.len_le, hby⟩)
        rw [Crc.more_flat] at C1
        generalize Crc.more s [ls.flatten] = S at *
        have H3 := hide C3
        clear C3 hlen hown hby htr
        generalize ls.flatten.length = m at *
        go_wp2_with (first
          | (go_at_call_of 13 (Value.slice A k c); refine (C1 _ (Ext.refl _)).mono ?_; rintro e w2 ⟨rfl, hb2, hx2⟩)
          | (go_at_call 14; refine (C2 _ (by first | assumption | exact Ext.refl _)).mono ?_; rintro e w3 ⟨rfl, hb3, hx3⟩)
          | (go_at_call 13; refine (H3.out _ (Ext.alloc (by assumption) _) _ _ (Laid.new _ _ _)).mono ?_; rintro e w4 ⟨rfl, hb4, hx4⟩))
        go_ret
        exact ⟨rfl, hEw.trans (by assumption)⟩
end Go.Proofs.YtcoegdkkogoaiaaDoor
