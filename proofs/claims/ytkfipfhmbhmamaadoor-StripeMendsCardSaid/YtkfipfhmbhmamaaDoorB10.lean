/- The contract of the library's slices.Clone at bytes. The contract of the library's slices.Equal at bytes. The contract of the library's slices.Clone at bytes (named uint8). -/
import Derived.Test.YtkfipfhmbhmamaaDoorB02
import Derived.Deep.QuietTactic
import Derived.BigQuiet
import Derived.Lib.SliceRun
namespace Go.Proofs.YtkfipfhmbhmamaaDoor
open Go.RowKit

set_option maxHeartbeats 1000000 in
theorem slicesClone_any (A : Option Addr) (n c : Nat) (l : List UInt8) (w : World) (hc : n ≤ c) (hn : n ≤ 140737488355328) (hb : Bytes w w.heap.size A n l) :
    Calls Tryd.prog 72 #[.slice A n c] w (MadeB w l) := by
  have hnil := fun (W : World) (a : Option Addr) (n c n' c' : Nat) => Lib.run_eql_slice_nil (P := Tryd.prog) W 27 5 a n c n' c' Tryd.underlying27
  rcases A with _ | ad
  · have hl : l = [] := by
      rcases hb.2 with h0 | ⟨_, _, h, _⟩
      · exact List.eq_nil_of_length_eq_zero (by rw [hb.1, h0])
      · cases h
    subst hl
    have hn0 : n = 0 := hb.1.symm
    subst hn0
    go_enter Tryd.func72, Tryd.ntmps72
    go_wp2
    go_ret
    exact ⟨_, rfl, OwnB.nil _ _, Ext.refl _⟩
  · have ho := OwnB.empty w (Nat.le_refl _)
    have hb' := (extNew w (.cells #[] 5)).bytes hb
    have hB : w.heap.size ≤ (w.alloc (.cells #[] 5)).heap.size := by simp
    have hl0 : ([] : List UInt8).length + n ≤ 140737488355328 := by simpa using hn
    have hE := extNew w (.cells #[] 5)
    go_enter Tryd.func72, Tryd.ntmps72
    go_wp2_with (at_builtin; refine wpList_app rfl (.tmp 5) (.tmp 6) rfl rfl ho rfl hb' hl0 hB ?_; intro v1 w1 hown1 hg1)
    go_ret
    exact ⟨v1, rfl, hown1, ho.below hE hg1 hB⟩
end Go.Proofs.YtkfipfhmbhmamaaDoor

namespace Go.Proofs.YtkfipfhmbhmamaaDoor
open Go.RowKit

theorem take_succ_eq {a b : List UInt8} {k : Nat} (ha : k < a.length) (hb : k < b.length) (h : a.take k = b.take k) (he : a.getD k 0 = b.getD k 0) : a.take (k + 1) = b.take (k + 1) := by
  rw [List.take_succ_eq_append_getElem ha, List.take_succ_eq_append_getElem hb, h]
  rw [List.getD_eq_getElem?_getD, List.getD_eq_getElem?_getD, List.getElem?_eq_getElem ha, List.getElem?_eq_getElem hb] at he
  have he' : a[k] = b[k] := by simpa using he
  rw [he']

set_option maxHeartbeats 1000000 in
theorem slicesEqual_any (A1 A2 : Option Addr) (n m c d : Nat) (a b : List UInt8) (w : World) (hn : n ≤ maxLen) (ha : Bytes w w.heap.size A1 n a) (hb : Bytes w w.heap.size A2 m b) :
    Calls Tryd.prog 71 #[.slice A1 n c, .slice A2 m d] w fun e w' => e = .returned (.bool (sameB a b)) ∧ Ext w w' := by
  unfold maxLen at hn
  obtain ⟨hla, ha⟩ := ha
  obtain ⟨hlb, hb⟩ := hb
  by_cases hnm : n = m
  · subst hnm
    have hne : ((n : Int) != (n : Int)) = false := by simp
    rcases ha with rfl | ⟨g, o, rfl, hg, hca⟩
    · have HS := hide (sameB_true (a := a) (b := b) (by rw [List.eq_nil_of_length_eq_zero hla, List.eq_nil_of_length_eq_zero hlb]))
      clear hb
      go_enter Tryd.func71, Tryd.ntmps71
      go_wp2
      go_loop [13] (fun i => i = .int .i64 0) (fun _ => 0)
      case atStart => rfl
      case round =>
        subst hrel
        go_wp2
        go_ret
        exact ⟨by rw [HS.out]; rfl, Ext.refl _⟩
    · rcases hb with h0 | ⟨g', o', rfl, hg', hcb⟩
      · subst h0
        have HS := hide (sameB_true (a := a) (b := b) (by rw [List.eq_nil_of_length_eq_zero hla, List.eq_nil_of_length_eq_zero hlb]))
        go_enter Tryd.func71, Tryd.ntmps71
        go_wp2
        go_loop [13] (fun i => i = .int .i64 0) (fun _ => 0)
        case atStart => rfl
        case round =>
          subst hrel
          go_wp2
          go_ret
          exact ⟨by rw [HS.out]; rfl, Ext.refl _⟩
      · go_enter Tryd.func71, Tryd.ntmps71
        go_wp2
        go_loopw [5, 13] (fun _ i wr => ∃ k : Nat, k ≤ n ∧ i = .int .i64 k ∧ a.take k = b.take k ∧ Ext w wr) (fun _ i _ => n - (intOf i).toNat)
        case atStart => exact ⟨0, by omega, rfl, by simp, Ext.refl _⟩
        case round =>
          obtain ⟨k, hk, rfl, htk, hE⟩ := hrel
          have HT := hide htk
          clear htk
          by_cases hlt : k < n
          · have c1 := hca k hlt
            have c2 := hcb k hlt
            rw [← hE.cell hg] at c1
            rw [← hE.cell hg'] at c2
            clear hca hcb
            have hk0 : (0 : Int) ≤ k := by omega
            have hk1 : (k : Int) < n := by omega
            by_cases hxy : a.getD k 0 = b.getD k 0
            · have HT2 := hide (take_succ_eq (by omega) (by omega) HT.out hxy)
              rw [← hxy] at c2
              clear hxy
              generalize a.getD k 0 = x at *
              have hxx : ((x.toNat : Int) != (x.toNat : Int)) = false := by simp
              go_wp2
              go_quiet (fail)
              go_wp2
              go_roundw
              case rel => exact ⟨k + 1, by omega, by go_num, HT2.out, hE.drewN _⟩
              case measure => simp [intOf]; omega
            · have HS := hide (sameB_false (a := a) (b := b) (fun h => hxy (by rw [h])))
              have hxy' : ((a.getD k 0).toNat : Int) ≠ ((b.getD k 0).toNat : Int) := fun h => hxy (UInt8.toNat_inj.1 (by omega))
              clear hxy
              generalize a.getD k 0 = x at *
              generalize b.getD k 0 = y at *
              have hxx : ((x.toNat : Int) != (y.toNat : Int)) = true := by simpa using hxy'
              clear hxy'
              go_wp2
              go_quiet (fail)
              go_wp2
              go_ret
              exact ⟨by rw [HS.out]; rfl, hE.drewN _⟩
          · obtain rfl : k = n := by omega
            have HS := hide (sameB_true (a := a) (b := b) (by have := HT.out; rwa [List.take_of_length_le (by omega), List.take_of_length_le (by omega)] at this))
            go_wp2
            go_ret
            exact ⟨by rw [HS.out]; rfl, hE⟩
  · have HS := hide (sameB_false (a := a) (b := b) (fun h => hnm (by rw [← hla, ← hlb, h])))
    have hne : ((n : Int) != (m : Int)) = true := by simpa using fun h => hnm (by omega)
    go_enter Tryd.func71, Tryd.ntmps71
    go_wp2
    go_ret
    exact ⟨by rw [HS.out]; rfl, Ext.refl _⟩

end Go.Proofs.YtkfipfhmbhmamaaDoor

namespace Go.Proofs.YtkfipfhmbhmamaaDoor
open Go.RowKit

set_option maxHeartbeats 1000000 in
theorem sliceClone8_any (A : Option Addr) (n c : Nat) (l : List UInt8) (w : World) (hc : n ≤ c) (hn : n ≤ 140737488355328) (hb : Bytes w w.heap.size A n l) :
    Calls Tryd.prog 72 #[.slice A n c] w (MadeB w l) := by
  have hnil := fun (W : World) (a : Option Addr) (n c n' c' : Nat) => Lib.run_eql_slice_nil (P := Tryd.prog) W 27 5 a n c n' c' Tryd.underlying27
  rcases A with _ | ad
  · have hl : l = [] := by
      rcases hb.2 with h0 | ⟨_, _, h, _⟩
      · exact List.eq_nil_of_length_eq_zero (by rw [hb.1, h0])
      · cases h
    subst hl
    have hn0 : n = 0 := hb.1.symm
    subst hn0
    go_enter Tryd.func72, Tryd.ntmps72
    go_wp2
    go_ret
    exact ⟨_, rfl, OwnB.nil _ _, Ext.refl _⟩
  · have ho := OwnB.empty w (Nat.le_refl _)
    have hb' := (extNew w (.cells #[] 5)).bytes hb
    have hB : w.heap.size ≤ (w.alloc (.cells #[] 5)).heap.size := by simp
    have hl0 : ([] : List UInt8).length + n ≤ 140737488355328 := by simpa using hn
    have hE := extNew w (.cells #[] 5)
    go_enter Tryd.func72, Tryd.ntmps72
    go_wp2_with (at_builtin; refine wpList_app rfl (.tmp 5) (.tmp 6) rfl rfl ho rfl hb' hl0 hB ?_; intro v1 w1 hown1 hg1)
    go_ret
    exact ⟨v1, rfl, hown1, ho.below hE hg1 hB⟩
end Go.Proofs.YtkfipfhmbhmamaaDoor

