/- Contracts of the cut of a sum, the program's and the document's. -/
import Derived.Test.YtkfipfhmbhmamaaDoorB09
import Derived.Test.YtkfipfhmbhmamaaDoorB10
import Derived.Deep.RegionHeld3
import Derived.Deep.RegionWith
namespace Go.Proofs.YtkfipfhmbhmamaaDoor
open Go.RowKit
attribute [local go_sem ↓] run_cut

/-- Does a right sum stand behind these bytes? -/
def Crc.right (l : List UInt8) : Bool := sameB (l.drop (l.length - 4)) (Crc.tail (Crc.sum (l.take (l.length - 4))))
def Crc.cutErr (l : List UInt8) : Int := if l.length < 4 then 1 else if Crc.right l then 0 else 5
def Crc.cutBytes (l : List UInt8) : List UInt8 := if l.length < 4 then [] else if Crc.right l then l.take (l.length - 4) else []
/-- Behind a cut: new bytes, and an error's number. -/
def CutB (w : World) (l : List UInt8) (e : Ending) (w' : World) : Prop := ∃ v, e = .returned (.tuple #[v, .int .i64 (Crc.cutErr l)]) ∧ OwnB w' w.heap.size v (Crc.cutBytes l) ∧ Ext w w'

theorem ret_verr {v : Value} {a b : Int} (h : a = b) : Ending.returned (.tuple #[v, .int .i64 a]) = .returned (.tuple #[v, .int .i64 b]) := by rw [h]
theorem sumAsBytes_gives {w : World} {s : Nat} (h : s < 4294967296) (W : World) (hE : Ext w W) : Calls Tryd.prog 45 #[.int .u32 s] W fun e w' => ∃ A c, e = .returned (.slice A 4 c) ∧ Bytes w' w'.heap.size A 4 (Crc.tail s) ∧ Ext w w' ∧ Ext W w' :=
  (sumAsBytes_any s W h).mono fun e w' ⟨v, he, ho, hE'⟩ => by
    obtain ⟨A, c, rfl, _, _, hb⟩ := ho.form
    exact ⟨A, c, he, hb, hE.trans hE', hE'⟩

set_option maxHeartbeats 1000000 in
theorem cut_any (A : Option Addr) (n c : Nat) (l : List UInt8) (w : World) (hc : n ≤ c) (hn : n ≤ 1000000) (ht : Tab w) (h0 : 0 < w.heap.size) (hb : Bytes w w.heap.size A n l) :
    Calls Tryd.prog 51 #[.slice A n c] w (CutB w l) := by
  have hll := hb.1
  by_cases hs : n < 4
  · have HE := hide (show Crc.cutErr l = 1 by simp [Crc.cutErr, hll, hs])
    have HB := hide (show Crc.cutBytes l = [] by simp [Crc.cutBytes, hll, hs])
    go_enter Tryd.func51, Tryd.ntmps51
    go_wp2
    go_ret2
    exact ⟨_, ret_verr HE.out.symm, by rw [HB.out]; exact OwnB.nil _ _, Ext.refl _⟩
  · obtain ⟨k, hk⟩ : ∃ k, k + 4 = n := ⟨n - 4, by omega⟩
    have hk' : (n : Int) - 4 = (k : Int) := by omega
    have hkn' : (k : Int) ≤ n := by omega
    have hkc' : (k : Int) ≤ c := by omega
    have hk0 : (0 : Int) ≤ k := by omega
    have hb1 := hb.drop (k := k) (by omega) hc
    have hb2 := hb.take (k := k) (by omega)
    have C1 := sum_gives c (by unfold maxLen; omega) h0 ht hb2
    have hS := Crc.sum_le (l.take k)
    have hR : Crc.right l = sameB (l.drop k) (Crc.tail (Crc.sum (l.take k))) := by unfold Crc.right; rw [hll, show n - 4 = k by omega]
    have hE0 : ¬ l.length < 4 := by omega
    have HEB := hide (show Crc.cutErr l = (if Crc.right l then 0 else 5) ∧ Crc.cutBytes l = (if Crc.right l then l.take k else []) by
      unfold Crc.cutErr Crc.cutBytes; rw [if_neg hE0, if_neg hE0, hll, show n - 4 = k by omega]; exact ⟨rfl, rfl⟩)
    clear hE0
    generalize Crc.sum (l.take k) = S at *
    have hS' : S < 4294967296 := by omega
    have C2 : ∀ W, Ext w W → ∀ A4 c4, Bytes W W.heap.size A4 4 (Crc.tail S) → Calls Tryd.prog 71 #[.slice (cutAt A c k) (n - k) (c - k), .slice A4 4 c4] W fun e w' => e = .returned (.bool (Crc.right l)) ∧ Ext w w' ∧ Ext W w' :=
      fun W hW A4 c4 h4 => (slicesEqual_any _ _ _ _ _ _ _ _ W (by unfold maxLen; omega) (hW.bytes hb1) h4).mono fun e w' ⟨he, hw⟩ => ⟨by rw [hR]; exact he, hW.trans hw, hw⟩
    clear hR
    generalize hr : Crc.right l = r at *
    have H2 := hide C2
    have HR := hide hr
    clear C2 hr
    cases r
    · have HE := hide (show Crc.cutErr l = 5 by simpa using HEB.out.1)
      have HB := hide (show Crc.cutBytes l = [] by simpa using HEB.out.2)
      clear HEB
      go_enter Tryd.func51, Tryd.ntmps51
      go_wp2_with fail
      go_region_held3 (fun w' => Ext w w') (first | assumption | exact Ext.refl _ | exact (Ext.refl _).drew | exact Ext.drew (by assumption)) (first
        | (go_at_call 46; refine (C1 _ (by assumption)).mono ?_; rintro e w2 ⟨rfl, hz2, hx2⟩)
        | (go_at_call 45; refine (sumAsBytes_gives hS' _ (by assumption)).mono ?_; rintro e w3 ⟨A4, c4, rfl, hq4, hz3, hx3⟩)
        | (go_at_call 71; refine (H2.out _ (by assumption) _ _ (by assumption)).mono ?_; rintro e w4 ⟨rfl, hz5, hx5⟩))
      go_wp2
      go_ret2
      exact ⟨_, ret_verr HE.out.symm, by rw [HB.out]; exact OwnB.nil _ _, by assumption⟩
    · have HE := hide (show Crc.cutErr l = 0 by simpa using HEB.out.1)
      have HB := hide (show Crc.cutBytes l = l.take k by simpa using HEB.out.2)
      clear HEB
      go_enter Tryd.func51, Tryd.ntmps51
      go_wp2_with fail
      go_region_held3 (fun w' => Ext w w') (first | assumption | exact Ext.refl _ | exact (Ext.refl _).drew | exact Ext.drew (by assumption)) (first
        | (go_at_call 46; refine (C1 _ (by assumption)).mono ?_; rintro e w2 ⟨rfl, hz2, hx2⟩)
        | (go_at_call 45; refine (sumAsBytes_gives hS' _ (by assumption)).mono ?_; rintro e w3 ⟨A4, c4, rfl, hq4, hz3, hx3⟩)
        | (go_at_call 71; refine (H2.out _ (by assumption) _ _ (by assumption)).mono ?_; rintro e w4 ⟨rfl, hz5, hx5⟩))
      go_wp2_with (go_at_call 72; refine (slicesClone_any _ _ _ _ _ (by omega) (by omega) (Ext.bytes (by assumption) hb2)).mono ?_; rintro e w6 ⟨v6, rfl, hown6, hE6⟩)
      go_ret2
      exact ⟨_, ret_verr HE.out.symm, by rw [HB.out]; exact OwnB.mono hown6 (Ext.le (by assumption)), Ext.trans (by assumption) hE6⟩

theorem Crc.right_put {l : List UInt8} {k : Nat} (hk : k + 4 = l.length) : sameB (Crc.put (l.take k)) l = Crc.right l := by
  unfold Crc.right Crc.put
  rw [show l.length - 4 = k by omega]
  by_cases h : l.drop k = Crc.tail (Crc.sum (l.take k))
  · rw [sameB_true h, sameB_true]
    rw [← h, List.take_append_drop]
  · rw [sameB_false h, sameB_false]
    intro e
    apply h
    have e2 := congrArg (List.drop k) e
    rw [List.drop_left' (by rw [List.length_take]; omega)] at e2
    exact e2.symm

set_option maxHeartbeats 1000000 in
theorem refCut_any (A : Option Addr) (n c : Nat) (l : List UInt8) (w : World) (hc : n ≤ c) (hn : n ≤ 1000000) (hb : Bytes w w.heap.size A n l) :
    Calls Tryd.prog 19 #[.slice A n c] w (CutB w l) := by
  have hll := hb.1
  by_cases hs : n < 4
  · have HE := hide (show Crc.cutErr l = 1 by simp [Crc.cutErr, hll, hs])
    have HB := hide (show Crc.cutBytes l = [] by simp [Crc.cutBytes, hll, hs])
    go_enter Tryd.func19, Tryd.ntmps19
    go_wp2
    go_ret2
    exact ⟨_, ret_verr HE.out.symm, by rw [HB.out]; exact OwnB.nil _ _, Ext.refl _⟩
  · obtain ⟨k, hk⟩ : ∃ k, k + 4 = n := ⟨n - 4, by omega⟩
    have hk' : (n : Int) - 4 = (k : Int) := by omega
    have hkn' : (k : Int) ≤ n := by omega
    have hkc' : (k : Int) ≤ c := by omega
    have hk0 : (0 : Int) ≤ k := by omega
    have hb2 := hb.take (k := k) (by omega)
    have hR := Crc.right_put (l := l) (k := k) (by omega)
    have hE0 : ¬ l.length < 4 := by omega
    have HEB := hide (show Crc.cutErr l = (if Crc.right l then 0 else 5) ∧ Crc.cutBytes l = (if Crc.right l then l.take k else []) by
      unfold Crc.cutErr Crc.cutBytes; rw [if_neg hE0, if_neg hE0, hll, show n - 4 = k by omega]; exact ⟨rfl, rfl⟩)
    clear hE0
    have C2 : ∀ W, Ext w W → ∀ A4 n4 c4, Bytes W W.heap.size A4 n4 (Crc.put (l.take k)) → Calls Tryd.prog 14 #[.slice A4 n4 c4, .slice A n c] W fun e w' => e = .returned (.bool (Crc.right l)) ∧ Ext w w' ∧ Ext W w' :=
      fun W hW A4 n4 c4 h4 => (same_any _ _ _ _ _ _ _ _ W h4 (hW.bytes hb)).mono fun e w' ⟨he, hw⟩ => ⟨by rw [← hR]; exact he, hW.trans hw, hw⟩
    clear hR
    generalize hr : Crc.right l = r at *
    have H2 := hide C2
    have HR := hide hr
    clear C2 hr
    have hkm : k ≤ 1000000 := by omega
    cases r
    · have HE := hide (show Crc.cutErr l = 5 by simpa using HEB.out.1)
      have HB := hide (show Crc.cutBytes l = [] by simpa using HEB.out.2)
      clear HEB
      go_enter Tryd.func19, Tryd.ntmps19
      go_wp2_with (first
        | (go_at_call 20; refine (refCrcPut_any _ _ _ _ _ hkm hb2).mono ?_; rintro e w2 ⟨v2, rfl, hown2, hx2⟩; obtain ⟨A2, c2, hv2, _, _, hq2⟩ := hown2.form; subst hv2)
        | (go_at_call 14; refine (H2.out _ hx2 _ _ _ hq2).mono ?_; rintro e w4 ⟨rfl, hz5, hx5⟩))
      go_ret2
      exact ⟨_, ret_verr HE.out.symm, by rw [HB.out]; exact OwnB.nil _ _, by assumption⟩
    · have HE := hide (show Crc.cutErr l = 0 by simpa using HEB.out.1)
      have HB := hide (show Crc.cutBytes l = l.take k by simpa using HEB.out.2)
      clear HEB
      go_enter Tryd.func19, Tryd.ntmps19
      go_wp2_with (first
        | (go_at_call 20; refine (refCrcPut_any _ _ _ _ _ hkm hb2).mono ?_; rintro e w2 ⟨v2, rfl, hown2, hx2⟩; obtain ⟨A2, c2, hv2, _, _, hq2⟩ := hown2.form; subst hv2)
        | (go_at_call 14; refine (H2.out _ hx2 _ _ _ hq2).mono ?_; rintro e w4 ⟨rfl, hz5, hx5⟩; have ho5 := OwnB.empty w4 hz5.le; have hE5 := hz5.alloc (.cells #[] 5); have hb5 := hE5.bytes hb2)
        | (at_builtin; refine wpList_app rfl (.tmp 16) (.tmp 21) rfl rfl ho5 rfl hb5 (by simp; omega) hE5.le ?_; intro v6 w6 hown6 hg6))
      go_ret2
      exact ⟨_, ret_verr HE.out.symm, by rw [HB.out]; exact hown6, ho5.below hE5 hg6 hE5.le⟩

theorem Crc.cut_put (l : List UInt8) : Crc.cutErr (Crc.put l) = 0 ∧ Crc.cutBytes (Crc.put l) = l := by
  have ht : ∀ s, (Crc.tail s).length = 4 := fun _ => rfl
  have hl : (Crc.put l).length - 4 = l.length := by unfold Crc.put; rw [List.length_append, ht]; omega
  have h4 : ¬ (Crc.put l).length < 4 := by unfold Crc.put; rw [List.length_append, ht]; omega
  have h1 : (Crc.put l).drop l.length = Crc.tail (Crc.sum l) := by unfold Crc.put; rw [List.drop_left' rfl]
  have h2 : (Crc.put l).take l.length = l := by unfold Crc.put; rw [List.take_left' rfl]
  have hr : Crc.right (Crc.put l) = true := by unfold Crc.right; rw [hl, h1, h2]; exact sameB_true rfl
  unfold Crc.cutErr Crc.cutBytes
  rw [if_neg h4, if_neg h4, hr, hl, h2]
  simp
theorem same_gives {w : World} {A1 A2 : Option Addr} {n m : Nat} {a b : List UInt8} (c d : Nat) (hab : a = b) (ha : Bytes w w.heap.size A1 n a) (hb : Bytes w w.heap.size A2 m b) :
    Gives w 14 #[.slice A1 n c, .slice A2 m d] (.bool true) := fun W h =>
  (same_any _ _ _ _ _ _ _ _ W (h.bytes ha) (h.bytes hb)).mono fun _ _ ⟨he, hw⟩ => ⟨by rw [he, sameB_true hab], h.trans hw, hw⟩
end Go.Proofs.YtkfipfhmbhmamaaDoor

