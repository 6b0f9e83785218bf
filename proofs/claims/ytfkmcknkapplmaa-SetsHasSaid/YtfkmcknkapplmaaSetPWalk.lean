/- The program's walk along a rising list: below, has. -/
import Derived.Test.YtfkmcknkapplmaaSetRefB
import Derived.Test.YtfkmcknkapplmaaSetPMath
import Derived.Test.YtfkmcknkapplmaaMakeI
import Derived.Sort.Row
namespace Go.Proofs.Ytfkmcknkapplmaa
open Go.RowKit Sets

theorem run_cutI (W : World) (a : Option Addr) (n c : Nat) (k : IntKind) (l : Int) (h0 : 0 ≤ l) (h1 : l ≤ n) :
    (Instr.slice 22 (.slice a n c) (some (.int k l)) none none).run Try.prog W = .ok (.slice (cutAt a c l.toNat) (n - l.toNat) (c - l.toNat)) W := by
  rw [run_slice_l (P := Try.prog) (w := W) 22 a n c (by kernel_rfl) k l h0 h1]
  have hs : (sizeOf (Try.prog.elem 22)).run Try.prog W = .ok 1 W := by kernel_rfl
  rw [hs]
  simp [Result.andThen, sliced, cutAt]
theorem run_topI (W : World) (a : Option Addr) (n c : Nat) (k : IntKind) (h : Int) (h0 : 0 ≤ h) (h2 : h ≤ c) :
    (Instr.slice 22 (.slice a n c) none (some (.int k h)) none).run Try.prog W = .ok (.slice a h.toNat c) W := by
  rw [run_slice_h (P := Try.prog) (w := W) 22 a n c (by kernel_rfl) k h h0 h2]
  have hs : (sizeOf (Try.prog.elem 22)).run Try.prog W = .ok 1 W := by kernel_rfl
  rw [hs]
  rcases a with _ | ⟨b, o, s⟩ <;> simp [Result.andThen, sliced, Addr.add]
theorem setCell_twice (w : World) (g i : Nat) (u v : Value) : (w.setCell ⟨g, i, none⟩ u).setCell ⟨g, i, none⟩ v = w.setCell ⟨g, i, none⟩ v := by
  rw [Go.Sort.setCell_eq, Go.Sort.setCell_eq, Go.Sort.mapBlock_mapBlock, Go.Sort.setCell_eq]
  congr 1
  funext c
  simp
theorem IntsAt.cut {w : World} {B n : Nat} {A : Option Addr} {r : List Int} (h : IntsAt w B A n r) {k c : Nat} (hk : k ≤ n) (hc : n ≤ c) : IntsAt w B (cutAt A c k) (n - k) (r.drop k) := by
  refine ⟨by rw [List.length_drop, h.1], ?_⟩
  by_cases hkn : k = n
  · exact .inl (by omega)
  rcases h.2 with h0 | ⟨b, off, rfl, hB, hcell⟩
  · exact .inl (by omega)
  · refine .inr ⟨b, off + k, ?_, hB, fun i hi => ?_⟩
    · simp [cutAt, show ¬ c = k by omega, Addr.add]
    · rw [Nat.add_assoc, hcell (k + i) (by omega), getD_drop]
theorem IntsAt.top {w : World} {B n : Nat} {A : Option Addr} {r : List Int} (h : IntsAt w B A n r) {k : Nat} (hk : k ≤ n) : IntsAt w B A k (r.take k) := by
  refine ⟨by rw [List.length_take, h.1]; omega, ?_⟩
  rcases h.2 with h0 | ⟨b, off, hA, hB, hc⟩
  · exact .inl (by omega)
  · refine .inr ⟨b, off, hA, hB, fun i hi => ?_⟩
    rw [hc i (by omega)]
    simp [List.getD_eq_getElem?_getD, hi]
theorem IntsAt.setFar {w : World} {B n g i : Nat} {A : Option Addr} {r : List Int} (h : IntsAt w B A n r) (hg : B ≤ g) (u : Value) : IntsAt (w.setCell ⟨g, i, none⟩ u) B A n r :=
  h.below (Below.setCell (Below.refl _ _) (p := ⟨g, i, none⟩) hg u) (Nat.le_refl _)

attribute [local go_sem ↓] run_cutI run_topI
/-- What below tells. -/
def BelowTo (w : World) (g i n c : Nat) (A : Option Addr) (r : List Int) (x : Int) (e : Ending) (w' : World) : Prop :=
  ∃ k, Cut r x k ∧ e = .returned (.slice A k c) ∧ w' = w.setCell ⟨g, i, none⟩ (.slice (cutAt A c k) (n - k) (c - k))
set_option maxHeartbeats 1000000 in
set_option maxRecDepth 10000 in
theorem wBelow_any {w : World} {g i B n c : Nat} {A : Option Addr} {r : List Int} (x : Int) (hc : w.cell? ⟨g, i, none⟩ = some (.slice A n c)) (hf : w.frozen? ⟨g, i, none⟩ = false) (h : IntsAt w B A n r) (h1 : n ≤ c) (h2 : n ≤ 1000000) :
    Calls Try.prog 44 #[.pointer (some ⟨g, i, none⟩), .int .i64 x] w (BelowTo w g i n c A r x) := by
  have hl := h.1
  have HA := hide h
  have HCut := hide (show ∀ k, k ≤ n → (∀ j, j < k → r.getD j 0 < x) → (k < n → x ≤ r.getD k 0) → Cut r x k from fun k a b c => ⟨by omega, b, fun h => c (by omega)⟩)
  unfold BelowTo
  clear h hl
  go_enter Try.func44, Try.ntmps44
  go_wp2
  go_loopw [5] (fun y wr => ∃ k : Nat, k ≤ n ∧ y = .int .i64 (k : Int) ∧ (∀ j, j < k → r.getD j 0 < x) ∧ wr = w) (fun y _ => n - (intOf y).toNat)
  case atStart => exact ⟨0, by omega, rfl, fun j hj => absurd hj (by omega), rfl⟩
  case round =>
    obtain ⟨k, hk, rfl, hall, rfl⟩ := hrel
    have HAll := hide hall
    clear hall
    have hkI : (k : Int) ≤ (c : Int) := by omega
    by_cases hlt : k < n
    · have hltI : (k : Int) < (n : Int) := by omega
      have hd0 : decide ((k : Int) < (n : Int)) = true := decide_eq_true hltI
      rcases HA.out.2 with hn0 | ⟨b1, o1, rfl, _, hc1⟩
      · omega
      have e1 := hc1 k hlt
      have HN := hide (HCut.out k hk HAll.out)
      have HNext := hide (show r.getD k 0 < x → ∀ j, j < k + 1 → r.getD j 0 < x from fun h j hj => by
        by_cases e : j = k
        · rw [e]; exact h
        · exact HAll.out j (by omega))
      obtain ⟨y, hy⟩ : ∃ y, y = r.getD k 0 := ⟨_, rfl⟩
      rw [← hy] at e1 HN HNext
      clear hc1 hy
      by_cases g1 : y < x
      · have HNx := hide (HNext.out g1)
        go_wp2
        go_roundw
        case rel => exact ⟨k + 1, by omega, by go_num, HNx.out, trivial⟩
        case measure => simp [intOf]; omega
      · have HR := hide (HN.out (fun _ => by omega))
        go_wp2
        go_ret
        exact ⟨k, HR.out, rfl, rfl⟩
    · obtain rfl : n = k := by omega
      have HR := hide (HCut.out n hk HAll.out (fun h => by omega))
      go_wp2
      go_ret
      exact ⟨n, HR.out, rfl, by rw [Nat.sub_self]⟩

/-- What has tells: whether x was there; what is left lies in the cell. -/
def HasTo (w : World) (g i B : Nat) (r : List Int) (x : Int) (e : Ending) (w' : World) : Prop :=
  ∃ (k : Nat) (f : Bool) (u : Value), Cut r x k ∧ Hit r x k f ∧ e = .returned (.bool f) ∧ IRow w B u (r.drop (k + f.toNat)) ∧ w' = w.setCell ⟨g, i, none⟩ u
set_option maxHeartbeats 1000000 in
set_option maxRecDepth 10000 in
theorem wHas_any {w : World} {g i B n c : Nat} {A : Option Addr} {r : List Int} (x : Int) (hc : w.cell? ⟨g, i, none⟩ = some (.slice A n c)) (hf : w.frozen? ⟨g, i, none⟩ = false) (h : IntsAt w B A n r) (hB : B ≤ g) (h1 : n ≤ c) (h2 : n ≤ 1000000) (h3 : c ≤ maxLen) :
    Calls Try.prog 39 #[.pointer (some ⟨g, i, none⟩), .int .i64 x] w (HasTo w g i B r x) := by
  have C := wBelow_any x hc hf h h1 h2
  have HH := hide h
  have HC := hide hc
  have HF := hide hf
  have HB := hide hB
  have H3 := hide h3
  have H1 := hide h1
  unfold HasTo
  clear h hf hB h3
  go_enter Try.func39, Try.ntmps39
  go_wp2_with fail
  refine C.mono ?_
  rintro e w1 ⟨k, hk, rfl, hw1⟩
  have hl := HH.out.1
  have hkn : k ≤ n := by have := hk.1; omega
  obtain ⟨A1, hA1⟩ : ∃ A1, A1 = cutAt A c k := ⟨_, rfl⟩
  obtain ⟨n1, hn1⟩ : ∃ n1, n1 = n - k := ⟨_, rfl⟩
  obtain ⟨c1, hc1⟩ : ∃ c1, c1 = c - k := ⟨_, rfl⟩
  have hI := HH.out.cut hkn H1.out
  have hI1 : IntsAt w1 B A1 n1 (r.drop k) := by rw [hw1, hA1, hn1]; exact hI.setFar HB.out _
  rw [← hA1, ← hn1] at hI
  have e1 : w1.cell? ⟨g, i, none⟩ = some (.slice A1 n1 c1) := by rw [hw1, World.cell?_setCell_same _ _ _ HC.out, hA1, hn1, hc1]
  have f1 : w1.frozen? ⟨g, i, none⟩ = false := by rw [hw1, World.frozen?_setCell]; exact HF.out
  rw [← hA1, ← hn1, ← hc1] at hw1
  have HK := hide hk
  have HW1 := hide hw1
  have hc1n : n1 ≤ c1 := by omega
  have HCM := hide (show c1 ≤ maxLen by have := H3.out; omega)
  have HN1 := hide (show n1 = r.length - k by omega)
  have HI1 := hide hI1
  have HI := hide hI
  clear hk hw1 hA1 hn1 hc1 hI hI1 C hc h1
  by_cases hlt : n1 = 0
  · have hz : ((n1 : Int) == 0) = true := by simp [hlt]
    have HZ := hide hlt
    have HF2 := hide (show IRow w B (.slice A1 n1 c1) (r.drop (k + false.toNat)) from ⟨A1, c1, by rw [List.length_drop, HN1.out]; rfl, by rw [List.length_drop, Bool.toNat_false, Nat.add_zero, ← HN1.out]; exact hc1n, HCM.out, by rw [Bool.toNat_false, Nat.add_zero, List.length_drop, ← HN1.out]; exact HI.out⟩)
    clear hlt
    go_wp2
    go_ret
    exact ⟨k, false, _, HK.out, ⟨(fun h => by cases h), fun _ h => by have := HN1.out; have := HZ.out; omega⟩, rfl, HF2.out, HW1.out⟩
  · have hz : ((n1 : Int) == 0) = false := by rw [beq_eq_false_iff_ne]; omega
    rcases HI1.out.2 with hn0 | ⟨b1, o1, rfl, _, hcc⟩
    · omega
    have e2 := hcc 0 (by omega)
    rw [Nat.add_zero] at e2
    have hp : (0 : Int) < (n1 : Int) := by omega
    obtain ⟨y, hy⟩ : ∃ y, y = (r.drop k).getD 0 0 := ⟨_, rfl⟩
    rw [← hy] at e2
    rw [getD_drop, Nat.add_zero] at hy
    have HY := hide hy
    clear hcc hy hlt
    by_cases g1 : y = x
    · have hb : (y != x) = false := by simp [g1]
      have hb2 : (y == x) = true := by simp [g1]
      have HG := hide g1
      have hone : (1 : Int) ≤ (n1 : Int) := by omega
      have HF2 := hide (show IRow w B (.slice (cutAt (some ⟨b1, o1, none⟩) c1 1) (n1 - 1) (c1 - 1)) (r.drop (k + true.toNat)) from
        ⟨_, _, (by rw [List.length_drop, Bool.toNat_true, show r.length - (k + 1) = n1 - 1 by have := HN1.out; omega]), by rw [List.length_drop, Bool.toNat_true]; have := HN1.out; omega, by have := HCM.out; omega, by
          have := HI.out.cut (k := 1) (c := c1) (by omega) hc1n
          rw [List.drop_drop] at this
          rw [List.length_drop, Bool.toNat_true, show r.length - (k + 1) = n1 - 1 by have := HN1.out; omega]
          exact this⟩)
      clear g1
      go_wp2
      go_ret
      exact ⟨k, true, _, HK.out, ⟨fun _ => ⟨by have := HN1.out; omega, by rw [← HY.out]; exact HG.out⟩, fun h => by cases h⟩, rfl, HF2.out, by rw [HW1.out, setCell_twice]⟩
    · have hb : (y != x) = true := by simp [g1]
      have hb2 : (y == x) = false := by simp [g1]
      have HF2 := hide (show IRow w B (.slice (some ⟨b1, o1, none⟩) n1 c1) (r.drop (k + false.toNat)) from ⟨_, c1, by rw [List.length_drop, HN1.out]; rfl, by rw [List.length_drop, Bool.toNat_false, Nat.add_zero, ← HN1.out]; exact hc1n, HCM.out, by rw [Bool.toNat_false, Nat.add_zero, List.length_drop, ← HN1.out]; exact HI.out⟩)
      go_wp2
      go_ret
      exact ⟨k, false, _, HK.out, ⟨(fun h => by cases h), fun _ _ => by rw [← HY.out]; exact g1⟩, rfl, HF2.out, HW1.out⟩
end Go.Proofs.Ytfkmcknkapplmaa
