/- The document's Same of chapter 9: two slices of numbers. -/
import Derived.Test.YtfkmcknkapplmaaIntsAt
import Derived.Test.YtfkmcknkapplmaaMod
import Derived.BigQuiet
namespace Go.Proofs.Ytfkmcknkapplmaa
open Go.RowKit

theorem Huf.list_ext {a b : List Int} (hl : a.length = b.length) (h : ∀ i, i < a.length → a.getD i 0 = b.getD i 0) : a = b := by
  refine List.ext_getElem hl fun i h1 h2 => ?_
  have := h i h1
  rwa [List.getD_eq_getElem?_getD, List.getD_eq_getElem?_getD, List.getElem?_eq_getElem h1, List.getElem?_eq_getElem h2] at this
set_option maxHeartbeats 1000000 in
set_option maxRecDepth 100000 in
theorem refSame9_any (A1 A2 : Option Addr) (c1 c2 : Nat) (a b : List Int) (w : World) (h1 : IntsAt w w.heap.size A1 a.length a) (h2 : IntsAt w w.heap.size A2 b.length b) (hn0 : a.length ≤ 140737488355328) :
    Calls Try.prog 18 #[.slice A1 a.length c1, .slice A2 b.length c2] w fun e w' => e = .returned (.bool (decide (a = b))) ∧ Ext w w' := by
  by_cases hl : a.length = b.length
  · have HEq := hide (show (∀ i, i < a.length → a.getD i 0 = b.getD i 0) → decide (a = b) = true from fun h => decide_eq_true (Huf.list_ext hl h))
    have HNe := hide (show ∀ i, a.getD i 0 ≠ b.getD i 0 → decide (a = b) = false from fun i h => decide_eq_false fun e => h (by rw [e]))
    have hlb : ((a.length : Int) != (b.length : Int)) = false := by simp; omega
    have HA := hide h1
    have HB := hide h2
    generalize decide (a = b) = res at *
    rw [← hl] at HB ⊢
    generalize a.length = n at *
    clear h1 h2 hl
    go_enter Try.func18, Try.ntmps18
    go_wp2
    go_loopw [5] (fun x wr => ∃ i : Nat, i ≤ n ∧ x = .int .i64 (i : Int) ∧ (∀ j, j < i → a.getD j 0 = b.getD j 0) ∧ Qt w wr) (fun x _ => n - (intOf x).toNat)
    case atStart => exact ⟨0, by omega, rfl, fun j hj => absurd hj (by omega), Qt.refl _⟩
    case round =>
      obtain ⟨i, hi, rfl, hall, hQ⟩ := hrel
      have HAll := hide hall
      clear hall
      by_cases hlt : i < n
      · have hiI : (i : Int) < (n : Int) := by omega
        rcases (HA.out.later hQ.ext).2 with hn | ⟨b1, o1, rfl, _, hc1⟩
        · omega
        rcases (HB.out.later hQ.ext).2 with hn | ⟨b2, o2, rfl, _, hc2⟩
        · omega
        have e1 := hc1 i hlt
        have e2 := hc2 i hlt
        have hNe := HNe.out i
        clear hc1 hc2
        by_cases he : a.getD i 0 = b.getD i 0
        · have HE := hide he
          obtain ⟨y, hy⟩ : ∃ y, y = b.getD i 0 := ⟨_, rfl⟩
          rw [he, ← hy] at e1
          rw [← hy] at e2
          clear he hNe hy
          go_wp2_with fail
          go_quiet (fail)
          go_wp2
          go_roundw
          case rel => exact ⟨i + 1, by omega, by go_num, fun j hj => (by
            by_cases e : j = i
            · rw [e]; exact HE.out
            · exact HAll.out j (by omega)), hQ.drewN _⟩
          case measure => simp [intOf]; omega
        · have HN := hide (hNe he)
          have heb : (a.getD i 0 != b.getD i 0) = true := by simpa using he
          generalize a.getD i 0 = y1 at *
          generalize b.getD i 0 = y2 at *
          clear hNe he
          go_wp2_with fail
          go_quiet (fail)
          go_wp2
          go_ret
          exact ⟨ret_bool HN.out.symm, (hQ.drewN _).ext⟩
      · obtain rfl : n = i := by omega
        have HN := hide (HEq.out HAll.out)
        go_wp2
        go_ret
        exact ⟨ret_bool HN.out.symm, hQ.ext⟩
  · have HN := hide (show decide (a = b) = false from decide_eq_false fun e => hl (by rw [e]))
    have hlb : ((a.length : Int) != (b.length : Int)) = true := by simp; omega
    generalize decide (a = b) = res at *
    clear h1 h2
    go_enter Try.func18, Try.ntmps18
    go_wp2
    go_ret
    exact ⟨ret_bool HN.out.symm, Ext.refl _⟩
end Go.Proofs.Ytfkmcknkapplmaa
