/- The document's functions of chapter 14: May, Has, all, Next. -/
import Derived.Test.YtcphapdjimeoaaaB11
import Derived.BigQuiet
import Derived.OwnWalk
namespace Go.Proofs.Ytcphapdjimeoaaa
open Go.RowKit Sets

set_option maxHeartbeats 1000000 in
set_option maxRecDepth 10000 in
theorem refSHas_any (A : Option Addr) (n c : Nat) (L : List Int) (x : Int) (w : World) (h : IntsAt w w.heap.size A n L) (hn : n ≤ 1000000) :
    Calls Try.prog 15 #[.slice A n c, .int .i64 x] w fun e w' => e = .returned (.bool (has L x)) ∧ w = w' := by
  have hl := h.1
  have HA := hide h
  have HYes := hide (show ∀ i, i < n → L.getD i 0 = x → has L x = true from fun i hi e => has_iff.2 (e ▸ getD_mem (by omega)))
  have HNo := hide (show (∀ i, i < n → L.getD i 0 ≠ x) → has L x = false from fun h => decide_eq_false fun hm => by
    obtain ⟨i, hi, e⟩ := mem_getD hm
    exact h i (by omega) e)
  generalize has L x = res at *
  clear h hl
  go_enter Try.func15, Try.ntmps15
  go_wp2
  go_loopw [5] (fun y wr => ∃ i : Nat, i ≤ n ∧ y = .int .i64 (i : Int) ∧ (∀ j, j < i → L.getD j 0 ≠ x) ∧ wr = w) (fun y _ => n - (intOf y).toNat)
  case atStart => exact ⟨0, by omega, rfl, fun j hj => absurd hj (by omega), rfl⟩
  case round =>
    obtain ⟨i, hi, rfl, hall, rfl⟩ := hrel
    have HAll := hide hall
    clear hall
    by_cases hlt : i < n
    · have hiI : (i : Int) < (n : Int) := by omega
      rcases HA.out.2 with hn0 | ⟨b1, o1, rfl, _, hc1⟩
      · omega
      have e1 := hc1 i hlt
      have HYi := hide (HYes.out i hlt)
      obtain ⟨y, hy⟩ : ∃ y, y = L.getD i 0 := ⟨_, rfl⟩
      rw [← hy] at e1 HYi
      have HY := hide hy
      clear hc1 hy
      by_cases g : y = x
      · have HR := hide (HYi.out g)
        have hb : (y == x) = true := by simpa using g
        clear HYi g
        go_wp2
        go_ret
        exact ⟨ret_bool HR.out.symm, rfl⟩
      · have hb : (y == x) = false := by simpa using g
        have HG := hide g
        clear HYi g
        go_wp2
        go_roundw
        case rel => exact ⟨i + 1, by omega, by go_num, fun j hj => (by
          by_cases e : j = i
          · rw [e, ← HY.out]; exact HG.out
          · exact HAll.out j (by omega)), trivial⟩
        case measure => simp [intOf]; omega
    · obtain rfl : n = i := by omega
      have HN := hide (HNo.out HAll.out)
      go_wp2
      go_ret
      exact ⟨ret_bool HN.out.symm, rfl⟩

theorem Sets.all_iff {ls : List (List Int)} : all ls = true ↔ ∀ i, i < ls.length → ok (ls.getD i []) = true := by
  unfold all
  rw [List.all_eq_true]
  constructor
  · intro h i hi
    rw [List.getD_eq_getElem?_getD, List.getElem?_eq_getElem hi]
    exact h _ (List.getElem_mem hi)
  · intro h l hl
    obtain ⟨i, hi, rfl⟩ := List.getElem_of_mem hl
    have := h i hi
    rw [List.getD_eq_getElem?_getD, List.getElem?_eq_getElem hi] at this
    exact this

theorem Sets.find_first {p : Nat → Bool} : ∀ {n i : Nat}, i < n → p i = true → (∀ j, j < i → p j = false) → (List.range n).find? p = some i
  | 0, i, h, _, _ => by omega
  | n + 1, i, h, hp, ha => by
    rw [List.range_succ, List.find?_append]
    rcases Nat.lt_or_ge i n with hi | hi
    · rw [find_first hi hp ha]; rfl
    · obtain rfl : i = n := by omega
      have : (List.range i).find? p = none := List.find?_eq_none.2 fun j hj => by rw [ha j (List.mem_range.1 hj)]; simp
      rw [this]
      simp [hp]
theorem Sets.next_at {l : List Int} {x : Int} {i : Nat} (hk : ok l = true) (hi : i < l.length) (h : x ≤ l.getD i 0) (ha : ∀ j, j < i → l.getD j 0 < x) : nextE l x = ((i : Int), true) := by
  unfold nextE
  have e : (List.range l.length).find? (fun i => decide (x ≤ l.getD i 0)) = some i := find_first hi (decide_eq_true h) fun j hj => decide_eq_false (by have := ha j hj; omega)
  rw [hk, if_neg (by simp), e]
theorem Sets.next_none {l : List Int} {x : Int} (ha : ∀ j, j < l.length → l.getD j 0 < x) : nextE l x = (0, false) := by
  unfold nextE
  have : (List.range l.length).find? (fun i => decide (x ≤ l.getD i 0)) = none := List.find?_eq_none.2 fun j hj => by
    have := ha j (List.mem_range.1 hj)
    rw [decide_eq_false (by omega)]
    simp
  rw [this]
  split <;> rfl
theorem Sets.next_bad {l : List Int} {x : Int} (hk : ok l = false) : nextE l x = (0, false) := by unfold nextE; rw [if_pos hk]

end Go.Proofs.Ytcphapdjimeoaaa

