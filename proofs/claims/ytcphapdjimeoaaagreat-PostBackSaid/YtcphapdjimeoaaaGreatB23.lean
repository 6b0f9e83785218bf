/- The document's functions of chapter 14: May, Has, all, Next. -/
import Derived.Test.YtcphapdjimeoaaaGreatB11
import Derived.BigQuiet
import Derived.OwnWalk
namespace Go.Proofs.YtcphapdjimeoaaaGreat
open Go.RowKit Sets

theorem Sets.all_iff {ls : List (List Int)} : all ls = true ↔ ∀ i, i < ls.length → ok (ls.getD i []) = true := by
  unfold all
  rw [List.all_eq_true]
  constructor
  · intro h i hi
    rw [List.getD_eq_getElem?_getD, List.getElem?_eq_getElem hi]
    exact h _ (List.getElem_mem hi)
  · intro h l hl
    obtain ⟨i, hi, rfl⟩ := List.getElem_of_mem hl
    have := h i hi
    rw [List.getD_eq_getElem?_getD, List.getElem?_eq_getElem hi] at this
    exact this

theorem Sets.find_first {p : Nat → Bool} : ∀ {n i : Nat}, i < n → p i = true → (∀ j, j < i → p j = false) → (List.range n).find? p = some i
  | 0, i, h, _, _ => by omega
  | n + 1, i, h, hp, ha => by
    rw [List.range_succ, List.find?_append]
    rcases Nat.lt_or_ge i n with hi | hi
    · rw [find_first hi hp ha]; rfl
    · obtain rfl : i = n := by omega
      have : (List.range i).find? p = none := List.find?_eq_none.2 fun j hj => by rw [ha j (List.mem_range.1 hj)]; simp
      rw [this]
      simp [hp]
theorem Sets.next_at {l : List Int} {x : Int} {i : Nat} (hk : ok l = true) (hi : i < l.length) (h : x ≤ l.getD i 0) (ha : ∀ j, j < i → l.getD j 0 < x) : nextE l x = ((i : Int), true) := by
  unfold nextE
  have e : (List.range l.length).find? (fun i => decide (x ≤ l.getD i 0)) = some i := find_first hi (decide_eq_true h) fun j hj => decide_eq_false (by have := ha j hj; omega)
  rw [hk, if_neg (by simp), e]
theorem Sets.next_none {l : List Int} {x : Int} (ha : ∀ j, j < l.length → l.getD j 0 < x) : nextE l x = (0, false) := by
  unfold nextE
  have : (List.range l.length).find? (fun i => decide (x ≤ l.getD i 0)) = none := List.find?_eq_none.2 fun j hj => by
    have := ha j (List.mem_range.1 hj)
    rw [decide_eq_false (by omega)]
    simp
  rw [this]
  split <;> rfl
theorem Sets.next_bad {l : List Int} {x : Int} (hk : ok l = false) : nextE l x = (0, false) := by unfold nextE; rw [if_pos hk]

end Go.Proofs.YtcphapdjimeoaaaGreat

