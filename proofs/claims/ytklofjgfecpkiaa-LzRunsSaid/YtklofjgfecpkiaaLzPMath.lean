/- A trail of places with the same three bytes, and the longest along it. Plain mathematics for the program of chapter 10. -/
import Derived.Test.YtklofjgfecpkiaaLzMath
namespace Go.Proofs.Ytklofjgfecpkiaa.Lz

/-- The three bytes at a place. -/
def three (b : List UInt8) (p : Nat) : UInt8 × UInt8 × UInt8 := (b.getD p 0, b.getD (p + 1) 0, b.getD (p + 2) 0)
/-- The last place ahead of n with these three bytes. -/
def lastOf (b : List UInt8) (k : UInt8 × UInt8 × UInt8) : Nat → Option Nat
  | 0 => none
  | q + 1 => if three b q = k then some q else lastOf b k q
theorem lastOf_some {b : List UInt8} {k : UInt8 × UInt8 × UInt8} : ∀ {n q : Nat}, lastOf b k n = some q → q < n ∧ three b q = k ∧ ∀ r, q < r → r < n → three b r ≠ k
  | 0, q, h => by cases h
  | n + 1, q, h => by
    rw [lastOf] at h
    split at h
    · rename_i hk
      injection h with h
      subst h
      exact ⟨by omega, hk, fun r h1 h2 => by omega⟩
    · rename_i hk
      obtain ⟨h1, h2, h3⟩ := lastOf_some h
      refine ⟨by omega, h2, fun r hr1 hr2 => ?_⟩
      by_cases e : r = n
      · rw [e]; exact hk
      · exact h3 r hr1 (by omega)
theorem lastOf_none {b : List UInt8} {k : UInt8 × UInt8 × UInt8} : ∀ {n : Nat}, lastOf b k n = none → ∀ r, r < n → three b r ≠ k
  | 0, _, r, hr => by omega
  | n + 1, h, r, hr => by
    rw [lastOf] at h
    split at h
    · cases h
    · rename_i hk
      by_cases e : r = n
      · rw [e]; exact hk
      · exact lastOf_none h r (by omega)
/-- How far back the last place with the same three bytes is; 0, if a match can't reach it. -/
def backAt (b : List UInt8) (p : Nat) : Nat := if p + 3 ≤ b.length then (match lastOf b (three b p) p with | some q => if p - q ≤ 4095 then p - q else 0 | none => 0) else 0
theorem back_off {b : List UInt8} {p : Nat} (h : ¬ p + 3 ≤ b.length) : backAt b p = 0 := if_neg h
theorem back_some {b : List UInt8} {p q : Nat} (h : p + 3 ≤ b.length) (hq : lastOf b (three b p) p = some q) : backAt b p = if p - q ≤ 4095 then p - q else 0 := by unfold backAt; rw [if_pos h, hq]
theorem back_none {b : List UInt8} {p : Nat} (h : p + 3 ≤ b.length) (hq : lastOf b (three b p) p = none) : backAt b p = 0 := by unfold backAt; rw [if_pos h, hq]
theorem back_pos {b : List UInt8} {p : Nat} (h : 0 < backAt b p) : p + 3 ≤ b.length ∧ backAt b p ≤ 4095 ∧ backAt b p ≤ p ∧ three b (p - backAt b p) = three b p ∧ ∀ r, p - backAt b p < r → r < p → three b r ≠ three b p := by
  by_cases hp : p + 3 ≤ b.length
  · cases hq : lastOf b (three b p) p with
    | none => rw [back_none hp hq] at h; omega
    | some q =>
      have e := back_some hp hq
      obtain ⟨h1, h2, h3⟩ := lastOf_some hq
      by_cases h4 : p - q ≤ 4095
      · rw [if_pos h4] at e
        rw [e, show p - (p - q) = q by omega]
        exact ⟨hp, h4, by omega, h2, h3⟩
      · rw [if_neg h4] at e
        omega
  · rw [back_off hp] at h; omega
theorem back_zero {b : List UInt8} {p : Nat} (h : backAt b p = 0) (hp : p + 3 ≤ b.length) : ∀ r, r < p → p - r ≤ 4095 → three b r ≠ three b p := by
  intro r hr h4
  cases hq : lastOf b (three b p) p with
  | none => exact lastOf_none hq r hr
  | some q =>
    have e := back_some hp hq
    obtain ⟨h1, h2, h3⟩ := lastOf_some hq
    by_cases h5 : p - q ≤ 4095
    · rw [if_pos h5] at e; omega
    · exact h3 r (by omega) hr
theorem back_le (b : List UInt8) (p : Nat) : backAt b p ≤ 4095 := by
  rcases Nat.eq_zero_or_pos (backAt b p) with h | h
  · omega
  · exact (back_pos h).2.1
/-- The trail, as far as place i. -/
def trailN (b : List UInt8) (i : Nat) : List Nat := (List.range b.length).map fun p => if p < i then backAt b p else 0
theorem trail_len (b : List UInt8) (i : Nat) : (trailN b i).length = b.length := by simp [trailN]
theorem trail_get {b : List UInt8} {i p : Nat} (hp : p < b.length) : (trailN b i).getD p 0 = if p < i then backAt b p else 0 := by
  rw [List.getD_eq_getElem?_getD, trailN, List.getElem?_map, List.getElem?_range hp]
  rfl
theorem trail_zero (b : List UInt8) : trailN b 0 = List.replicate b.length 0 := by
  apply List.ext_getElem
  · simp [trailN]
  · intro i h1 h2
    simp [trailN]
theorem trail_set (b : List UInt8) (i : Nat) : (trailN b i).set i (backAt b i) = trailN b (i + 1) := by
  apply List.ext_getElem
  · simp [trailN]
  · intro j h1 h2
    rw [List.getElem_set]
    simp only [trailN, List.getElem_map, List.getElem_range]
    by_cases e : i = j
    · rw [if_pos e, if_pos (by omega), e]
    · rw [if_neg e]
      by_cases hj : j < i
      · rw [if_pos hj, if_pos (by omega)]
      · rw [if_neg hj, if_neg (by omega)]
theorem trail_same {b : List UInt8} {i : Nat} (h : backAt b i = 0) : trailN b i = trailN b (i + 1) := by
  apply List.ext_getElem
  · simp [trailN]
  · intro j h1 h2
    simp only [trailN, List.getElem_map, List.getElem_range]
    by_cases hj : j < i
    · rw [if_pos hj, if_pos (by omega)]
    · rw [if_neg hj]
      by_cases e : j = i
      · rw [if_pos (by omega), e, h]
      · rw [if_neg (by omega)]
theorem trail_all {b : List UInt8} {i : Nat} (h : b.length ≤ i + 2) : trailN b i = (List.range b.length).map (backAt b) := by
  apply List.ext_getElem
  · simp [trailN]
  · intro j h1 h2
    simp only [trailN, List.getElem_map, List.getElem_range]
    by_cases hj : j < i
    · rw [if_pos hj]
    · rw [if_neg hj, back_off (by omega)]

/-! The longest, along the trail. -/
def longV (r : Nat × Nat) : Nat := if 3 ≤ r.1 then r.1 else 2
def tokR (b : List UInt8) (q : Nat) (r : Nat × Nat) : TokV := if 3 ≤ r.1 then ⟨0, r.1, r.2⟩ else ⟨b.getD q 0, 0, 0⟩
theorem tokAt_eq (b : List UInt8) (q : Nat) : tokAt b q = tokR b q (best b q (min 4095 q)) := rfl
theorem best_mono (b : List UInt8) (q : Nat) : ∀ {m n : Nat}, m ≤ n → (best b q m).1 ≤ (best b q n).1 := by
  intro m n h
  induction h with
  | refl => exact Nat.le_refl _
  | @step k _ ih =>
    rw [best]
    split
    · dsimp only; omega
    · exact ih
theorem best_skip {b : List UInt8} {q m n : Nat} (hmn : m ≤ n) (h : ∀ d, m < d → d ≤ n → run b q d < 3 ∨ run b q d ≤ (best b q m).1) : longV (best b q n) = longV (best b q m) ∧ tokR b q (best b q n) = tokR b q (best b q m) := by
  induction hmn with
  | refl => exact ⟨rfl, rfl⟩
  | @step k hk ih =>
    obtain ⟨i1, i2⟩ := ih fun d h1 h2 => h d h1 (by omega)
    rw [best]
    split
    · rename_i hlt
      rcases h (k + 1) (Nat.lt_succ_of_le hk) (Nat.le_refl _) with h3 | h3
      · have e1 : longV (run b q (k + 1), k + 1) = longV (best b q k) := by
          unfold longV; rw [if_neg (by dsimp only; omega), if_neg (show ¬ 3 ≤ (best b q k).1 by omega)]
        have e2 : tokR b q (run b q (k + 1), k + 1) = tokR b q (best b q k) := by
          unfold tokR; rw [if_neg (by dsimp only; omega), if_neg (show ¬ 3 ≤ (best b q k).1 by omega)]
        exact ⟨e1.trans i1, e2.trans i2⟩
      · have := best_mono b q hk
        omega
    · exact ⟨i1, i2⟩
theorem long_ge (r : Nat × Nat) : 2 ≤ longV r ∧ r.1 ≤ longV r := by unfold longV; split <;> omega
theorem long_or {r : Nat × Nat} {x : Nat} (h : x ≤ longV r) : x < 3 ∨ x ≤ r.1 := by unfold longV at h; split at h <;> omega
theorem best_take {b : List UInt8} {q m : Nat} (h : longV (best b q m) < run b q (m + 1)) : best b q (m + 1) = (run b q (m + 1), m + 1) := by
  rw [best, if_pos]
  have := long_ge (best b q m)
  omega
theorem run_three {b : List UInt8} {q d : Nat} (hd : d ≤ q) (h : 3 ≤ run b q d) : q + 3 ≤ b.length ∧ three b (q - d) = three b q := by
  have h0 := run_same (b := b) (p := q) (d := d) (j := 0) (by omega)
  have h1 := run_same (b := b) (p := q) (d := d) (j := 1) (by omega)
  have h2 := run_same (b := b) (p := q) (d := d) (j := 2) (by omega)
  refine ⟨by omega, ?_⟩
  unfold three
  rw [show q - d + 1 = q + 1 - d by omega, show q - d + 2 = q + 2 - d by omega, h1.2, h2.2]
  have := h0.2
  rw [Nat.add_zero] at this
  rw [this]
section
variable {b : List UInt8} {q m : Nat}
theorem not_three {d : Nat} (hd : d ≤ q) (h : three b (q - d) ≠ three b q) : run b q d < 3 := by
  refine Classical.byContradiction fun hc => h (run_three hd (by omega)).2
/-- The places between two of the trail. -/
theorem between (h3 : three b (q - m) = three b q) (hm : m ≤ q) (hp : 0 < backAt b (q - m)) {d : Nat} (h1 : m < d) (h2 : d < m + backAt b (q - m)) : run b q d < 3 := by
  obtain ⟨_, _, hle, _, hno⟩ := back_pos hp
  refine not_three (by omega) ?_
  rw [← h3]
  exact hno (q - d) (by omega) (by omega)
theorem end_zero (h3 : three b (q - m) = three b q) (hm : m ≤ min 4095 q) (hp : backAt b (q - m) = 0) : tokR b q (best b q m) = tokAt b q := by
  rw [tokAt_eq]
  refine ((best_skip hm fun d h1 h2 => .inl ?_).2).symm
  refine Classical.byContradiction fun hc => ?_
  obtain ⟨hl, he⟩ := run_three (b := b) (q := q) (d := d) (by omega) (by omega)
  exact back_zero hp (by omega) (q - d) (by omega) (by omega) (by rw [he, h3])
theorem end_far (h3 : three b (q - m) = three b q) (hm : m ≤ min 4095 q) (hp : 0 < backAt b (q - m)) (hf : 4095 < m + backAt b (q - m)) : tokR b q (best b q m) = tokAt b q := by
  rw [tokAt_eq]
  exact ((best_skip hm fun d h1 h2 => .inl (between h3 (by omega) hp h1 (by omega))).2).symm
theorem run_most (d : Nat) (hq : q < b.length) : run b q d ≤ min 257 (b.length - q) := by
  have h1 := run_le (b := b) (p := q) (d := d)
  rcases Nat.eq_zero_or_pos (run b q d) with h | h
  · omega
  · have := run_end h
    omega
theorem end_most (hq : q < b.length) (hm : m ≤ min 4095 q) (h : min 257 (b.length - q) ≤ longV (best b q m)) : tokR b q (best b q m) = tokAt b q := by
  rw [tokAt_eq]
  exact ((best_skip hm fun d _ _ => long_or (Nat.le_trans (run_most d hq) h)).2).symm
/-- Another place of the trail, from which on no more bytes are the same. -/
theorem next_less (h3 : three b (q - m) = three b q) (hm : m ≤ q) (hp : 0 < backAt b (q - m)) (hr : run b q (m + backAt b (q - m)) ≤ longV (best b q m)) :
    longV (best b q (m + backAt b (q - m))) = longV (best b q m) ∧ tokR b q (best b q (m + backAt b (q - m))) = tokR b q (best b q m) := by
  refine best_skip (by omega) fun d h1 h2 => ?_
  by_cases e : d = m + backAt b (q - m)
  · rw [e]; exact long_or hr
  · exact .inl (between h3 hm hp h1 (by omega))
theorem next_more (h3 : three b (q - m) = three b q) (hm : m ≤ q) (hp : 0 < backAt b (q - m)) (hr : longV (best b q m) < run b q (m + backAt b (q - m))) :
    best b q (m + backAt b (q - m)) = (run b q (m + backAt b (q - m)), m + backAt b (q - m)) := by
  obtain ⟨g, hg⟩ : ∃ g, backAt b (q - m) = g + 1 := ⟨backAt b (q - m) - 1, by omega⟩
  have e := (best_skip (b := b) (q := q) (m := m) (n := m + g) (by omega) fun d h1 h2 => .inl (between h3 hm hp h1 (by omega))).1
  rw [hg, ← Nat.add_assoc] at hr ⊢
  exact best_take (by rw [e]; exact hr)
theorem next_three (h3 : three b (q - m) = three b q) (hp : 0 < backAt b (q - m)) : three b (q - (m + backAt b (q - m))) = three b q := by
  obtain ⟨_, _, hle, he, _⟩ := back_pos hp
  rw [show q - (m + backAt b (q - m)) = q - m - backAt b (q - m) by omega, he, h3]
theorem run_from {d : Nat} : ∀ {k : Nat}, k ≤ 257 → (∀ j, j < k → q + j < b.length ∧ b.getD (q + j - d) 0 = b.getD (q + j) 0) → runF b q d (257 - k) k = run b q d
  | 0, _, _ => rfl
  | k + 1, h1, h2 => by
    rw [← run_from (k := k) (by omega) fun j hj => h2 j (by omega), show 257 - k = 257 - (k + 1) + 1 by omega, runF, if_pos (h2 k (by omega))]
theorem run_cut {d n : Nat} (hn : n = min 257 (b.length - q)) : ∀ (f k : Nat), k + f = n → runF b q d f k = runF b q d (257 - k) k
  | 0, k, h => by
    rw [runF]
    by_cases e : k = 257
    · rw [e]; rfl
    · rw [show 257 - k = 256 - k + 1 by omega, runF, if_neg (by omega)]
  | f + 1, k, h => by
    rw [show 257 - k = 256 - k + 1 by omega, runF, runF]
    split
    · rw [run_cut hn f (k + 1) (by omega), show 257 - (k + 1) = 256 - k by omega]
    · rfl
/-- What the program asks: are more than k bytes the same? -/
theorem longer_iff {d k : Nat} (hd : d ≤ q) (hk : k < min 257 (b.length - q)) : (decide (b.getD (q - d + k) 0 = b.getD (q + k) 0) && decide ((b.drop (q - d)).take k = (b.drop q).take k)) = decide (k < run b q d) := by
  rw [Bool.eq_iff_iff]
  simp only [Bool.and_eq_true, decide_eq_true_eq]
  constructor
  · rintro ⟨h1, h2⟩
    refine run_all (n := k + 1) (by omega) fun j hj => ⟨by omega, ?_⟩
    rw [show q + j - d = q - d + j by omega]
    by_cases e : j = k
    · rw [e]; exact h1
    · have := congrArg (fun l => l.getD j 0) h2
      simp only [List.getD_eq_getElem?_getD, List.getElem?_take, List.getElem?_drop, if_pos (show j < k by omega)] at this
      rw [List.getD_eq_getElem?_getD, List.getD_eq_getElem?_getD]
      exact this
  · intro h
    have hs := fun j (hj : j < run b q d) => (run_same (b := b) (p := q) (d := d) hj).2
    refine ⟨?_, ?_⟩
    · have := hs k h
      rwa [show q + k - d = q - d + k by omega] at this
    · apply List.ext_getElem
      · simp only [List.length_take, List.length_drop]; omega
      · intro j h1 h2
        simp only [List.length_take, List.length_drop] at h1 h2
        have := hs j (by omega)
        rw [show q + j - d = q - d + j by omega, List.getD_eq_getElem?_getD, List.getD_eq_getElem?_getD, List.getElem?_eq_getElem (by omega), List.getElem?_eq_getElem (by omega)] at this
        simp only [List.getElem_take, List.getElem_drop]
        simpa using this
end
end Go.Proofs.Ytklofjgfecpkiaa.Lz
