/- What the items of a row hold at most; pairs one by one; symbols counted one by one. Plain mathematics of chapter 7. -/
import Derived.Test.YtijelijooecoeaaLenLaw
namespace Go.Proofs.Ytijelijooecoeaa.Len

theorem pairs_mem : ∀ {l : List Item} {x : Item}, x ∈ pairsOf l → ∃ a b, a ∈ l ∧ b ∈ l ∧ x = (a.1 + b.1, a.2 ++ b.2)
  | [], x, h => by simp [pairsOf] at h
  | [_], x, h => by simp [pairsOf] at h
  | a :: b :: r, x, h => by
    rw [pairsOf] at h
    rcases List.mem_cons.1 h with e | e
    · exact ⟨a, b, by simp, by simp, e⟩
    · obtain ⟨c, d, hc, hd, e⟩ := pairs_mem e
      exact ⟨c, d, by simp [hc], by simp [hd], e⟩
theorem row_all {lv : List Item} {P : Nat → Item → Prop} (h0 : ∀ r x, x ∈ lv → P r x) (hs : ∀ r a b, P r a → P r b → P (r + 1) (a.1 + b.1, a.2 ++ b.2)) : ∀ (r : Nat) (x : Item), x ∈ row lv r → P r x
  | 0, x, h => h0 0 x h
  | r + 1, x, h => by
    rw [row] at h
    rcases merge_mem h with h | h
    · exact h0 _ x h
    · obtain ⟨a, b, ha, hb, rfl⟩ := pairs_mem h
      exact hs r a b (row_all h0 hs r a ha) (row_all h0 hs r b hb)
theorem used_row {often : List Nat} (hb : ∀ i, often.getD i 0 < 4294967296) (j r : Nat) (x : Item) (h : x ∈ row (usedTo often j) r) : x.1 ≤ 2 ^ r * 4294967296 ∧ x.2.length ≤ 2 ^ r ∧ ∀ s ∈ x.2, s < j := by
  refine row_all (P := fun r x => x.1 ≤ 2 ^ r * 4294967296 ∧ x.2.length ≤ 2 ^ r ∧ ∀ s ∈ x.2, s < j) ?_ ?_ r x h
  · intro r x hx
    obtain ⟨q, hq, _, rfl⟩ := used_each hx
    have := hb q
    have hp : 1 ≤ 2 ^ r := Nat.pow_pos (by omega)
    refine ⟨?_, by simpa using hp, fun s hs => ?_⟩
    · show often.getD q 0 ≤ _
      have := Nat.mul_le_mul_right 4294967296 hp
      omega
    · simp at hs
      omega
  · rintro r a b ⟨a1, a2, a3⟩ ⟨b1, b2, b3⟩
    refine ⟨?_, ?_, fun s hs => ?_⟩
    · show a.1 + b.1 ≤ _
      rw [Nat.pow_succ, Nat.mul_right_comm]
      omega
    · show (a.2 ++ b.2).length ≤ _
      rw [List.length_append, Nat.pow_succ]
      omega
    · rcases List.mem_append.1 hs with h | h
      · exact a3 s h
      · exact b3 s h
theorem pairs_at : ∀ {l : List Item} {t : Nat}, 2 * t + 1 < l.length → (pairsOf l)[t]? = some ((l.getD (2 * t) (0, [])).1 + (l.getD (2 * t + 1) (0, [])).1, (l.getD (2 * t) (0, [])).2 ++ (l.getD (2 * t + 1) (0, [])).2)
  | [], t, h => by simp at h
  | [_], t, h => by simp at h
  | a :: b :: r, 0, _ => by rw [pairsOf]; rfl
  | a :: b :: r, t + 1, h => by
    have := pairs_at (l := r) (t := t) (by simp at h; omega)
    rw [pairsOf, List.getElem?_cons_succ, this, show 2 * (t + 1) = 2 * t + 1 + 1 by omega, show 2 * t + 1 + 1 + 1 = (2 * t + 1) + 1 + 1 by omega]
    simp only [List.getD_cons_succ]
theorem pairs_next {l : List Item} {t : Nat} (h : 2 * t + 1 < l.length) :
    (pairsOf l).take (t + 1) = (pairsOf l).take t ++ [((l.getD (2 * t) (0, [])).1 + (l.getD (2 * t + 1) (0, [])).1, (l.getD (2 * t) (0, [])).2 ++ (l.getD (2 * t + 1) (0, [])).2)] := by
  rw [List.take_add_one, pairs_at h]
  rfl
theorem pairs_end {l : List Item} {t : Nat} (h : ¬ 2 * t + 1 < l.length) : (pairsOf l).take t = pairsOf l := List.take_of_length_le (by rw [pairsOf_len]; omega)
theorem row_enough (lv : List Item) : ∀ (r k : Nat), lv.length ≤ k * 2 ^ r → 2 * lv.length ≤ (row lv r).length + k
  | 0, k, h => by rw [row]; simp at h; omega
  | r + 1, k, h => by
    have := row_enough lv r (2 * k) (by rw [Nat.pow_succ] at h; rw [Nat.mul_comm 2 k, Nat.mul_assoc, Nat.mul_comm 2]; exact h)
    rw [row_len]
    omega
/-- Symbols counted one by one. -/
theorem syms_next {l : List Item} {i : Nat} (h : i < l.length) : syms (l.take (i + 1)) = syms (l.take i) ++ (l.getD i (0, [])).2 := by
  have e : l.take (i + 1) = l.take i ++ [l.getD i (0, [])] := by
    rw [List.take_add_one, List.getElem?_eq_getElem h, List.getD_eq_getElem?_getD, List.getElem?_eq_getElem h]
    rfl
  rw [e]
  simp [syms]
theorem count_step {l : List Item} {i k m s : Nat} (hi : i < m) (hm : m ≤ l.length) : ((syms (l.take i) ++ (l.getD i (0, [])).2.take k).count s) ≤ (syms (l.take m)).count s := by
  have h1 : (syms (l.take i) ++ (l.getD i (0, [])).2.take k).count s ≤ (syms (l.take (i + 1))).count s := by
    rw [syms_next (by omega), List.count_append, List.count_append]
    have := List.Sublist.count_le s (List.take_sublist k (l.getD i (0, [])).2)
    omega
  have h2 : (syms (l.take (i + 1))).count s ≤ (syms (l.take m)).count s := by
    refine List.Sublist.count_le s ?_
    obtain ⟨d, rfl⟩ : ∃ d, m = i + 1 + d := ⟨m - (i + 1), by omega⟩
    rw [List.take_add (l := l) (i := i + 1) (j := d), show syms (l.take (i + 1) ++ (l.drop (i + 1)).take d) = syms (l.take (i + 1)) ++ syms ((l.drop (i + 1)).take d) by simp [syms]]
    exact List.sublist_append_left _ _
  omega
theorem take_next {L : List Nat} {k : Nat} (h : k < L.length) : L.take (k + 1) = L.take k ++ [L.getD k 0] := by
  rw [List.take_add_one, List.getElem?_eq_getElem h]
  simp [List.getD_eq_getElem?_getD, h]
/-- Bytes that count so are the lengths. -/
theorem lens_of {often : List Nat} {L : Nat} {O : List UInt8} (hO : O.length = often.length) (hL : 1 ≤ L) (hL15 : L ≤ 15) (hn : (usedTo often often.length).length ≤ 2 ^ L)
    (h : ∀ q, q < often.length → (O.getD q 0).toNat = lenN often L q) : O = lensL often L := by
  refine List.ext_getElem (by rw [lensL_len, hO]) fun q h1 h2 => ?_
  have e1 := h q (by omega)
  have e2 := lensL_at (q := q) (by omega) hL hL15 hn
  rw [List.getD_eq_getElem?_getD, List.getElem?_eq_getElem h1] at e1
  rw [List.getD_eq_getElem?_getD, List.getElem?_eq_getElem h2] at e2
  exact UInt8.toNat_inj.1 (e1.trans e2.symm)
end Go.Proofs.Ytijelijooecoeaa.Len
