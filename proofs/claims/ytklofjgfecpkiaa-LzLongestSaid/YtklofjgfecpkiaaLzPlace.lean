/- A token's place, how many bytes tokens have; nothing is longer there. Plain mathematics of chapter 10. -/
import Derived.Test.YtklofjgfecpkiaaLzMath
namespace Go.Proofs.Ytklofjgfecpkiaa.Lz

def sumSz (L : List TokV) : Nat := (L.map sizeT).sum
theorem sumSz_cons (t : TokV) (L : List TokV) : sumSz (t :: L) = sizeT t + sumSz L := by simp [sumSz]
theorem sumSz_next {L : List TokV} {i : Nat} (h : i < L.length) : sumSz (L.take (i + 1)) = sumSz (L.take i) + sizeT (L.getD i default) := by
  have e : L.take (i + 1) = L.take i ++ [L.getD i default] := by
    rw [List.take_add_one, List.getD_eq_getElem?_getD, List.getElem?_eq_getElem h]
    rfl
  rw [e]
  unfold sumSz
  rw [List.map_append, List.sum_append]
  simp only [List.map_cons, List.map_nil, List.sum_cons, List.sum_nil, Nat.add_zero]
/-- The i-th token stands where those ahead of it end. -/
theorem nth_tok (b : List UInt8) : ∀ (i p : Nat), i < (toks b p).length → p + sumSz ((toks b p).take i) < b.length ∧ (toks b p).getD i default = tokAt b (p + sumSz ((toks b p).take i))
  | i, p, h => by
    by_cases hp : p < b.length
    · rw [toks_next hp] at h ⊢
      match i with
      | 0 =>
        rw [List.take_zero]
        exact ⟨by simpa [sumSz] using hp, rfl⟩
      | i + 1 =>
        have hs := (play_tok hp).2.1
        have ih := nth_tok b i (p + stepAt b p) (by simpa using h)
        rw [List.take_succ_cons, sumSz_cons, hs, ← Nat.add_assoc]
        exact ⟨ih.1, ih.2⟩
    · rw [toks_end hp] at h
      simp at h
theorem sum_in (b : List UInt8) {i : Nat} (h : i < (toks b 0).length) : sumSz ((toks b 0).take (i + 1)) ≤ b.length := by
  obtain ⟨h1, h2⟩ := nth_tok b i 0 h
  rw [Nat.zero_add] at h1 h2
  rw [sumSz_next h, h2, (play_tok h1).2.1]
  exact step_in h1
theorem size_small {t : TokV} (h : may t = true) : (t.len = 0 ∨ 3 ≤ t.len ∧ t.len ≤ 257) ∧ sizeT t ≤ 257 := by
  by_cases h0 : t.len = 0
  · exact ⟨.inl h0, by unfold sizeT; rw [if_pos h0]; omega⟩
  · unfold may at h
    rw [if_neg h0] at h
    obtain ⟨_, h1, h2, _⟩ := of_decide_eq_true h
    exact ⟨.inr ⟨h1, h2⟩, by unfold sizeT; rw [if_neg h0]; omega⟩
/-- At a token's place nothing is longer, nor as long and nearer. -/
theorem tok_long {b : List UInt8} {p d : Nat} (hd : 1 ≤ d) (hdp : d ≤ p) (hd4 : d ≤ 4095) :
    ((tokAt b p).len = 0 → run b p d < 3 ∧ (tokAt b p).lit = b.getD p 0) ∧
    ((tokAt b p).len ≠ 0 → (run b p d : Int) < (tokAt b p).len ∨ (run b p d : Int) = (tokAt b p).len ∧ (tokAt b p).dist ≤ d) := by
  have h1 := best_top b p (min 4095 p) d hd (by omega)
  have h2 := best_near b p (min 4095 p) d hd
  unfold tokAt
  by_cases h3 : 3 ≤ (bestAt b p).1
  · rw [if_pos h3]
    unfold bestAt at *
    refine ⟨fun h => by dsimp only at h; omega, fun _ => ?_⟩
    dsimp only
    by_cases e : run b p d < (best b p (min 4095 p)).1
    · exact .inl (by omega)
    · exact .inr ⟨by omega, by
        have : ¬ d < (best b p (min 4095 p)).2 := fun h => e (h2 h)
        omega⟩
  · rw [if_neg h3]
    unfold bestAt at *
    exact ⟨fun _ => ⟨by omega, rfl⟩, fun h => absurd rfl h⟩
end Go.Proofs.Ytklofjgfecpkiaa.Lz
