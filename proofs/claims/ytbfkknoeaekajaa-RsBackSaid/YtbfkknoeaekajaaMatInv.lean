/- What an inverse is, of matrices that came in; its laws. -/
import Derived.Test.YtbfkknoeaekajaaMatDef
namespace Go.Proofs.Ytbfkknoeaekajaa
open Go.RowKit

theorem cells_congr {c n : Nat} {f g : Mat.M} (h : ∀ i, i < n → f (i / c) (i % c) = g (i / c) (i % c)) : cellsOf c f n = cellsOf c g n :=
  List.map_congr_left fun i hi => h i (List.mem_range.1 hi)
theorem at_cells {r c : Nat} {f : Mat.M} {i j : Nat} (hi : i < r) (hj : j < c) : (⟨r, c, cellsOf c f (r * c)⟩ : MV).at i j = f i j := by
  have hlt : i * c + j < r * c := by
    have : (i + 1) * c ≤ r * c := Nat.mul_le_mul_right _ hi
    rw [Nat.add_mul, Nat.one_mul] at this
    omega
  have hdiv : (i * c + j) / c = i := by
    rw [Nat.mul_comm, Nat.mul_add_div (by omega), Nat.div_eq_of_lt hj, Nat.add_zero]
  have hmod : (i * c + j) % c = j := by
    rw [Nat.mul_comm, Nat.mul_add_mod, Nat.mod_eq_of_lt hj]
  unfold MV.at cellsOf
  simp only [Int.toNat_natCast]
  rw [List.getD_eq_getElem?_getD, List.getElem?_map, List.getElem?_range hlt]
  simp [hdiv, hmod]
theorem square_congr {n : Nat} {f g : Mat.M} (h : ∀ i j, i < n → j < n → f i j = g i j) : cellsOf n f (n * n) = cellsOf n g (n * n) := by
  refine cells_congr fun i hi => ?_
  have hn : 0 < n := by
    rcases Nat.eq_zero_or_pos n with h0 | h0
    · rw [h0] at hi; omega
    · exact h0
  exact h _ _ (Nat.div_lt_of_lt_mul hi) (Nat.mod_lt _ hn)
theorem square_may {n : Nat} (f : Mat.M) (hn : n ≤ 255) : (⟨n, n, cellsOf n f (n * n)⟩ : MV).may = true :=
  MV.may_iff.2 ⟨by simp, by simp; omega, by simp, by simp; omega, by simp [cellsOf_len]⟩

/-- The inverse of a matrix, where there is one; 14 where it is flat. -/
noncomputable def MV.invE (m : MV) : MV × Int :=
  if m.may = true ∧ m.r = m.c then
    @dite _ (∃ X, Mat.Inv m.r.toNat m.at X) (Classical.propDecidable _) (fun h => (⟨m.r, m.r, cellsOf m.r.toNat h.choose (m.r.toNat * m.r.toNat)⟩, 0)) (fun _ => (MV.zero, 14))
  else (MV.zero, 13)
theorem MV.invE_of {m : MV} (hm : m.may = true) (hr : m.r = m.c) {X : Mat.M} (hX : Mat.Inv m.r.toNat m.at X) : m.invE = (⟨m.r, m.r, cellsOf m.r.toNat X (m.r.toNat * m.r.toNat)⟩, 0) := by
  unfold MV.invE
  have he : ∃ X, Mat.Inv m.r.toNat m.at X := ⟨X, hX⟩
  rw [if_pos ⟨hm, hr⟩, dif_pos he, square_congr (fun i j hi hj => Mat.Inv.only he.choose_spec hX i j hi hj)]
theorem MV.invE_ok {m : MV} (h : m.invE.2 = 0) : ∃ (n : Nat) (X : Mat.M), n ≤ 255 ∧ m.r = n ∧ m.c = n ∧ m.may = true ∧ Mat.Inv n m.at X ∧ m.invE = (⟨n, n, cellsOf n X (n * n)⟩, 0) := by
  by_cases hc : m.may = true ∧ m.r = m.c
  · by_cases he : ∃ X, Mat.Inv m.r.toNat m.at X
    · obtain ⟨X, hX⟩ := he
      have hv := MV.invE_of hc.1 hc.2 hX
      obtain ⟨q1, q2, q3, q4, q5⟩ := MV.may_iff.1 hc.1
      obtain ⟨n, hn⟩ := Int.eq_ofNat_of_zero_le q1
      rw [hn] at hX hv
      exact ⟨n, X, by omega, hn, by rw [← hc.2, hn], hc.1, hX, hv⟩
    · unfold MV.invE at h
      rw [if_pos hc, dif_neg he] at h
      simp at h
  · unfold MV.invE at h
    rw [if_neg hc] at h
    simp at h
/-- The other way round. -/
theorem MV.invE_turn {a b : MV} (ha : a.invE.2 = 0) (hb : b.invE.2 = 0) (hr : a.r = b.r) : (a.mulR b).invE = (b.invE.1.mulR a.invE.1, 0) ∧ a.may = true ∧ b.may = true ∧ a.c = b.r ∧ b.invE.1.may = true ∧ a.invE.1.may = true ∧ b.invE.1.c = a.invE.1.r := by
  obtain ⟨n, X, hn, a1, a2, a3, hX, a4⟩ := MV.invE_ok ha
  obtain ⟨n', Y, _, b1, b2, b3, hY, b4⟩ := MV.invE_ok hb
  obtain rfl : n = n' := by omega
  rw [a4, b4]
  refine ⟨?_, a3, b3, by omega, square_may _ hn, square_may _ hn, rfl⟩
  have hp : a.mulR b = ⟨n, n, cellsOf n (Mat.mm n a.at b.at) (n * n)⟩ := by
    unfold MV.mulR
    rw [a1, a2, b2]
    simp
  rw [hp]
  have hq : ∀ i j, i < n → j < n → (⟨n, n, cellsOf n (Mat.mm n a.at b.at) (n * n)⟩ : MV).at i j = Mat.mm n a.at b.at i j := fun i j hi hj => at_cells hi hj
  have hI : Mat.Inv n (⟨n, n, cellsOf n (Mat.mm n a.at b.at) (n * n)⟩ : MV).at (Mat.mm n Y X) := by
    constructor
    · intro i j hi hj
      rw [Mat.mm_congr (fun k hk => hq i k hi hk) (fun k hk => rfl), Mat.mm_assoc]
      rw [Mat.mm_congr (B' := X) (fun k hk => rfl) (fun k hk => by
        rw [← Mat.mm_assoc, Mat.mm_congr (A' := Mat.one) (B' := X) (fun t ht => hY.1 k t hk ht) (fun t ht => rfl)]
        exact Mat.one_mm X j hk)]
      exact hX.1 i j hi hj
    · intro i j hi hj
      rw [Mat.mm_congr (fun k hk => rfl) (fun k hk => hq k j hk hj), Mat.mm_assoc]
      rw [Mat.mm_congr (B' := b.at) (fun k hk => rfl) (fun k hk => by
        rw [← Mat.mm_assoc, Mat.mm_congr (A' := Mat.one) (B' := b.at) (fun t ht => hX.2 k t hk ht) (fun t ht => rfl)]
        exact Mat.one_mm b.at j hk)]
      exact hY.2 i j hi hj
  have hv := MV.invE_of (m := ⟨n, n, cellsOf n (Mat.mm n a.at b.at) (n * n)⟩) (square_may _ hn) rfl (X := Mat.mm n Y X) (by simpa using hI)
  rw [hv]
  simp only [MV.mulR, Int.toNat_natCast]
  rw [square_congr (n := n) fun i j hi hj => Mat.mm_congr (fun k hk => (at_cells (f := Y) hi hk).symm) (fun k hk => (at_cells (f := X) hk hj).symm)]
end Go.Proofs.Ytbfkknoeaekajaa
