/- Ranks, and Cauchy's matrices: plain mathematics. -/
import Derived.Test.YtbfkknoeaekajaaMatGauss
namespace Go.Proofs.Ytbfkknoeaekajaa
open Go.RowKit

namespace Mat
/-! ### Ranks -/
/-- The sum of n rows of T, each times its element. -/
def comb (n : Nat) (x : Nat → UInt8) (T : M) (j : Nat) : UInt8 := sum n fun k => fm (x k) (T k j)
def Indep (n c : Nat) (T : M) : Prop := ∀ x, (∀ j, j < c → comb n x T j = 0) → ∀ k, k < n → x k = 0
def InSpan (n c : Nat) (T : M) (v : Nat → UInt8) : Prop := ∃ x, ∀ j, j < c → v j = comb n x T j
theorem wide {n k : Nat} (C : M) (h : k < n) : ∃ x : Nat → UInt8, (∃ i, i < n ∧ x i ≠ 0) ∧ ∀ j, j < k → sum n (fun i => fm (x i) (C i j)) = 0 := by
  rcases inv_or_ker n (fun i j => if i < k then C j i else 0) with ⟨X, hX, _⟩ | ⟨v, hv, hz⟩
  · have h1 := hX k k h h
    have h2 : mm n (fun i j => if i < k then C j i else 0) X k k = 0 := sum_zero n fun l _ => by
      show fm (if k < k then C l k else 0) (X l k) = 0
      rw [if_neg (by omega), zero_fm]
    rw [h2, one, if_pos rfl] at h1
    exact absurd h1.symm one_ne
  · refine ⟨v, hv, fun j hj => ?_⟩
    rw [← hz j (by omega)]
    refine sum_congr fun i _ => ?_
    show fm (v i) (C i j) = fm (if j < k then C i j else 0) (v i)
    rw [if_pos hj, fm_comm]
/-- Rows that are independent, and sums of others, are no more than these. -/
theorem Indep.le {n k c : Nat} {T S : M} (hT : Indep n c T) (hS : ∀ i, i < n → InSpan k c S (T i)) : n ≤ k := by
  rcases Nat.lt_or_ge k n with h | h
  · exfalso
    have hc : ∀ i, ∃ x, i < n → ∀ j, j < c → T i j = comb k x S j := fun i => by
      by_cases hi : i < n
      · obtain ⟨x, hx⟩ := hS i hi
        exact ⟨x, fun _ => hx⟩
      · exact ⟨fun _ => 0, fun h => absurd h hi⟩
    obtain ⟨C, hC⟩ := Classical.axiomOfChoice hc
    obtain ⟨x, ⟨i, hi, hxi⟩, hz⟩ := wide (n := n) (k := k) C h
    refine hxi (hT x (fun j hj => ?_) i hi)
    have e : comb n x T j = sum n (fun i => sum k fun l => fm (fm (x i) (C i l)) (S l j)) := sum_congr fun i hi => by
      rw [hC i hi j hj]
      unfold comb
      rw [← sum_fm]
      exact sum_congr fun l _ => (fm_assoc _ _ _).symm
    rw [e, sum_swap]
    exact sum_zero k fun l hl => by rw [fm_sum, hz l hl, zero_fm]
  · exact h
/-- A's rank (m rows, c columns) is r: r independent rows that have the same sums. -/
def HasRank (m c : Nat) (A : M) (r : Nat) : Prop := ∃ T, Indep r c T ∧ (∀ i, i < r → InSpan m c A (T i)) ∧ ∀ i, i < m → InSpan r c T (A i)
theorem InSpan.trans {n k c : Nat} {T S : M} {v : Nat → UInt8} (hv : InSpan n c T v) (h : ∀ i, i < n → InSpan k c S (T i)) : InSpan k c S v := by
  obtain ⟨x, hx⟩ := hv
  have hc : ∀ i, ∃ y, i < n → ∀ j, j < c → T i j = comb k y S j := fun i => by
    by_cases hi : i < n
    · obtain ⟨y, hy⟩ := h i hi
      exact ⟨y, fun _ => hy⟩
    · exact ⟨fun _ => 0, fun h => absurd h hi⟩
  obtain ⟨C, hC⟩ := Classical.axiomOfChoice hc
  refine ⟨fun l => sum n fun i => fm (x i) (C i l), fun j hj => ?_⟩
  have e : comb n x T j = sum n (fun i => sum k fun l => fm (fm (x i) (C i l)) (S l j)) := sum_congr fun i hi => by
    rw [hC i hi j hj]
    unfold comb
    rw [← sum_fm]
    exact sum_congr fun l _ => (fm_assoc _ _ _).symm
  rw [hx j hj, e, sum_swap]
  exact sum_congr fun l _ => fm_sum _ _ _
theorem HasRank.only {m c r s : Nat} {A : M} (h : HasRank m c A r) (k : HasRank m c A s) : r = s := by
  obtain ⟨T, h1, h2, h3⟩ := h
  obtain ⟨S, k1, k2, k3⟩ := k
  have a := h1.le fun i hi => (h2 i hi).trans k3
  have b := k1.le fun i hi => (k2 i hi).trans h3
  omega
theorem InSpan.self {n c i : Nat} (T : M) (hi : i < n) : InSpan n c T (T i) := by
  refine ⟨fun k => one i k, fun j _ => ?_⟩
  exact (one_mm T j hi).symm
/-- Rows each of which has a place that is not 0 and at which all later ones are 0. -/
theorem Indep.of_leads {n c : Nat} {T : M} (l : Nat → Nat) (hl : ∀ k, k < n → l k < c) (h1 : ∀ k, k < n → T k (l k) ≠ 0) (h2 : ∀ k k', k < k' → k' < n → T k' (l k) = 0) : Indep n c T := by
  intro x hx
  have key : ∀ m, m ≤ n → ∀ k, k < m → x k = 0 := by
    intro m
    induction m with
    | zero => intro _ k hk; omega
    | succ m ih =>
      intro hm k hk
      by_cases hkm : k < m
      · exact ih (by omega) k hkm
      · obtain rfl : k = m := by omega
        have e := hx (l k) (hl k (by omega))
        unfold comb at e
        rw [sum_one (i := k) (by omega) (fun i hi hik => by
          by_cases hlt : i < k
          · rw [ih (by omega) i hlt, zero_fm]
          · rw [h2 k i (by omega) hi, fm_zero])] at e
        rcases fm_eq_zero e with h | h
        · exact h
        · exact absurd h (h1 k (by omega))
  exact key n (Nat.le_refl _)
/-- The rows and columns change places. -/
theorem Inv.flip {n : Nat} {A X : M} (h : Inv n A X) : Inv n (fun i j => A j i) (fun i j => X j i) := by
  have hs : ∀ i j, one i j = one j i := fun i j => by
    unfold one
    by_cases hij : i = j
    · rw [if_pos hij, if_pos hij.symm]
    · rw [if_neg hij, if_neg (fun e => hij e.symm)]
  refine ⟨fun i j hi hj => ?_, fun i j hi hj => ?_⟩
  · rw [hs, ← h.2 j i hj hi]
    exact sum_congr fun k _ => fm_comm _ _
  · rw [hs, ← h.1 j i hj hi]
    exact sum_congr fun k _ => fm_comm _ _
theorem Inv.indep {n : Nat} {A X : M} (h : Inv n A X) : Indep n n A := fun x hx k hk => by
  by_cases hxk : x k = 0
  · exact hxk
  · exact absurd (KerL.none (v := x) ⟨⟨k, hk, hxk⟩, hx⟩ h.1) id
theorem Indep.inv {n : Nat} {A : M} (h : Indep n n A) : ∃ X, Inv n A X := by
  rcases inv_or_ker n (fun i j => A j i) with ⟨X, hX⟩ | ⟨v, ⟨i, hi, hv⟩, hz⟩
  · exact ⟨_, hX.flip⟩
  · refine absurd (h v (fun j hj => ?_) i hi) hv
    rw [← hz j hj]
    exact sum_congr fun k _ => fm_comm _ _
/-- There is an inverse just if the rank is all rows. -/
theorem HasRank.full {n r : Nat} {A : M} (h : HasRank n n A r) : (∃ X, Inv n A X) ↔ r = n := by
  constructor
  · rintro ⟨X, hX⟩
    exact h.only ⟨A, hX.indep, fun i hi => InSpan.self A hi, fun i hi => InSpan.self A hi⟩
  · rintro rfl
    rcases inv_or_ker r A with hX | ⟨v, hv⟩
    · exact hX
    · obtain ⟨T, h1, h2, _⟩ := h
      obtain ⟨Y, hY⟩ := h1.inv
      refine absurd (Ker.none (A := T) (v := v) ⟨hv.1, fun i hi => ?_⟩ hY.2) id
      obtain ⟨x, hx⟩ := h2 i hi
      have e : sum r (fun j => fm (T i j) (v j)) = sum r (fun j => sum r fun k => fm (fm (x k) (A k j)) (v j)) := sum_congr fun j hj => by
        rw [hx j hj, fm_sum]
        rfl
      rw [e, sum_swap]
      refine sum_zero r fun k hk => ?_
      rw [← fm_zero (x k), ← hv.2 k hk, ← sum_fm]
      exact sum_congr fun j _ => fm_assoc _ _ _

/-! ### Cauchy's matrices -/
theorem fi_ne {a : UInt8} (h : a ≠ 0) : fi a ≠ 0 := fun e => by
  have := fm_fi h
  rw [e, fm_zero] at this
  exact one_ne this.symm
theorem fi_add {a b : UInt8} (ha : a ≠ 0) (hb : b ≠ 0) : fi a ^^^ fi b = fm (a ^^^ b) (fm (fi a) (fi b)) := by
  rw [xor_fm, ← fm_assoc, fm_fi ha, one_fm, fm_comm (fi a), ← fm_assoc, fm_fi hb, one_fm, UInt8.xor_comm]
/-- The sum over pairs (place, factor) of factor by x and place. -/
def csum (x : UInt8) : List (UInt8 × UInt8) → UInt8
  | [] => 0
  | (y, v) :: l => fm v (fi (x ^^^ y)) ^^^ csum x l
theorem csum_step (x x0 y0 : UInt8) (hx : x ≠ x0) : ∀ l : List (UInt8 × UInt8), (∀ p ∈ l, x ≠ p.1 ∧ x0 ≠ p.1) →
    fm (x ^^^ y0) (csum x l) ^^^ fm (x0 ^^^ y0) (csum x0 l) = fm (x ^^^ x0) (csum x (l.map fun p => (p.1, fm p.2 (fm (p.1 ^^^ y0) (fi (x0 ^^^ p.1))))))
  | [], _ => by simp [csum, fm_zero]
  | (y, v) :: l, h => by
    have ih := csum_step x x0 y0 hx l fun p hp => h p (List.mem_cons_of_mem _ hp)
    have ha : x ^^^ y ≠ 0 := fun e => (h (y, v) (List.mem_cons_self)).1 (xor_eq_zero e)
    have hb : x0 ^^^ y ≠ 0 := fun e => (h (y, v) (List.mem_cons_self)).2 (xor_eq_zero e)
    simp only [csum, List.map_cons]
    rw [fm_xor, fm_xor, xor4, ih, fm_xor]
    congr 1
    have e1 : x ^^^ y0 = (x ^^^ y) ^^^ (y ^^^ y0) := by rw [UInt8.xor_assoc, ← UInt8.xor_assoc y, UInt8.xor_self, UInt8.zero_xor]
    have e2 : x0 ^^^ y0 = (x0 ^^^ y) ^^^ (y ^^^ y0) := by rw [UInt8.xor_assoc, ← UInt8.xor_assoc y, UInt8.xor_self, UInt8.zero_xor]
    have e3 : x ^^^ x0 = (x ^^^ y) ^^^ (x0 ^^^ y) := by rw [UInt8.xor_comm x0 y, UInt8.xor_assoc, ← UInt8.xor_assoc y, UInt8.xor_self, UInt8.zero_xor]
    rw [e1, e2, e3]
    generalize x ^^^ y = a at *
    generalize x0 ^^^ y = b at *
    generalize y ^^^ y0 = d at *
    have f1 : fm (a ^^^ d) (fm v (fi a)) = v ^^^ fm v (fm d (fi a)) := by
      rw [xor_fm, ← fm_assoc a, fm_comm a v, fm_assoc v, fm_fi ha, fm_one, ← fm_assoc d, fm_comm d v, fm_assoc]
    have f2 : fm (b ^^^ d) (fm v (fi b)) = v ^^^ fm v (fm d (fi b)) := by
      rw [xor_fm, ← fm_assoc b, fm_comm b v, fm_assoc v, fm_fi hb, fm_one, ← fm_assoc d, fm_comm d v, fm_assoc]
    rw [f1, f2, xor4, UInt8.xor_self, UInt8.zero_xor, ← fm_xor, ← fm_xor, fi_add ha hb, fm_assoc v, fm_assoc d, ← fm_assoc (a ^^^ b) v, fm_comm (a ^^^ b) v, fm_assoc v, ← fm_assoc (a ^^^ b) d, fm_comm (a ^^^ b) d, fm_assoc d, fm_comm (fi a) (fi b)]
theorem csum_zero (x : UInt8) : ∀ l : List (UInt8 × UInt8), (∀ p ∈ l, p.2 = 0) → csum x l = 0
  | [], _ => rfl
  | (y, v) :: l, h => by
    rw [csum, csum_zero x l fun p hp => h p (List.mem_cons_of_mem _ hp), show v = 0 from h (y, v) List.mem_cons_self, zero_fm]
    rfl
theorem cauchy : ∀ (ys : List (UInt8 × UInt8)) (xs : List UInt8), ys.length ≤ xs.length → xs.Nodup → (ys.map (·.1)).Nodup → (∀ x ∈ xs, ∀ p ∈ ys, x ≠ p.1) → (∀ x ∈ xs, csum x ys = 0) → ∀ p ∈ ys, p.2 = 0
  | [], _, _, _, _, _, _ => fun p hp => by cases hp
  | (y0, v0) :: ys, [], hl, _, _, _, _ => by simp at hl
  | (y0, v0) :: ys, x0 :: xs, hl, hx, hy, hne, hz => by
    rw [List.nodup_cons] at hx
    rw [List.map_cons, List.nodup_cons] at hy
    have hrest : ∀ p ∈ ys, p.2 = 0 := by
      have ih := cauchy (ys.map fun p => (p.1, fm p.2 (fm (p.1 ^^^ y0) (fi (x0 ^^^ p.1))))) xs (by simpa using hl) hx.2 (by
        rw [List.map_map]
        exact hy.2) (fun x hxs p hp => by
          obtain ⟨q, hq, rfl⟩ := List.mem_map.1 hp
          exact hne x (List.mem_cons_of_mem _ hxs) q (List.mem_cons_of_mem _ hq)) (fun x hxs => by
          have hxx : x ≠ x0 := fun e => hx.1 (e ▸ hxs)
          have h1 := csum_step x x0 y0 hxx ((y0, v0) :: ys) (fun p hp => ⟨hne x (List.mem_cons_of_mem _ hxs) p hp, hne x0 List.mem_cons_self p hp⟩)
          rw [hz x (List.mem_cons_of_mem _ hxs), hz x0 List.mem_cons_self, fm_zero, fm_zero, UInt8.xor_self] at h1
          rcases fm_eq_zero h1.symm with h2 | h2
          · exact absurd (xor_eq_zero h2) hxx
          · rw [List.map_cons, csum] at h2
            simpa [UInt8.xor_self, zero_fm, fm_zero] using h2)
      intro p hp
      have h3 := ih _ (List.mem_map.2 ⟨p, hp, rfl⟩)
      rcases fm_eq_zero h3 with h4 | h4
      · exact h4
      · exfalso
        rcases fm_eq_zero h4 with h5 | h5
        · exact hy.1 (List.mem_map.2 ⟨p, hp, xor_eq_zero h5⟩)
        · exact fi_ne (fun e => hne x0 List.mem_cons_self p (List.mem_cons_of_mem _ hp) (xor_eq_zero e)) h5
    intro p hp
    rcases List.mem_cons.1 hp with rfl | hp
    · have h1 := hz x0 List.mem_cons_self
      rw [csum, csum_zero x0 ys hrest, UInt8.xor_zero] at h1
      rcases fm_eq_zero h1 with h | h
      · exact h
      · exact absurd h (fi_ne fun e => hne x0 List.mem_cons_self (y0, v0) List.mem_cons_self (xor_eq_zero e))
    · exact hrest p hp
end Mat
end Go.Proofs.Ytbfkknoeaekajaa
