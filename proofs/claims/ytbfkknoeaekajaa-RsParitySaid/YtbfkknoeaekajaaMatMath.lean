/- Matrices over the field of 256 elements: plain mathematics. -/
import Derived.Test.YtbfkknoeaekajaaGfMath
namespace Go.Proofs.Ytbfkknoeaekajaa
open Go.RowKit

namespace Mat
/-- The product of elements, as bytes. -/
def fm (a b : UInt8) : UInt8 := UInt8.ofNat (Gf.mul a.toNat b.toNat)
def fi (a : UInt8) : UInt8 := UInt8.ofNat (Gf.inv a.toNat)
theorem lt (a : UInt8) : a.toNat < 256 := UInt8.toNat_lt a
theorem fm_toNat (a b : UInt8) : (fm a b).toNat = Gf.mul a.toNat b.toNat := by
  unfold fm
  rw [UInt8.toNat_ofNat']
  exact Nat.mod_eq_of_lt (Gf.mul_lt (lt a) (lt b))
theorem ext8 {a b : UInt8} (h : a.toNat = b.toNat) : a = b := UInt8.toNat_inj.1 h
theorem fm_comm (a b : UInt8) : fm a b = fm b a := ext8 (by rw [fm_toNat, fm_toNat, Gf.mul_comm (lt a) (lt b)])
theorem fm_assoc (a b c : UInt8) : fm (fm a b) c = fm a (fm b c) := ext8 (by rw [fm_toNat, fm_toNat, fm_toNat, fm_toNat, Gf.mul_assoc (lt a) (lt b) (lt c)])
theorem fm_one (a : UInt8) : fm a 1 = a := ext8 (by rw [fm_toNat]; exact Gf.mul_one (lt a))
theorem one_fm (a : UInt8) : fm 1 a = a := by rw [fm_comm, fm_one]
theorem fm_zero (a : UInt8) : fm a 0 = 0 := ext8 (by rw [fm_toNat]; exact Gf.mul_zero _)
theorem zero_fm (a : UInt8) : fm 0 a = 0 := by rw [fm_comm, fm_zero]
theorem fm_xor (a b c : UInt8) : fm a (b ^^^ c) = fm a b ^^^ fm a c := ext8 (by rw [fm_toNat, UInt8.toNat_xor, UInt8.toNat_xor, fm_toNat, fm_toNat, Gf.mul_xor])
theorem xor_fm (a b c : UInt8) : fm (a ^^^ b) c = fm a c ^^^ fm b c := by rw [fm_comm, fm_xor, fm_comm c, fm_comm c]
theorem fm_fi {a : UInt8} (h : a ≠ 0) : fm a (fi a) = 1 := by
  have h0 : a.toNat ≠ 0 := fun e => h (ext8 e)
  apply ext8
  unfold fi
  rw [fm_toNat, UInt8.toNat_ofNat', Nat.mod_eq_of_lt (Gf.inv_lt (lt a) h0), Gf.mul_inv (lt a) h0]
  rfl
theorem fi_fm {a : UInt8} (h : a ≠ 0) : fm (fi a) a = 1 := by rw [fm_comm, fm_fi h]
theorem fm_eq_zero {a b : UInt8} (h : fm a b = 0) : a = 0 ∨ b = 0 := by
  by_cases ha : a = 0
  · exact .inl ha
  · refine .inr ?_
    have : fm (fi a) (fm a b) = 0 := by rw [h, fm_zero]
    rwa [← fm_assoc, fi_fm ha, one_fm] at this
theorem one_ne : (1 : UInt8) ≠ 0 := by decide
theorem xor4 (a b c d : UInt8) : (a ^^^ b) ^^^ (c ^^^ d) = (a ^^^ c) ^^^ (b ^^^ d) := by
  rw [UInt8.xor_assoc, UInt8.xor_assoc, ← UInt8.xor_assoc b, UInt8.xor_comm b c, UInt8.xor_assoc c]
theorem xor_eq_zero {a b : UInt8} (h : a ^^^ b = 0) : a = b := by
  have : a ^^^ b ^^^ b = b := by rw [h, UInt8.zero_xor]
  rwa [UInt8.xor_assoc, UInt8.xor_self, UInt8.xor_zero] at this

/-- The sum of n elements. -/
def sum : Nat → (Nat → UInt8) → UInt8
  | 0, _ => 0
  | n + 1, f => sum n f ^^^ f n
theorem sum_congr : ∀ {n : Nat} {f g : Nat → UInt8}, (∀ k, k < n → f k = g k) → sum n f = sum n g
  | 0, _, _, _ => rfl
  | n + 1, f, g, h => by rw [sum, sum, sum_congr (fun k hk => h k (by omega)), h n (by omega)]
theorem sum_zero : ∀ (n : Nat) {f : Nat → UInt8}, (∀ k, k < n → f k = 0) → sum n f = 0
  | 0, _, _ => rfl
  | n + 1, f, h => by rw [sum, sum_zero n (fun k hk => h k (by omega)), h n (by omega)]; rfl
theorem sum_xor : ∀ (n : Nat) (f g : Nat → UInt8), sum n (fun k => f k ^^^ g k) = sum n f ^^^ sum n g
  | 0, _, _ => by simp [sum]
  | n + 1, f, g => by rw [sum, sum, sum, sum_xor n f g, xor4]
theorem sum_fm (c : UInt8) : ∀ (n : Nat) (f : Nat → UInt8), sum n (fun k => fm c (f k)) = fm c (sum n f)
  | 0, _ => (fm_zero c).symm
  | n + 1, f => by rw [sum, sum, sum_fm c n f, fm_xor]
theorem fm_sum (c : UInt8) (n : Nat) (f : Nat → UInt8) : sum n (fun k => fm (f k) c) = fm (sum n f) c := by
  rw [fm_comm, ← sum_fm]
  exact sum_congr fun k _ => fm_comm _ _
theorem sum_swap (m : Nat) : ∀ (n : Nat) (f : Nat → Nat → UInt8), sum n (fun i => sum m fun j => f i j) = sum m (fun j => sum n fun i => f i j)
  | 0, f => (sum_zero m fun _ _ => rfl).symm
  | n + 1, f => by
    rw [sum, sum_swap m n f, ← sum_xor]
    rfl
/-- All but one of the terms are 0. -/
theorem sum_one {n i : Nat} {f : Nat → UInt8} (hi : i < n) (h : ∀ k, k < n → k ≠ i → f k = 0) : sum n f = f i := by
  induction n with
  | zero => omega
  | succ n ih =>
    rw [sum]
    by_cases hin : i = n
    · subst hin
      rw [sum_zero i (fun k hk => h k (by omega) (by omega)), UInt8.zero_xor]
    · rw [ih (by omega) (fun k hk hki => h k (by omega) hki), h n (by omega) (fun e => hin e.symm), UInt8.xor_zero]

abbrev M := Nat → Nat → UInt8
/-- The product of matrices; n: the inner size. -/
def mm (n : Nat) (A B : M) : M := fun i j => sum n fun k => fm (A i k) (B k j)
def one : M := fun i j => if i = j then 1 else 0
theorem mm_assoc (m n : Nat) (A B C : M) (i j : Nat) : mm n (mm m A B) C i j = mm m A (mm n B C) i j := by
  unfold mm
  have h1 : (fun k => fm (sum m fun l => fm (A i l) (B l k)) (C k j)) = fun k => sum m fun l => fm (fm (A i l) (B l k)) (C k j) := by
    funext k
    rw [fm_sum]
  have h2 : (fun l => fm (A i l) (sum n fun k => fm (B l k) (C k j))) = fun l => sum n fun k => fm (fm (A i l) (B l k)) (C k j) := by
    funext l
    rw [← sum_fm]
    exact sum_congr fun k _ => (fm_assoc _ _ _).symm
  rw [h1, h2]
  exact sum_swap m n _
theorem mm_one {n j : Nat} (A : M) (i : Nat) (hj : j < n) : mm n A one i j = A i j := by
  unfold mm
  rw [sum_one hj (fun k _ hk => by rw [one, if_neg hk, fm_zero]), one, if_pos rfl, fm_one]
theorem one_mm {n i : Nat} (A : M) (j : Nat) (hi : i < n) : mm n one A i j = A i j := by
  unfold mm
  rw [sum_one hi (fun k _ hk => by rw [one, if_neg (fun e => hk e.symm), zero_fm]), one, if_pos rfl, one_fm]
theorem mm_congr {n : Nat} {A A' B B' : M} {i j : Nat} (hA : ∀ k, k < n → A i k = A' i k) (hB : ∀ k, k < n → B k j = B' k j) : mm n A B i j = mm n A' B' i j :=
  sum_congr fun k hk => by rw [hA k hk, hB k hk]

/-- X is the inverse of A, of n rows. -/
def Inv (n : Nat) (A X : M) : Prop := (∀ i j, i < n → j < n → mm n A X i j = one i j) ∧ (∀ i j, i < n → j < n → mm n X A i j = one i j)
theorem sides {n : Nat} {A X Y : M} (hX : ∀ i j, i < n → j < n → mm n X A i j = one i j) (hY : ∀ i j, i < n → j < n → mm n A Y i j = one i j) (i j : Nat) (hi : i < n) (hj : j < n) : X i j = Y i j := by
  have h1 := mm_assoc n n X A Y i j
  rw [mm_congr (A' := one) (B' := Y) (fun k hk => hX i k hi hk) (fun _ _ => rfl), one_mm _ _ hi] at h1
  rw [mm_congr (A := X) (A' := X) (B' := one) (fun _ _ => rfl) (fun k hk => hY k j hk hj), mm_one _ _ hj] at h1
  exact h1.symm
theorem Inv.only {n : Nat} {A X Y : M} (hX : Inv n A X) (hY : Inv n A Y) (i j : Nat) (hi : i < n) (hj : j < n) : X i j = Y i j := sides hX.2 hY.1 i j hi hj
/-- v, not all 0, times which A is 0. -/
def Ker (n : Nat) (A : M) (v : Nat → UInt8) : Prop := (∃ i, i < n ∧ v i ≠ 0) ∧ ∀ i, i < n → sum n (fun k => fm (A i k) (v k)) = 0
theorem Ker.none {n : Nat} {A X : M} {v : Nat → UInt8} (h : Ker n A v) (hX : ∀ i j, i < n → j < n → mm n X A i j = one i j) : False := by
  obtain ⟨⟨i, hi, hv⟩, hk⟩ := h
  have h1 := mm_assoc n n X A (fun k _ => v k) i 0
  rw [mm_congr (A' := one) (B' := fun k _ => v k) (fun k hk => hX i k hi hk) (fun _ _ => rfl), one_mm _ _ hi] at h1
  have h2 : mm n X (mm n A fun k _ => v k) i 0 = 0 := sum_zero n fun k hkn => by
    show fm (X i k) (sum n fun l => fm (A k l) (v l)) = 0
    rw [hk k hkn, fm_zero]
  exact hv (h1.trans h2)
/-- v, not all 0, which times A is 0. -/
def KerL (n m : Nat) (A : M) (v : Nat → UInt8) : Prop := (∃ i, i < n ∧ v i ≠ 0) ∧ ∀ j, j < m → sum n (fun k => fm (v k) (A k j)) = 0
theorem KerL.none {n : Nat} {A X : M} {v : Nat → UInt8} (h : KerL n n A v) (hX : ∀ i j, i < n → j < n → mm n A X i j = one i j) : False := by
  obtain ⟨⟨i, hi, hv⟩, hk⟩ := h
  have h1 := mm_assoc n n (fun _ k => v k) A X 0 i
  rw [mm_congr (A := fun _ k => v k) (A' := fun _ k => v k) (B' := one) (fun _ _ => rfl) (fun k hk => hX k i hk hi), mm_one _ _ hi] at h1
  have h2 : mm n (mm n (fun _ k => v k) A) X 0 i = 0 := sum_zero n fun k hkn => by
    show fm (sum n fun l => fm (v l) (A l k)) (X k i) = 0
    rw [hk k hkn, zero_fm]
  exact hv (h1.symm.trans h2)

/-! ### Gauss -/
/-- L is X times A; X can be undone. -/
def Gs (n : Nat) (A L X : M) : Prop := (∀ i j, i < n → j < n → L i j = mm n X A i j) ∧ ∃ E, ∀ i j, i < n → j < n → mm n E X i j = one i j
theorem Gs.start (n : Nat) (A : M) {L X : M} (hL : ∀ i j, i < n → j < n → L i j = A i j) (hX : ∀ i j, i < n → j < n → X i j = one i j) : Gs n A L X :=
  ⟨fun i j hi hj => by rw [mm_congr (A' := one) (B' := A) (fun k hk => hX i k hi hk) (fun _ _ => rfl), one_mm _ _ hi, hL i j hi hj], one, fun i j hi hj => by rw [one_mm _ _ hi, hX i j hi hj]⟩
/-- A step that can be undone. -/
theorem Gs.step {n : Nat} {A L X L' X' : M} (h : Gs n A L X) (P Q : M) (hQ : ∀ i j, i < n → j < n → mm n Q P i j = one i j) (hL : ∀ i j, i < n → j < n → L' i j = mm n P L i j) (hX : ∀ i j, i < n → j < n → X' i j = mm n P X i j) : Gs n A L' X' := by
  obtain ⟨h1, E, h2⟩ := h
  refine ⟨fun i j hi hj => ?_, mm n E Q, fun i j hi hj => ?_⟩
  · rw [hL i j hi hj, mm_congr (A := P) (A' := P) (B' := mm n X A) (fun _ _ => rfl) (fun k hk => h1 k j hk hj), ← mm_assoc]
    exact mm_congr (fun k hk => (hX i k hi hk).symm) (fun _ _ => rfl)
  · have e1 : mm n (mm n E Q) X' i j = mm n (mm n E Q) (mm n P X) i j := mm_congr (fun _ _ => rfl) (fun k hk => hX k j hk hj)
    have e2 : mm n Q (mm n P X) = mm n (mm n Q P) X := by funext a b; rw [mm_assoc]
    rw [e1, mm_assoc, e2, ← h2 i j hi hj]
    refine mm_congr (fun _ _ => rfl) fun k hk => ?_
    rw [mm_congr (A' := one) (B' := X) (fun l hl => hQ k l hk hl) (fun _ _ => rfl), one_mm _ _ hk]
theorem Gs.done {n : Nat} {A L X : M} (h : Gs n A L X) (hL : ∀ i j, i < n → j < n → L i j = one i j) : Inv n A X := by
  obtain ⟨h1, E, h2⟩ := h
  have h3 : ∀ i j, i < n → j < n → mm n X A i j = one i j := fun i j hi hj => by rw [← h1 i j hi hj, hL i j hi hj]
  refine ⟨fun i j hi hj => ?_, h3⟩
  have e := sides (A := X) (X := E) (Y := A) h2 h3
  rw [← h2 i j hi hj]
  exact mm_congr (fun k hk => (e i k hi hk).symm) (fun _ _ => rfl)
/-- What L takes to 0, A takes to 0. -/
theorem Gs.ker {n : Nat} {A L X : M} (h : Gs n A L X) {v : Nat → UInt8} (hv : Ker n L v) : Ker n A v := by
  obtain ⟨h1, E, h2⟩ := h
  refine ⟨hv.1, fun i hi => ?_⟩
  have e1 : ∀ k, k < n → mm n X (mm n A fun l _ => v l) k 0 = 0 := fun k hk => by
    rw [← mm_assoc, ← hv.2 k hk]
    exact mm_congr (A' := L) (B' := fun l _ => v l) (fun l hl => (h1 k l hk hl).symm) (fun _ _ => rfl)
  have e2 : mm n (mm n E X) (mm n A fun l _ => v l) i 0 = 0 := by
    rw [mm_assoc]
    exact sum_zero n fun k hk => by rw [e1 k hk, fm_zero]
  rw [mm_congr (A' := one) (B' := mm n A fun l _ => v l) (fun k hk => h2 i k hi hk) (fun _ _ => rfl), one_mm _ _ hi] at e2
  exact e2
/-- Column i has no pivot from row i on: A has a vector that it takes to 0. -/
theorem Gs.flat {n i : Nat} {A L X : M} (h : Gs n A L X) (hi : i < n) (hU : ∀ k j, k < n → j < i → L k j = one k j) (h0 : ∀ p, i ≤ p → p < n → L p i = 0) : ∃ v, Ker n A v := by
  refine ⟨fun j => if j < i then L j i else if j = i then 1 else 0, h.ker ⟨⟨i, hi, by simp⟩, fun k hk => ?_⟩⟩
  by_cases hki : k < i
  · have e : sum n (fun j => fm (L k j) (if j < i then L j i else if j = i then 1 else 0)) = sum n (fun j => (if j = k then L k i else 0) ^^^ (if j = i then L k i else 0)) := by
      refine sum_congr fun j hj => ?_
      by_cases hji : j < i
      · rw [if_pos hji, hU k j hk hji, one]
        by_cases hjk : k = j
        · subst hjk
          rw [if_pos rfl, if_pos rfl, if_neg (by omega), one_fm, UInt8.xor_zero]
        · rw [if_neg hjk, if_neg (fun e => hjk e.symm), if_neg (by omega), zero_fm]; rfl
      · by_cases hj2 : j = i
        · subst hj2
          rw [if_neg hji, if_pos rfl, if_neg (by omega), if_pos rfl, fm_one, UInt8.zero_xor]
        · rw [if_neg hji, if_neg hj2, if_neg (by omega), if_neg hj2, fm_zero]; rfl
    rw [e, sum_xor, sum_one hk (fun j _ hj => if_neg hj), sum_one hi (fun j _ hj => if_neg hj), if_pos rfl, if_pos rfl, UInt8.xor_self]
  · refine sum_zero n fun j hj => ?_
    show fm (L k j) (if j < i then L j i else if j = i then 1 else 0) = 0
    by_cases hji : j < i
    · rw [hU k j hk hji, one, if_neg (by omega), zero_fm]
    · by_cases hj2 : j = i
      · subst hj2
        rw [h0 k (by omega) hk, zero_fm]
      · rw [if_neg hji, if_neg hj2, fm_zero]
end Mat
end Go.Proofs.Ytbfkknoeaekajaa
