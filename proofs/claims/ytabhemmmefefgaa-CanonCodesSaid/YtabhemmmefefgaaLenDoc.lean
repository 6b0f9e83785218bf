/- The document's lengths as a value, and what follows of them. -/
import Derived.Test.YtabhemmmefefgaaLenBest
namespace Go.Proofs.Ytabhemmmefefgaa.Len

/-- Behind all that aren't above it. -/
def insI (x : Item) : List Item → List Item
  | [] => [x]
  | a :: l => if a.1 ≤ x.1 then a :: insI x l else x :: a :: l
/-- The leaves of the symbols below j. -/
def usedTo (often : List Nat) : Nat → List Item
  | 0 => []
  | j + 1 => if often.getD j 0 = 0 then usedTo often j else insI (often.getD j 0, [j]) (usedTo often j)
def symOf (x : Item) : Nat := x.2.headD 0
/-- Lesser weights ahead, of equal ones lesser symbols. -/
def Lex (a b : Item) : Prop := a.1 < b.1 ∨ a.1 = b.1 ∧ symOf a < symOf b
theorem insI_mem {x y : Item} : ∀ {l : List Item}, y ∈ insI x l ↔ y = x ∨ y ∈ l
  | [] => by simp [insI]
  | a :: l => by
    rw [insI]
    split
    · rw [List.mem_cons, insI_mem, List.mem_cons]
      constructor
      · rintro (h | h | h)
        · exact .inr (.inl h)
        · exact .inl h
        · exact .inr (.inr h)
      · rintro (h | h | h)
        · exact .inr (.inl h)
        · exact .inl h
        · exact .inr (.inr h)
    · rw [List.mem_cons]
theorem insI_lex {x : Item} : ∀ {l : List Item}, l.Pairwise Lex → (∀ y ∈ l, symOf y < symOf x) → (insI x l).Pairwise Lex
  | [], _, _ => by simp [insI]
  | a :: l, h, hx => by
    have h1 := List.pairwise_cons.1 h
    rw [insI]
    by_cases ha : a.1 ≤ x.1
    · rw [if_pos ha]
      refine List.pairwise_cons.2 ⟨fun y hy => ?_, insI_lex h1.2 fun y hy => hx y (List.mem_cons_of_mem _ hy)⟩
      rcases insI_mem.1 hy with rfl | hy
      · have := hx a List.mem_cons_self
        rcases Nat.lt_or_eq_of_le ha with h | h
        · exact .inl h
        · exact .inr ⟨h, this⟩
      · exact h1.1 y hy
    · rw [if_neg ha]
      refine List.pairwise_cons.2 ⟨fun y hy => ?_, h⟩
      rcases List.mem_cons.1 hy with rfl | hy
      · exact .inl (by omega)
      · rcases h1.1 y hy with h | ⟨h, _⟩
        · exact .inl (by omega)
        · exact .inl (by omega)
theorem insI_sum (F : Item → Nat) (x : Item) : ∀ l : List Item, ((insI x l).map F).sum = F x + (l.map F).sum
  | [] => by simp [insI]
  | a :: l => by
    rw [insI]
    split
    · rw [List.map_cons, List.sum_cons, insI_sum F x l, List.map_cons, List.sum_cons]
      omega
    · simp
theorem insI_len (x : Item) : ∀ l : List Item, (insI x l).length = l.length + 1
  | [] => by simp [insI]
  | a :: l => by
    rw [insI]
    split
    · rw [List.length_cons, insI_len x l, List.length_cons]
    · simp
section
variable {often : List Nat}
theorem used_each : ∀ {j : Nat} {x : Item}, x ∈ usedTo often j → ∃ q, q < j ∧ often.getD q 0 ≠ 0 ∧ x = (often.getD q 0, [q])
  | 0, x, h => by simp [usedTo] at h
  | j + 1, x, h => by
    rw [usedTo] at h
    by_cases h0 : often.getD j 0 = 0
    · rw [if_pos h0] at h
      obtain ⟨q, h1, h2⟩ := used_each h
      exact ⟨q, by omega, h2⟩
    · rw [if_neg h0] at h
      rcases insI_mem.1 h with e | h
      · exact ⟨j, by omega, h0, e⟩
      · obtain ⟨q, h1, h2⟩ := used_each h
        exact ⟨q, by omega, h2⟩
theorem used_all : ∀ {j q : Nat}, q < j → often.getD q 0 ≠ 0 → (often.getD q 0, [q]) ∈ usedTo often j
  | j + 1, q, h, hq => by
    rw [usedTo]
    by_cases e : q = j
    · subst e
      rw [if_neg hq]
      exact insI_mem.2 (.inl rfl)
    · have := used_all (j := j) (q := q) (by omega) hq
      split
      · exact this
      · exact insI_mem.2 (.inr this)
theorem used_lex : ∀ j : Nat, (usedTo often j).Pairwise Lex
  | 0 => by simp [usedTo]
  | j + 1 => by
    rw [usedTo]
    split
    · exact used_lex j
    · refine insI_lex (used_lex j) fun y hy => ?_
      obtain ⟨q, h1, _, rfl⟩ := used_each hy
      exact h1
theorem used_sum (F : Nat → Nat) : ∀ j : Nat, ((usedTo often j).map fun x => F (symOf x)).sum = sumN j fun q => if often.getD q 0 = 0 then 0 else F q
  | 0 => rfl
  | j + 1 => by
    rw [usedTo, sumN, ← used_sum F j]
    split
    · simp
    · rw [insI_sum fun x => F (symOf x)]
      simp [symOf]
      omega
theorem used_len : ∀ j : Nat, (usedTo often j).length = sumN j fun q => if often.getD q 0 = 0 then 0 else 1 := fun j => by
  have := used_sum (often := often) (fun _ => 1) j
  rw [← this]
  generalize usedTo often j = X
  induction X with
  | nil => rfl
  | cons a X ih => rw [List.length_cons, ih, List.map_cons, List.sum_cons]; omega
theorem used_le (j : Nat) : (usedTo often j).length ≤ j := by
  rw [used_len]
  have : sumN j (fun q => if often.getD q 0 = 0 then 0 else 1) ≤ sumN j fun _ => 1 := sumN_le fun i _ => by split <;> omega
  rw [sumN_const] at this
  omega
end
def wOf (X : List Item) (i : Nat) : Nat := (X.getD i (0, [])).1
def sOf (X : List Item) (i : Nat) : Nat := symOf (X.getD i (0, []))
theorem sum_at (F : Nat → Nat) : ∀ X : List Item, (X.map fun x => F (symOf x)).sum = sumN X.length fun i => F (sOf X i)
  | [] => rfl
  | a :: X => by
    rw [List.map_cons, List.sum_cons, sum_at F X, List.length_cons, sumN_shift]
    rfl
section
variable {often : List Nat} {j : Nat}
theorem getD_mem {X : List Item} {i : Nat} (h : i < X.length) : X.getD i (0, []) ∈ X := by
  rw [List.getD_eq_getElem?_getD, List.getElem?_eq_getElem h]
  exact List.getElem_mem h
theorem used_at {i : Nat} (h : i < (usedTo often j).length) : sOf (usedTo often j) i < j ∧ often.getD (sOf (usedTo often j) i) 0 ≠ 0 ∧ wOf (usedTo often j) i = often.getD (sOf (usedTo often j) i) 0 ∧ (usedTo often j).getD i (0, []) = (wOf (usedTo often j) i, [sOf (usedTo often j) i]) := by
  obtain ⟨q, h1, h2, e⟩ := used_each (getD_mem h)
  unfold wOf sOf
  rw [e]
  exact ⟨h1, h2, rfl, rfl⟩
theorem used_leaves : usedTo often j = leaves (usedTo often j).length (wOf (usedTo often j)) (sOf (usedTo often j)) := by
  apply List.ext_getElem
  · rw [leaves_len]
  · intro i h1 h2
    have := (used_at h1).2.2.2
    rw [List.getD_eq_getElem?_getD, List.getElem?_eq_getElem h1] at this
    simp only [leaves, List.getElem_map, List.getElem_range]
    exact this
theorem used_rise {a b : Nat} (hab : a < b) (hb : b < (usedTo often j).length) : Lex ((usedTo often j).getD a (0, [])) ((usedTo often j).getD b (0, [])) := by
  have := List.pairwise_iff_getElem.1 (used_lex (often := often) j) a b (by omega) hb hab
  rw [List.getD_eq_getElem?_getD, List.getD_eq_getElem?_getD, List.getElem?_eq_getElem (by omega), List.getElem?_eq_getElem hb]
  exact this
theorem used_w : ∀ a b, a ≤ b → b < (usedTo often j).length → wOf (usedTo often j) a ≤ wOf (usedTo often j) b := fun a b hab hb => by
  rcases Nat.lt_or_eq_of_le hab with h | h
  · rcases used_rise h hb with h | ⟨h, _⟩
    · exact Nat.le_of_lt h
    · exact Nat.le_of_eq h
  · rw [h]
    exact Nat.le_refl _
theorem used_s : ∀ a b, a < (usedTo often j).length → b < (usedTo often j).length → sOf (usedTo often j) a = sOf (usedTo often j) b → a = b := fun a b ha hb e => by
  have wa := (used_at ha).2.2.1
  have wb := (used_at hb).2.2.1
  rcases Nat.lt_trichotomy a b with h | h | h
  · rcases used_rise h hb with h | ⟨_, h⟩
    · rw [e, ← wb] at wa
      exact absurd h (by unfold wOf at wa; omega)
    · unfold sOf at e; omega
  · exact h
  · rcases used_rise h ha with h | ⟨_, h⟩
    · rw [e, ← wb] at wa
      exact absurd h (by unfold wOf at wa; omega)
    · unfold sOf at e; omega
/-- Where a used symbol stands. -/
theorem used_place {q : Nat} (hq : q < j) (h0 : often.getD q 0 ≠ 0) : ∃ i, i < (usedTo often j).length ∧ sOf (usedTo often j) i = q := by
  obtain ⟨i, hi, e⟩ := List.mem_iff_getElem.1 (used_all hq h0)
  refine ⟨i, hi, ?_⟩
  unfold sOf
  rw [List.getD_eq_getElem?_getD, List.getElem?_eq_getElem hi]
  show symOf ((usedTo often j)[i]) = q
  rw [e]
  rfl
/-- A sum over all used symbols. -/
theorem sum_used (F : Nat → Nat) : (sumN j fun q => if often.getD q 0 = 0 then 0 else F q) = sumN (usedTo often j).length fun i => F (sOf (usedTo often j) i) := by
  rw [← used_sum, sum_at]
end
/-- The length of symbol q, for limit L. -/
def lenN (often : List Nat) (L q : Nat) : Nat :=
  if (usedTo often often.length).length < 2 then (syms (usedTo often often.length)).count q
  else (syms ((row (usedTo often often.length) (L - 1)).take (2 * (usedTo often often.length).length - 2))).count q
section
variable {often : List Nat} {L : Nat}
theorem used_fine (h2 : 2 ≤ (usedTo often often.length).length) (hL : 1 ≤ L) (hn : (usedTo often often.length).length ≤ 2 ^ L) :
    Fine (usedTo often often.length).length (L - 1) (wOf (usedTo often often.length)) (sOf (usedTo often often.length)) :=
  fine h2 (by rw [show L - 1 + 1 = L by omega]; exact hn) used_w (by
    obtain ⟨_, h, e, _⟩ := used_at (often := often) (j := often.length) (i := 0) (by omega)
    omega) used_s
theorem lenN_at (h2 : 2 ≤ (usedTo often often.length).length) (i : Nat) :
    lenN often L (sOf (usedTo often often.length) i) = says (usedTo often often.length).length (wOf (usedTo often often.length)) (sOf (usedTo often often.length)) (L - 1) i := by
  unfold lenN says
  rw [if_neg (by omega), ← used_leaves]
theorem lenN_one (h1 : (usedTo often often.length).length = 1) (q : Nat) : lenN often L q = if q = sOf (usedTo often often.length) 0 then 1 else 0 := by
  have hS : syms (usedTo often often.length) = [sOf (usedTo often often.length) 0] := by
    have := congrArg syms (used_leaves (often := often) (j := often.length))
    rw [h1] at this
    exact this
  unfold lenN
  rw [if_pos (by omega), hS]
  rw [List.count_singleton]
  by_cases e : q = sOf (usedTo often often.length) 0
  · rw [if_pos e, e]; simp
  · have hb : (sOf (usedTo often often.length) 0 == q) = false := beq_eq_false_iff_ne.2 fun h => e h.symm
    rw [if_neg e, hb]
    rfl
/-- Used symbols alone have one, from 1 to the limit. -/
theorem lenN_used {q : Nat} (hq : q < often.length) (h0 : often.getD q 0 ≠ 0) (hL : 1 ≤ L) (hn : (usedTo often often.length).length ≤ 2 ^ L) : 1 ≤ lenN often L q ∧ lenN often L q ≤ L := by
  obtain ⟨i, hi, rfl⟩ := used_place hq h0
  by_cases h2 : 2 ≤ (usedTo often often.length).length
  · have F := used_fine h2 hL hn
    rw [lenN_at h2]
    have := F.pos i hi
    have := F.top i hi
    omega
  · have h1 : (usedTo often often.length).length = 1 := by omega
    rw [lenN_one h1]
    obtain rfl : i = 0 := by omega
    rw [if_pos rfl]
    omega
theorem lenN_free {q : Nat} (h0 : often.getD q 0 = 0) (hL : 1 ≤ L) (hn : (usedTo often often.length).length ≤ 2 ^ L) : lenN often L q = 0 := by
  have hne : ∀ i, i < (usedTo often often.length).length → sOf (usedTo often often.length) i ≠ q := fun i hi e => (used_at hi).2.1 (by rw [e]; exact h0)
  by_cases h2 : 2 ≤ (usedTo often often.length).length
  · have := (used_fine h2 hL hn).none q hne
    rw [← used_leaves] at this
    unfold lenN
    rw [if_neg (by omega)]
    exact this
  · unfold lenN
    rw [if_pos (by omega), used_leaves]
    exact leaves_other hne
/-- What is less often isn't shorter. -/
theorem lenN_rare {a b : Nat} (ha : a < often.length) (hb : b < often.length) (a0 : often.getD a 0 ≠ 0) (b0 : often.getD b 0 ≠ 0) (hL : 1 ≤ L) (hn : (usedTo often often.length).length ≤ 2 ^ L)
    (h : often.getD a 0 < often.getD b 0 ∨ often.getD a 0 = often.getD b 0 ∧ a < b) : lenN often L b ≤ lenN often L a := by
  obtain ⟨i, hi, ei⟩ := used_place ha a0
  obtain ⟨k, hk, ek⟩ := used_place hb b0
  have hik : i ≤ k := by
    rcases Nat.lt_or_ge k i with hki | hki
    · exfalso
      have wi := (used_at hi).2.2.1
      have wk := (used_at hk).2.2.1
      rw [ei] at wi
      rw [ek] at wk
      rcases used_rise hki hi with h3 | ⟨h3, h4⟩
      · unfold wOf at wi wk; omega
      · unfold wOf at wi wk
        unfold sOf at ei ek
        omega
    · exact hki
  subst ei
  subst ek
  by_cases h2 : 2 ≤ (usedTo often often.length).length
  · rw [lenN_at h2, lenN_at h2]
    exact (used_fine h2 hL hn).anti i k hik hk
  · obtain rfl : i = k := by omega
    exact Nat.le_refl _
/-- The weight is full. -/
theorem lenN_full (hL : 1 ≤ L) (hL15 : L ≤ 15) (hn : (usedTo often often.length).length ≤ 2 ^ L) :
    (sumN often.length fun q => if often.getD q 0 = 0 then 0 else 2 ^ (15 - lenN often L q)) = if 2 ≤ (usedTo often often.length).length then 32768 else if (usedTo often often.length).length = 1 then 16384 else 0 := by
  rw [sum_used fun q => 2 ^ (15 - lenN often L q)]
  by_cases h2 : 2 ≤ (usedTo often often.length).length
  · rw [if_pos h2]
    have F := used_fine h2 hL hn
    have := F.full
    rw [show L - 1 + 1 = L by omega] at this
    rw [sumN_congr (g := fun i => 2 ^ (15 - L) * 2 ^ (L - says (usedTo often often.length).length (wOf (usedTo often often.length)) (sOf (usedTo often often.length)) (L - 1) i)) (fun i hi => by
      have := F.top i hi
      rw [lenN_at h2, ← Nat.pow_add]
      congr 1
      omega), sumN_mul, this, ← Nat.pow_add, show 15 - L + L = 15 by omega]
  · rw [if_neg h2]
    by_cases h1 : (usedTo often often.length).length = 1
    · rw [if_pos h1, h1]
      simp only [sumN]
      rw [lenN_one h1, if_pos rfl]
    · rw [if_neg h1, show (usedTo often often.length).length = 0 by omega]
      rfl
/-- Whatever lengths cost no less. -/
theorem lenN_best (hL : 1 ≤ L) (hL15 : L ≤ 15) (hn : (usedTo often often.length).length ≤ 2 ^ L) (l : Nat → Nat) (hl : ∀ q, q < often.length → l q ≤ L) (hu : ∀ q, q < often.length → often.getD q 0 ≠ 0 → 1 ≤ l q)
    (hK : (sumN often.length fun q => if often.getD q 0 = 0 then 0 else 2 ^ (15 - l q)) ≤ 32768) :
    (sumN often.length fun q => often.getD q 0 * lenN often L q) ≤ sumN often.length fun q => often.getD q 0 * l q := by
  have e : ∀ g : Nat → Nat, (sumN often.length fun q => often.getD q 0 * g q) = sumN (usedTo often often.length).length fun i => wOf (usedTo often often.length) i * g (sOf (usedTo often often.length) i) := fun g => by
    rw [sumN_congr (n := (usedTo often often.length).length) (g := fun i => (fun q => often.getD q 0 * g q) (sOf (usedTo often often.length) i)) (fun i hi => by rw [(used_at hi).2.2.1]), ← sum_used fun q => often.getD q 0 * g q]
    refine sumN_congr fun q _ => ?_
    split
    · rename_i h
      rw [h, Nat.zero_mul]
    · rfl
  rw [e, e]
  rw [sum_used fun q => 2 ^ (15 - l q)] at hK
  by_cases h2 : 2 ≤ (usedTo often often.length).length
  · have F := used_fine h2 hL hn
    have hb := F.best (fun i => l (sOf (usedTo often often.length) i)) (fun i hi => by
      rw [show L - 1 + 1 = L by omega]
      exact hl _ (used_at hi).1) (by
      rw [show L - 1 + 1 = L by omega]
      rw [sumN_congr (g := fun i => 2 ^ (15 - L) * 2 ^ (L - l (sOf (usedTo often often.length) i))) (fun i hi => by
        have := hl _ (used_at hi).1
        rw [← Nat.pow_add]
        congr 1
        omega), sumN_mul, show 32768 = 2 ^ (15 - L) * 2 ^ L by rw [← Nat.pow_add, show 15 - L + L = 15 by omega]] at hK
      exact Nat.le_of_mul_le_mul_left hK (Nat.pow_pos (by omega)))
    rw [sumN_congr (g := fun i => wOf (usedTo often often.length) i * says (usedTo often often.length).length (wOf (usedTo often often.length)) (sOf (usedTo often often.length)) (L - 1) i) (fun i _ => by rw [lenN_at h2])]
    exact hb
  · refine sumN_le fun i hi => Nat.mul_le_mul_left _ ?_
    obtain rfl : i = 0 := by omega
    rw [lenN_one (by omega), if_pos rfl]
    exact hu _ (used_at hi).1 (used_at hi).2.1
/-- A greater limit costs no more. -/
theorem lenN_more (hL : 1 ≤ L) (hL15 : L + 1 ≤ 15) (hn : (usedTo often often.length).length ≤ 2 ^ L) :
    (sumN often.length fun q => often.getD q 0 * lenN often (L + 1) q) ≤ sumN often.length fun q => often.getD q 0 * lenN often L q := by
  have hn' : (usedTo often often.length).length ≤ 2 ^ (L + 1) := by rw [Nat.pow_succ]; omega
  refine lenN_best (by omega) hL15 hn' (lenN often L) (fun q hq => ?_) (fun q hq h0 => (lenN_used hq h0 hL hn).1) ?_
  · by_cases h0 : often.getD q 0 = 0
    · rw [lenN_free h0 hL hn]
      omega
    · have := (lenN_used hq h0 hL hn).2
      omega
  · rw [lenN_full hL (by omega) hn]
    split
    · exact Nat.le_refl _
    · split <;> omega
end
/-- The lengths of all symbols, or why there are none. -/
def lensL (often : List Nat) (L : Nat) : List UInt8 := (List.range often.length).map fun q => UInt8.ofNat (lenN often L q)
def lensE (often : List Nat) (limit : Int) : List UInt8 × Int :=
  if 300 < often.length ∨ limit < 1 ∨ 15 < limit then ([], 13)
  else if 2 ^ limit.toNat < (usedTo often often.length).length then ([], 6)
  else (lensL often limit.toNat, 0)
def kraftOf (l : List UInt8) (n : Nat) : Nat := sumN n fun i => if (l.getD i 0).toNat = 0 then 0 else 2 ^ (15 - (l.getD i 0).toNat)
def kraftE (l : List UInt8) : Nat × Int := if l.length ≤ 300 ∧ ∀ i, i < l.length → (l.getD i 0).toNat ≤ 15 then (kraftOf l l.length, 0) else (0, 13)
def costOf (often : List Nat) (l : List UInt8) (n : Nat) : Nat := sumN n fun i => often.getD i 0 * (l.getD i 0).toNat
def costE (often : List Nat) (l : List UInt8) : Nat × Int := if often.length = l.length ∧ l.length ≤ 300 then (costOf often l l.length, 0) else (0, 13)
section
variable {often : List Nat} {L : Nat}
theorem lensL_len : (lensL often L).length = often.length := by simp [lensL]
theorem lenN_small {q : Nat} (hq : q < often.length) (hL : 1 ≤ L) (hL15 : L ≤ 15) (hn : (usedTo often often.length).length ≤ 2 ^ L) : lenN often L q ≤ L := by
  by_cases h0 : often.getD q 0 = 0
  · rw [lenN_free h0 hL hn]
    omega
  · exact (lenN_used hq h0 hL hn).2
theorem lensL_at {q : Nat} (hq : q < often.length) (hL : 1 ≤ L) (hL15 : L ≤ 15) (hn : (usedTo often often.length).length ≤ 2 ^ L) : ((lensL often L).getD q 0).toNat = lenN often L q := by
  have := lenN_small hq hL hL15 hn
  have e : (lensL often L).getD q 0 = UInt8.ofNat (lenN often L q) := by simp [lensL, List.getD_eq_getElem?_getD, hq]
  rw [e, UInt8.toNat_ofNat', Nat.mod_eq_of_lt (by omega)]
end
end Go.Proofs.Ytabhemmmefefgaa.Len
