/- The document's lengths as a value, and what follows of them. Right lengths and their words, as values; no word begins another one. Plain mathematics of chapter 8. Contracts of the writer: Put, Unary, Len, Bytes. What was put is got: plain mathematics; slices of calls of the call's own. Lengths as bits, as values: what is written is read. Plain mathematics of chapter 8. Symbols by words, as values: what was put is got. Plain mathematics of chapter 9. The document's Kraft of chapter 7. Slices of uint32 that came in, as numbers. What the laws of chapter 7 ask of the program's parts; the example; the laws without loops: LensFinds, LensWeighs, LensMore. The law LensFull. The lengths that are found are right, and pack with no more bits than others. Plain mathematics of chapter 9. A token's place, how many bytes tokens have; nothing is longer there. Plain mathematics of chapter 10. The document's Check of chapter 8. Contracts of the document's writer: Put, Unary. Contracts of the document's reader: Left, Peek, Get, Skip, Unary, Pad. Contracts of the document's reader: Get, Skip, Unary, Pad. The document's Read of chapter 8. Tokens as bits, and read of any bits, as values: what was written is read. Plain mathematics of chapter 11. Numbers of 32 bits in a row of the call's own. The document's Count of chapter 11. -/
import Derived.Test.YtaohdnhfodkeoaaS01
import Derived.Test.YtaohdnhfodkeoaaS02
import Derived.Deep.Slices
import Derived.Deep.Strs
import Derived.Deep.QuietTactic
import Derived.BigQuiet
import Derived.Deep.RegionLaw
import Derived.Laws.OwnMore
import Derived.Maps.AppendAt
import Derived.Deep.DeepCutAuto
import Derived.Deep.OwnRows
namespace Go.Proofs.Ytaohdnhfodkeoaa.Len
def insI (x : Item) : List Item → List Item
  | [] => [x]
  | a :: l => if a.1 ≤ x.1 then a :: insI x l else x :: a :: l
def usedTo (often : List Nat) : Nat → List Item
  | 0 => []
  | j + 1 => if often.getD j 0 = 0 then usedTo often j else insI (often.getD j 0, [j]) (usedTo often j)
def symOf (x : Item) : Nat := x.2.headD 0
def Lex (a b : Item) : Prop := a.1 < b.1 ∨ a.1 = b.1 ∧ symOf a < symOf b
theorem insI_mem {x y : Item} : ∀ {l : List Item}, y ∈ insI x l ↔ y = x ∨ y ∈ l
  | [] => by simp [insI]
  | a :: l => by
    rw [insI]
    split
    · rw [List.mem_cons, insI_mem, List.mem_cons]
      constructor
      · rintro (h | h | h)
        · exact .inr (.inl h)
        · exact .inl h
        · exact .inr (.inr h)
      · rintro (h | h | h)
        · exact .inr (.inl h)
        · exact .inl h
        · exact .inr (.inr h)
    · rw [List.mem_cons]
theorem insI_lex {x : Item} : ∀ {l : List Item}, l.Pairwise Lex → (∀ y ∈ l, symOf y < symOf x) → (insI x l).Pairwise Lex
  | [], _, _ => by simp [insI]
  | a :: l, h, hx => by
    have h1 := List.pairwise_cons.1 h
    rw [insI]
    by_cases ha : a.1 ≤ x.1
    · rw [if_pos ha]
      refine List.pairwise_cons.2 ⟨fun y hy => ?_, insI_lex h1.2 fun y hy => hx y (List.mem_cons_of_mem _ hy)⟩
      rcases insI_mem.1 hy with rfl | hy
      · have := hx a List.mem_cons_self
        rcases Nat.lt_or_eq_of_le ha with h | h
        · exact .inl h
        · exact .inr ⟨h, this⟩
      · exact h1.1 y hy
    · rw [if_neg ha]
      refine List.pairwise_cons.2 ⟨fun y hy => ?_, h⟩
      rcases List.mem_cons.1 hy with rfl | hy
      · exact .inl (by omega)
      · rcases h1.1 y hy with h | ⟨h, _⟩
        · exact .inl (by omega)
        · exact .inl (by omega)
theorem insI_sum (F : Item → Nat) (x : Item) : ∀ l : List Item, ((insI x l).map F).sum = F x + (l.map F).sum
  | [] => by simp [insI]
  | a :: l => by
    rw [insI]
    split
    · rw [List.map_cons, List.sum_cons, insI_sum F x l, List.map_cons, List.sum_cons]
      omega
    · simp
section
variable {often : List Nat}
theorem used_each : ∀ {j : Nat} {x : Item}, x ∈ usedTo often j → ∃ q, q < j ∧ often.getD q 0 ≠ 0 ∧ x = (often.getD q 0, [q])
  | 0, x, h => by simp [usedTo] at h
  | j + 1, x, h => by
    rw [usedTo] at h
    by_cases h0 : often.getD j 0 = 0
    · rw [if_pos h0] at h
      obtain ⟨q, h1, h2⟩ := used_each h
      exact ⟨q, by omega, h2⟩
    · rw [if_neg h0] at h
      rcases insI_mem.1 h with e | h
      · exact ⟨j, by omega, h0, e⟩
      · obtain ⟨q, h1, h2⟩ := used_each h
        exact ⟨q, by omega, h2⟩
theorem used_all : ∀ {j q : Nat}, q < j → often.getD q 0 ≠ 0 → (often.getD q 0, [q]) ∈ usedTo often j
  | j + 1, q, h, hq => by
    rw [usedTo]
    by_cases e : q = j
    · subst e
      rw [if_neg hq]
      exact insI_mem.2 (.inl rfl)
    · have := used_all (j := j) (q := q) (by omega) hq
      split
      · exact this
      · exact insI_mem.2 (.inr this)
theorem used_lex : ∀ j : Nat, (usedTo often j).Pairwise Lex
  | 0 => by simp [usedTo]
  | j + 1 => by
    rw [usedTo]
    split
    · exact used_lex j
    · refine insI_lex (used_lex j) fun y hy => ?_
      obtain ⟨q, h1, _, rfl⟩ := used_each hy
      exact h1
theorem used_sum (F : Nat → Nat) : ∀ j : Nat, ((usedTo often j).map fun x => F (symOf x)).sum = sumN j fun q => if often.getD q 0 = 0 then 0 else F q
  | 0 => rfl
  | j + 1 => by
    rw [usedTo, sumN, ← used_sum F j]
    split
    · simp
    · rw [insI_sum fun x => F (symOf x)]
      simp [symOf]
      omega
theorem used_len : ∀ j : Nat, (usedTo often j).length = sumN j fun q => if often.getD q 0 = 0 then 0 else 1 := fun j => by
  have := used_sum (often := often) (fun _ => 1) j
  rw [← this]
  generalize usedTo often j = X
  induction X with
  | nil => rfl
  | cons a X ih => rw [List.length_cons, ih, List.map_cons, List.sum_cons]; omega
theorem used_le (j : Nat) : (usedTo often j).length ≤ j := by
  rw [used_len]
  have : sumN j (fun q => if often.getD q 0 = 0 then 0 else 1) ≤ sumN j fun _ => 1 := sumN_le fun i _ => by split <;> omega
  rw [sumN_const] at this
  omega
end
def wOf (X : List Item) (i : Nat) : Nat := (X.getD i (0, [])).1
def sOf (X : List Item) (i : Nat) : Nat := symOf (X.getD i (0, []))
theorem sum_at (F : Nat → Nat) : ∀ X : List Item, (X.map fun x => F (symOf x)).sum = sumN X.length fun i => F (sOf X i)
  | [] => rfl
  | a :: X => by
    rw [List.map_cons, List.sum_cons, sum_at F X, List.length_cons, sumN_shift]
    rfl
section
variable {often : List Nat} {j : Nat}
theorem getD_mem {X : List Item} {i : Nat} (h : i < X.length) : X.getD i (0, []) ∈ X := by
  rw [List.getD_eq_getElem?_getD, List.getElem?_eq_getElem h]
  exact List.getElem_mem h
theorem used_at {i : Nat} (h : i < (usedTo often j).length) : sOf (usedTo often j) i < j ∧ often.getD (sOf (usedTo often j) i) 0 ≠ 0 ∧ wOf (usedTo often j) i = often.getD (sOf (usedTo often j) i) 0 ∧ (usedTo often j).getD i (0, []) = (wOf (usedTo often j) i, [sOf (usedTo often j) i]) := by
  obtain ⟨q, h1, h2, e⟩ := used_each (getD_mem h)
  unfold wOf sOf
  rw [e]
  exact ⟨h1, h2, rfl, rfl⟩
theorem used_leaves : usedTo often j = leaves (usedTo often j).length (wOf (usedTo often j)) (sOf (usedTo often j)) := by
  apply List.ext_getElem
  · rw [leaves_len]
  · intro i h1 h2
    have := (used_at h1).2.2.2
    rw [List.getD_eq_getElem?_getD, List.getElem?_eq_getElem h1] at this
    simp only [leaves, List.getElem_map, List.getElem_range]
    exact this
theorem used_rise {a b : Nat} (hab : a < b) (hb : b < (usedTo often j).length) : Lex ((usedTo often j).getD a (0, [])) ((usedTo often j).getD b (0, [])) := by
  have := List.pairwise_iff_getElem.1 (used_lex (often := often) j) a b (by omega) hb hab
  rw [List.getD_eq_getElem?_getD, List.getD_eq_getElem?_getD, List.getElem?_eq_getElem (by omega), List.getElem?_eq_getElem hb]
  exact this
theorem used_w : ∀ a b, a ≤ b → b < (usedTo often j).length → wOf (usedTo often j) a ≤ wOf (usedTo often j) b := fun a b hab hb => by
  rcases Nat.lt_or_eq_of_le hab with h | h
  · rcases used_rise h hb with h | ⟨h, _⟩
    · exact Nat.le_of_lt h
    · exact Nat.le_of_eq h
  · rw [h]
    exact Nat.le_refl _
theorem used_s : ∀ a b, a < (usedTo often j).length → b < (usedTo often j).length → sOf (usedTo often j) a = sOf (usedTo often j) b → a = b := fun a b ha hb e => by
  have wa := (used_at ha).2.2.1
  have wb := (used_at hb).2.2.1
  rcases Nat.lt_trichotomy a b with h | h | h
  · rcases used_rise h hb with h | ⟨_, h⟩
    · rw [e, ← wb] at wa
      exact absurd h (by unfold wOf at wa; omega)
    · unfold sOf at e; omega
  · exact h
  · rcases used_rise h ha with h | ⟨_, h⟩
    · rw [e, ← wb] at wa
      exact absurd h (by unfold wOf at wa; omega)
    · unfold sOf at e; omega
theorem used_place {q : Nat} (hq : q < j) (h0 : often.getD q 0 ≠ 0) : ∃ i, i < (usedTo often j).length ∧ sOf (usedTo often j) i = q := by
  obtain ⟨i, hi, e⟩ := List.mem_iff_getElem.1 (used_all hq h0)
  refine ⟨i, hi, ?_⟩
  unfold sOf
  rw [List.getD_eq_getElem?_getD, List.getElem?_eq_getElem hi]
  show symOf ((usedTo often j)[i]) = q
  rw [e]
  rfl
theorem sum_used (F : Nat → Nat) : (sumN j fun q => if often.getD q 0 = 0 then 0 else F q) = sumN (usedTo often j).length fun i => F (sOf (usedTo often j) i) := by
  rw [← used_sum, sum_at]
end
def lenN (often : List Nat) (L q : Nat) : Nat :=
  if (usedTo often often.length).length < 2 then (syms (usedTo often often.length)).count q
  else (syms ((row (usedTo often often.length) (L - 1)).take (2 * (usedTo often often.length).length - 2))).count q
section
variable {often : List Nat} {L : Nat}
theorem used_fine (h2 : 2 ≤ (usedTo often often.length).length) (hL : 1 ≤ L) (hn : (usedTo often often.length).length ≤ 2 ^ L) :
    Fine (usedTo often often.length).length (L - 1) (wOf (usedTo often often.length)) (sOf (usedTo often often.length)) :=
  fine h2 (by rw [show L - 1 + 1 = L by omega]; exact hn) used_w (by
    obtain ⟨_, h, e, _⟩ := used_at (often := often) (j := often.length) (i := 0) (by omega)
    omega) used_s
theorem lenN_at (h2 : 2 ≤ (usedTo often often.length).length) (i : Nat) :
    lenN often L (sOf (usedTo often often.length) i) = says (usedTo often often.length).length (wOf (usedTo often often.length)) (sOf (usedTo often often.length)) (L - 1) i := by
  unfold lenN says
  rw [if_neg (by omega), ← used_leaves]
theorem lenN_one (h1 : (usedTo often often.length).length = 1) (q : Nat) : lenN often L q = if q = sOf (usedTo often often.length) 0 then 1 else 0 := by
  have hS : syms (usedTo often often.length) = [sOf (usedTo often often.length) 0] := by
    have := congrArg syms (used_leaves (often := often) (j := often.length))
    rw [h1] at this
    exact this
  unfold lenN
  rw [if_pos (by omega), hS]
  rw [List.count_singleton]
  by_cases e : q = sOf (usedTo often often.length) 0
  · rw [if_pos e, e]; simp
  · have hb : (sOf (usedTo often often.length) 0 == q) = false := beq_eq_false_iff_ne.2 fun h => e h.symm
    rw [if_neg e, hb]
    rfl
theorem lenN_used {q : Nat} (hq : q < often.length) (h0 : often.getD q 0 ≠ 0) (hL : 1 ≤ L) (hn : (usedTo often often.length).length ≤ 2 ^ L) : 1 ≤ lenN often L q ∧ lenN often L q ≤ L := by
  obtain ⟨i, hi, rfl⟩ := used_place hq h0
  by_cases h2 : 2 ≤ (usedTo often often.length).length
  · have F := used_fine h2 hL hn
    rw [lenN_at h2]
    have := F.pos i hi
    have := F.top i hi
    omega
  · have h1 : (usedTo often often.length).length = 1 := by omega
    rw [lenN_one h1]
    obtain rfl : i = 0 := by omega
    rw [if_pos rfl]
    omega
theorem lenN_free {q : Nat} (h0 : often.getD q 0 = 0) (hL : 1 ≤ L) (hn : (usedTo often often.length).length ≤ 2 ^ L) : lenN often L q = 0 := by
  have hne : ∀ i, i < (usedTo often often.length).length → sOf (usedTo often often.length) i ≠ q := fun i hi e => (used_at hi).2.1 (by rw [e]; exact h0)
  by_cases h2 : 2 ≤ (usedTo often often.length).length
  · have := (used_fine h2 hL hn).none q hne
    rw [← used_leaves] at this
    unfold lenN
    rw [if_neg (by omega)]
    exact this
  · unfold lenN
    rw [if_pos (by omega), used_leaves]
    exact leaves_other hne
theorem lenN_full (hL : 1 ≤ L) (hL15 : L ≤ 15) (hn : (usedTo often often.length).length ≤ 2 ^ L) :
    (sumN often.length fun q => if often.getD q 0 = 0 then 0 else 2 ^ (15 - lenN often L q)) = if 2 ≤ (usedTo often often.length).length then 32768 else if (usedTo often often.length).length = 1 then 16384 else 0 := by
  rw [sum_used fun q => 2 ^ (15 - lenN often L q)]
  by_cases h2 : 2 ≤ (usedTo often often.length).length
  · rw [if_pos h2]
    have F := used_fine h2 hL hn
    have := F.full
    rw [show L - 1 + 1 = L by omega] at this
    rw [sumN_congr (g := fun i => 2 ^ (15 - L) * 2 ^ (L - says (usedTo often often.length).length (wOf (usedTo often often.length)) (sOf (usedTo often often.length)) (L - 1) i)) (fun i hi => by
      have := F.top i hi
      rw [lenN_at h2, ← Nat.pow_add]
      congr 1
      omega), sumN_mul, this, ← Nat.pow_add, show 15 - L + L = 15 by omega]
  · rw [if_neg h2]
    by_cases h1 : (usedTo often often.length).length = 1
    · rw [if_pos h1, h1]
      simp only [sumN]
      rw [lenN_one h1, if_pos rfl]
    · rw [if_neg h1, show (usedTo often often.length).length = 0 by omega]
      rfl
end
def lensL (often : List Nat) (L : Nat) : List UInt8 := (List.range often.length).map fun q => UInt8.ofNat (lenN often L q)
def lensE (often : List Nat) (limit : Int) : List UInt8 × Int :=
  if 300 < often.length ∨ limit < 1 ∨ 15 < limit then ([], 13)
  else if 2 ^ limit.toNat < (usedTo often often.length).length then ([], 6)
  else (lensL often limit.toNat, 0)
def kraftOf (l : List UInt8) (n : Nat) : Nat := sumN n fun i => if (l.getD i 0).toNat = 0 then 0 else 2 ^ (15 - (l.getD i 0).toNat)
def kraftE (l : List UInt8) : Nat × Int := if l.length ≤ 300 ∧ ∀ i, i < l.length → (l.getD i 0).toNat ≤ 15 then (kraftOf l l.length, 0) else (0, 13)
section
variable {often : List Nat} {L : Nat}
theorem lensL_len : (lensL often L).length = often.length := by simp [lensL]
theorem lenN_small {q : Nat} (hq : q < often.length) (hL : 1 ≤ L) (hL15 : L ≤ 15) (hn : (usedTo often often.length).length ≤ 2 ^ L) : lenN often L q ≤ L := by
  by_cases h0 : often.getD q 0 = 0
  · rw [lenN_free h0 hL hn]
    omega
  · exact (lenN_used hq h0 hL hn).2
theorem lensL_at {q : Nat} (hq : q < often.length) (hL : 1 ≤ L) (hL15 : L ≤ 15) (hn : (usedTo often often.length).length ≤ 2 ^ L) : ((lensL often L).getD q 0).toNat = lenN often L q := by
  have := lenN_small hq hL hL15 hn
  have e : (lensL often L).getD q 0 = UInt8.ofNat (lenN often L q) := by simp [lensL, List.getD_eq_getElem?_getD, hq]
  rw [e, UInt8.toNat_ofNat', Nat.mod_eq_of_lt (by omega)]
end
end Go.Proofs.Ytaohdnhfodkeoaa.Len

namespace Go.Proofs.Ytaohdnhfodkeoaa.Can
open Len
def lenAt (l : List UInt8) (i : Nat) : Nat := (l.getD i 0).toNat
def usedC (l : List UInt8) (n : Nat) : Nat := sumN n fun i => if lenAt l i = 0 then 0 else 1
def oneC (l : List UInt8) (n : Nat) : Nat := sumN n fun i => if lenAt l i = 1 then 1 else 0
def right (l : List UInt8) : Bool := decide ((kraftE l).2 = 0 ∧ (usedC l l.length = 0 ∨ usedC l l.length = 1 ∧ oneC l l.length = 1 ∨ (kraftE l).1 = 32768))
def checkE (l : List UInt8) : Int := if right l then 0 else 7
theorem check_right {l : List UInt8} (h : right l = true) : checkE l = 0 := by unfold checkE; rw [if_pos h]
theorem check_wrong {l : List UInt8} (h : right l = false) : checkE l = 7 := by unfold checkE; rw [h]; rfl
theorem sumN_pt (s c : Nat) : ∀ n, (sumN n fun t => if t = s then c else 0) = if s < n then c else 0
  | 0 => rfl
  | n + 1 => by
    rw [sumN, sumN_pt s c n]
    by_cases h : s < n
    · rw [if_pos h, if_neg (by omega), if_pos (by omega)]
      omega
    · by_cases e : n = s
      · rw [if_neg h, if_pos e, if_pos (by omega)]
        omega
      · rw [if_neg h, if_neg e, if_neg (by omega)]
def ahead (l : List UInt8) (k s t : Nat) : Nat := if lenAt l t ≠ 0 ∧ (lenAt l t < k ∨ lenAt l t = k ∧ t < s) then 2 ^ (15 - lenAt l t) else 0
def acc (l : List UInt8) (k s : Nat) : Nat := sumN l.length (ahead l k s)
theorem acc_start (l : List UInt8) : acc l 1 0 = 0 := sumN_zero _ fun i _ => by
  unfold ahead
  rw [if_neg]
  omega
theorem acc_turn (l : List UInt8) (k : Nat) : acc l (k + 1) 0 = acc l k l.length := sumN_congr fun i hi => by
  unfold ahead
  by_cases h : lenAt l i ≠ 0 ∧ (lenAt l i < k ∨ lenAt l i = k ∧ i < l.length)
  · rw [if_pos h, if_pos ⟨h.1, by omega⟩]
  · rw [if_neg h, if_neg (by omega)]
theorem acc_step (l : List UInt8) {k s : Nat} (hk : 1 ≤ k) (hs : s < l.length) : acc l k (s + 1) = acc l k s + if lenAt l s = k then 2 ^ (15 - k) else 0 := by
  have h1 : (if lenAt l s = k then 2 ^ (15 - k) else 0) = sumN l.length fun t => if t = s then (if lenAt l s = k then 2 ^ (15 - k) else 0) else 0 := by rw [sumN_pt, if_pos hs]
  rw [h1]
  unfold acc
  rw [← sumN_add]
  refine sumN_congr fun i hi => ?_
  unfold ahead
  by_cases e : i = s
  · subst e
    rw [if_pos rfl]
    by_cases hl : lenAt l i = k
    · rw [if_pos hl, if_pos ⟨by omega, by omega⟩, if_neg (by omega), hl]
      omega
    · rw [if_neg hl]
      by_cases h : lenAt l i ≠ 0 ∧ (lenAt l i < k ∨ lenAt l i = k ∧ i < i)
      · rw [if_pos h, if_pos ⟨h.1, by omega⟩]
        rfl
      · rw [if_neg h, if_neg (by omega)]
  · rw [if_neg e]
    by_cases h : lenAt l i ≠ 0 ∧ (lenAt l i < k ∨ lenAt l i = k ∧ i < s)
    · rw [if_pos h, if_pos ⟨h.1, by omega⟩]
      rfl
    · rw [if_neg h, if_neg (by omega)]
theorem acc_le (l : List UInt8) (k s : Nat) : acc l k s ≤ kraftOf l l.length := sumN_le fun i _ => by
  unfold ahead lenAt
  split
  · rename_i h
    rw [if_neg h.1]
    exact Nat.le_refl _
  · omega
def word (l : List UInt8) (s : Nat) : Nat := if lenAt l s = 0 then 0 else acc l (lenAt l s) s / 2 ^ (15 - lenAt l s)
def codesL (l : List UInt8) : List Nat := (List.range l.length).map (word l)
def codesE (l : List UInt8) : List Nat × Int := if right l then (codesL l, 0) else ([], 7)
theorem kraft_ok {l : List UInt8} (h : (kraftE l).2 = 0) : l.length ≤ 300 ∧ (∀ i, i < l.length → lenAt l i ≤ 15) ∧ (kraftE l).1 = kraftOf l l.length := by
  unfold kraftE at *
  split at h
  · rename_i h2
    rw [if_pos h2]
    exact ⟨h2.1, h2.2, rfl⟩
  · simp at h
theorem used_kraft {l : List UInt8} : ∀ n, n ≤ l.length → kraftOf l n ≤ 16384 * usedC l n
  | 0, _ => by simp [kraftOf, usedC, sumN]
  | n + 1, h => by
    have := used_kraft (l := l) n (by omega)
    unfold kraftOf usedC at *
    rw [sumN, sumN]
    unfold lenAt at *
    by_cases h0 : (l.getD n 0).toNat = 0
    · rw [if_pos h0, if_pos h0]
      omega
    · rw [if_neg h0, if_neg h0]
      have : 2 ^ (15 - (l.getD n 0).toNat) ≤ 2 ^ 14 := Nat.pow_le_pow_right (by omega) (by omega)
      omega
theorem right_facts {l : List UInt8} (h : right l = true) : l.length ≤ 300 ∧ (∀ i, i < l.length → lenAt l i ≤ 15) ∧ kraftOf l l.length ≤ 32768 := by
  have h1 := of_decide_eq_true h
  obtain ⟨k1, k2, k3⟩ := kraft_ok h1.1
  refine ⟨k1, k2, ?_⟩
  have hu := used_kraft (l := l) l.length (Nat.le_refl _)
  rcases h1.2 with h2 | h2 | h2
  · rw [h2] at hu; omega
  · rw [h2.1] at hu; omega
  · omega
section
variable {l : List UInt8}
theorem sumN_dvd {n c : Nat} {f : Nat → Nat} (h : ∀ i, i < n → c ∣ f i) : c ∣ sumN n f := by
  induction n with
  | zero => exact ⟨0, by simp [sumN]⟩
  | succ n ih =>
    rw [sumN]
    exact Nat.dvd_add (ih fun i hi => h i (by omega)) (h n (by omega))
theorem acc_dvd (k s : Nat) : 2 ^ (15 - k) ∣ acc l k s := sumN_dvd fun i _ => by
  unfold ahead
  split
  · exact Nat.pow_dvd_pow 2 (by omega)
  · exact ⟨0, by simp⟩
theorem word_mul {s : Nat} (h0 : lenAt l s ≠ 0) : word l s * 2 ^ (15 - lenAt l s) = acc l (lenAt l s) s := by
  unfold word
  rw [if_neg h0]
  exact Nat.div_mul_cancel (acc_dvd _ _)
theorem word_lt (hr : right l = true) {s : Nat} (hs : s < l.length) : word l s < 2 ^ 15 := by
  by_cases h0 : lenAt l s = 0
  · unfold word
    rw [if_pos h0]
    decide
  · obtain ⟨_, h15, hk⟩ := right_facts hr
    have h1 := acc_le l (lenAt l s) (s + 1)
    rw [acc_step l (by omega) hs, if_pos rfl, ← word_mul h0] at h1
    have h2 : 0 < 2 ^ (15 - lenAt l s) := Nat.pow_pos (by omega)
    have h3 : word l s * 1 ≤ word l s * 2 ^ (15 - lenAt l s) := Nat.mul_le_mul_left _ h2
    omega
theorem acc_before {a b : Nat} (ha : a < l.length) (a0 : lenAt l a ≠ 0) (h : lenAt l a < lenAt l b ∨ lenAt l a = lenAt l b ∧ a < b) : acc l (lenAt l a) a + 2 ^ (15 - lenAt l a) ≤ acc l (lenAt l b) b := by
  have h1 := acc_step l (k := lenAt l a) (by omega) ha
  rw [if_pos rfl] at h1
  rw [← h1]
  refine sumN_le fun i _ => ?_
  unfold ahead
  by_cases h2 : lenAt l i ≠ 0 ∧ (lenAt l i < lenAt l a ∨ lenAt l i = lenAt l a ∧ i < a + 1)
  · rw [if_pos h2, if_pos ⟨h2.1, by omega⟩]
    exact Nat.le_refl _
  · rw [if_neg h2]
    omega
theorem word_order {a b : Nat} (ha : a < l.length) (a0 : lenAt l a ≠ 0) (b0 : lenAt l b ≠ 0) (b15 : lenAt l b ≤ 15) (h : lenAt l a < lenAt l b ∨ lenAt l a = lenAt l b ∧ a < b) :
    (word l a + 1) * 2 ^ (lenAt l b - lenAt l a) ≤ word l b := by
  have h1 := acc_before ha a0 h
  rw [← word_mul a0, ← word_mul b0] at h1
  have e : 2 ^ (15 - lenAt l a) = 2 ^ (lenAt l b - lenAt l a) * 2 ^ (15 - lenAt l b) := by rw [← Nat.pow_add]; congr 1; omega
  rw [e, ← Nat.mul_assoc, ← Nat.add_mul] at h1
  have h3 : word l a * 2 ^ (lenAt l b - lenAt l a) + 2 ^ (lenAt l b - lenAt l a) ≤ word l b := Nat.le_of_mul_le_mul_right h1 (Nat.pow_pos (by omega))
  rw [Nat.add_mul, Nat.one_mul]
  exact h3
theorem word_apart {a b : Nat} (ha : a < l.length) (hb : b < l.length) (hab : a ≠ b) (a0 : lenAt l a ≠ 0) (b0 : lenAt l b ≠ 0) (b15 : lenAt l b ≤ 15) (h : lenAt l a ≤ lenAt l b) :
    word l b / 2 ^ (lenAt l b - lenAt l a) ≠ word l a := by
  by_cases h2 : lenAt l a < lenAt l b ∨ lenAt l a = lenAt l b ∧ a < b
  · have h3 := word_order ha a0 b0 b15 h2
    have h4 := (Nat.le_div_iff_mul_le (Nat.pow_pos (n := lenAt l b - lenAt l a) (by omega : 0 < 2))).2 h3
    omega
  · have he : lenAt l b = lenAt l a := by omega
    have h3 := word_order hb b0 a0 (by omega) (.inr ⟨he, by omega⟩)
    rw [he, Nat.sub_self, Nat.pow_zero, Nat.mul_one] at h3
    rw [he, Nat.sub_self, Nat.pow_zero, Nat.div_one]
    omega
end
end Go.Proofs.Ytaohdnhfodkeoaa.Can

namespace Go.Proofs.Ytaohdnhfodkeoaa
open Go.RowKit
namespace Bit
def fits (x : Nat) (n : Int) : Bool := decide (0 ≤ n ∧ n ≤ 64 ∧ x < 2 ^ n.toNat)
def putBits (x : Nat) (n : Int) : List Bool := if fits x n then num x n.toNat else []
def putErr (x : Nat) (n : Int) : Int := if fits x n then 0 else 13
theorem put_bad {x : Nat} {n : Int} (h : fits x n = false) : putErr x n = 13 ∧ putBits x n = [] := by simp [putErr, putBits, h]
theorem put_good {x : Nat} {n : Int} (h : fits x n = true) : putErr x n = 0 ∧ putBits x n = num x n.toNat := by simp [putErr, putBits, h]
end Bit
def WrtX (t : TypeId) (R : List Value) (w : World) (base g : Nat) (ob : Option Nat) (B : List Bool) : Prop := ∃ v l, WRowX t R w base g v l B.length ∧ Bit.Packs l B ∧ v.ownBlock = ob
def PutsX (t : TypeId) (R : List Value) (w : World) (base g : Nat) (ob : Option Nat) (B : List Bool) (err : Int) (e : Ending) (w' : World) : Prop :=
  e = .returned (.int .i64 err) ∧ ∃ ob', WrtX t R w' base g ob' B ∧ NewOb w ob ob' ∧ Mod w w' g ob
theorem WrtX.bound {t : TypeId} {R : List Value} {w : World} {base g : Nat} {ob : Option Nat} {B : List Bool} (h : WrtX t R w base g ob B) : base ≤ w.heap.size := by obtain ⟨v, l, h, _⟩ := h; exact h.bound
theorem WrtX.lt {t : TypeId} {R : List Value} {w : World} {base g : Nat} {ob : Option Nat} {B : List Bool} (h : WrtX t R w base g ob B) : g < w.heap.size := by obtain ⟨v, l, h, _⟩ := h; exact h.1.lt
theorem WrtX.le {t : TypeId} {R : List Value} {w : World} {base g : Nat} {ob : Option Nat} {B : List Bool} (h : WrtX t R w base g ob B) : base ≤ g := by obtain ⟨v, l, h, _⟩ := h; exact h.2.2.2
theorem WrtX.ne {t : TypeId} {R : List Value} {w : World} {base g : Nat} {ob : Option Nat} {B : List Bool} (h : WrtX t R w base g ob B) : ob ≠ some g := by obtain ⟨v, l, h, _, rfl⟩ := h; exact h.2.2.1
theorem WrtX.ob {t : TypeId} {R : List Value} {w : World} {base g : Nat} {ob : Option Nat} {B : List Bool} (h : WrtX t R w base g ob B) : ∀ k, ob = some k → base ≤ k ∧ k < w.heap.size := by obtain ⟨v, l, h, _, rfl⟩ := h; exact h.2.1.lt
theorem WrtX.ext {t : TypeId} {R : List Value} {w w' : World} {base g : Nat} {ob : Option Nat} {B : List Bool} (h : WrtX t R w base g ob B) (hE : Ext w w') : WrtX t R w' base g ob B := by
  obtain ⟨v, l, ⟨hW, hO, hne, hb⟩, hP, ho⟩ := h
  exact ⟨v, l, ⟨hW.ext hE, hO.ext hE, hne, hb⟩, hP, ho⟩
set_option maxHeartbeats 1000000 in
theorem put_any {t : TypeId} {R : List Value} {w : World} {base g : Nat} {ob : Option Nat} {B : List Bool} (h : WrtX t R w base g ob B) (x : Nat) (n : Int) (hfit : B.length ≤ 900000000) :
    Calls Try.prog 54 #[.pointer (some ⟨g, 0, none⟩), .int .u64 x, .int .i64 n] w (PutsX t R w base g ob (B ++ Bit.putBits x n) (Bit.putErr x n)) := by
  by_cases hbad : Bit.fits x n = false
  · have HE := hide (Bit.put_bad hbad)
    have HF := hide h
    by_cases h0 : n < 0
    · go_enter Try.func54, Try.ntmps54
      go_wp2
      go_ret
      refine ⟨ret_i64 HE.out.1.symm, ob, by rw [HE.out.2, List.append_nil]; exact HF.out, .inl rfl, Mod.refl _ _ _⟩
    · by_cases h1 : 64 < n
      · go_enter Try.func54, Try.ntmps54
        go_wp2
        go_ret
        refine ⟨ret_i64 HE.out.1.symm, ob, by rw [HE.out.2, List.append_nil]; exact HF.out, .inl rfl, Mod.refl _ _ _⟩
      · obtain ⟨k, rfl⟩ := Int.eq_ofNat_of_zero_le (show 0 ≤ n by omega)
        have hk : k ≤ 64 := by omega
        have hx : 2 ^ k ≤ x := by
          rcases Nat.lt_or_ge x (2 ^ k) with h | h
          · exfalso
            have : Bit.fits x (k : Int) = true := decide_eq_true ⟨by omega, by omega, by simpa using h⟩
            rw [this] at hbad; cases hbad
          · exact h
        have hx0 : ((x : Int) / 2 ^ k != 0) = true := by
          have h1 : 0 < x / 2 ^ k := Nat.div_pos hx (Nat.two_pow_pos k)
          have e : (x : Int) / 2 ^ k = ((x / 2 ^ k : Nat) : Int) := by simp only [Int.natCast_ediv, Int.natCast_pow]; rfl
          rw [e]; simp; omega
        clear hx hbad
        go_enter Try.func54, Try.ntmps54
        go_wp2
        go_ret
        refine ⟨ret_i64 HE.out.1.symm, ob, by rw [HE.out.2, List.append_nil]; exact HF.out, .inl rfl, Mod.refl _ _ _⟩
  · have hgood : Bit.fits x n = true := by simpa using hbad
    have HE := hide (Bit.put_good hgood)
    obtain ⟨h0, h1, hx⟩ := of_decide_eq_true hgood
    obtain ⟨k, rfl⟩ := Int.eq_ofNat_of_zero_le h0
    have hk : k ≤ 64 := by omega
    have hx' : x < 2 ^ k := by simpa using hx
    have hx0 : ((x : Int) / 2 ^ k != 0) = false := by
      have e : (x : Int) / 2 ^ k = ((x / 2 ^ k : Nat) : Int) := by simp only [Int.natCast_ediv, Int.natCast_pow]; rfl
      rw [e, Nat.div_eq_of_lt hx']; rfl
    obtain ⟨v, l, hR, hP, rfl⟩ := h
    have C := add_any x k hR hP rfl hx' hk (by omega)
    clear hx hx' hbad hgood
    go_enter Try.func54, Try.ntmps54
    go_wp2_with (go_at_call 72; refine C.mono ?_; rintro e w2 ⟨rfl, l2, hP2, v2, hR2, hN2, hM2⟩)
    go_ret
    refine ⟨ret_i64 HE.out.1.symm, v2.ownBlock, ⟨v2, l2, ?_, ?_, rfl⟩, hN2, hM2⟩
    · rw [HE.out.2, List.length_append, Bit.num_length]; exact hR2
    · rw [HE.out.2]; exact hP2
theorem wbytes_any {t : TypeId} {R : List Value} {w : World} {base g : Nat} {ob : Option Nat} {B : List Bool} (h : WrtX t R w base g ob B) (hB : B.length ≤ 1000000000) :
    Calls Try.prog 34 #[.pointer (some ⟨g, 0, none⟩)] w fun e w' => ∃ l, Bit.Packs l B ∧ MadeB w l e w' := by
  obtain ⟨v, l, hR, hP, rfl⟩ := h
  obtain ⟨hW, hO, _, _⟩ := hR
  obtain ⟨A, c, rfl, hc, _, hb⟩ := hO.form
  have c0 : w.cell? ⟨g, 0, none⟩ = some (.slice A l.length c) := hW.at 0 (row_at0 ..)
  have hl := hP.1
  have C := slicesClone_any A l.length c l w hc (by omega) hb
  have HP := hide hP
  clear hl hP
  go_enter Try.func34, Try.ntmps34
  go_wp2_with (go_at_call 55; refine C.mono ?_; rintro e w2 ⟨v2, rfl, hown2, hE2⟩)
  go_ret
  exact ⟨l, HP.out, v2, rfl, hown2, hE2⟩
end Go.Proofs.Ytaohdnhfodkeoaa

namespace Go.Proofs.Ytaohdnhfodkeoaa
open Go.RowKit
namespace Bit
theorem Packs.bit {l : List UInt8} {P E Q : List Bool} (h : Packs l (P ++ E ++ Q)) {i : Nat} (hi : i < E.length) : at_ l (P.length + i) = E.getD i false := by
  have hl := h.1
  simp only [List.length_append] at hl
  rw [h.2 _ (by omega), List.append_assoc, getD_app_right _ _ _ (by omega), Nat.add_sub_cancel_left, getD_app_left _ _ _ hi]
theorem Packs.room {l : List UInt8} {P E Q : List Bool} (h : Packs l (P ++ E ++ Q)) : P.length + E.length ≤ 8 * l.length := by
  have hl := h.1
  simp only [List.length_append] at hl
  omega
theorem get_back {l : List UInt8} {P Q : List Bool} {x k : Nat} (h : Packs l (P ++ num x k ++ Q)) (hk : k ≤ 64) (hx : x < 2 ^ k) :
    getErr (8 * l.length - P.length) (k : Int) = 0 ∧ getNum l P.length (k : Int) = x ∧ getTo (8 * l.length - P.length) P.length (k : Int) = P.length + k := by
  have hr := h.room
  rw [num_length] at hr
  have h1 : getErr (8 * l.length - P.length) (k : Int) = 0 := by unfold getErr; rw [if_pos ⟨by omega, by omega⟩, if_pos (by omega)]
  refine ⟨h1, ?_, by unfold getTo; rw [h1]; simp⟩
  unfold getNum
  rw [h1, if_pos rfl, Int.toNat_natCast]
  have : val (rest l P.length) k = val (fun i => x.testBit (k - 1 - i)) k := val_congr k fun i hi => by
    unfold rest
    rw [h.bit (by rw [num_length]; exact hi), num_getD _ _ _ hi]
  rw [this, val_num hx]
theorem pad_back {l : List UInt8} {B : List Bool} (h : Packs l B) : padErr l B.length = 0 ∧ 8 * l.length - B.length < 8 := by
  have hl := h.1
  have h8 : 8 * l.length - B.length < 8 := by omega
  have hz : zs l B.length = 8 * l.length - B.length := zeros_eq (Nat.le_refl _) (fun i hi => by
    unfold rest
    rw [h.2 _ (by omega), getD_far _ _ (by omega)]) (fun h => by omega)
  exact ⟨by unfold padErr; rw [if_pos ⟨h8, hz⟩], h8⟩
end Bit
end Go.Proofs.Ytaohdnhfodkeoaa

namespace Go.Proofs.Ytaohdnhfodkeoaa.Can
open Len
def zrun : Nat → List UInt8 → Nat
  | 0, _ => 0
  | _ + 1, [] => 0
  | f + 1, x :: r => if x = 0 then zrun f r + 1 else 0
theorem zrun_le : ∀ (f : Nat) (r : List UInt8), zrun f r ≤ f ∧ zrun f r ≤ r.length
  | 0, _ => by simp [zrun]
  | _ + 1, [] => by simp [zrun]
  | f + 1, x :: r => by
    have := zrun_le f r
    rw [zrun]
    split
    · simp; omega
    · simp
theorem zrun_zero : ∀ (f : Nat) (r : List UInt8), r.take (zrun f r) = List.replicate (zrun f r) 0
  | 0, _ => by simp [zrun]
  | _ + 1, [] => by simp [zrun]
  | f + 1, x :: r => by
    rw [zrun]
    split
    · rename_i h
      rw [List.take_succ_cons, zrun_zero f r, h, List.replicate_succ]
    · simp
theorem zrun_stop : ∀ (f : Nat) (r : List UInt8), zrun f r < f → ∀ y, (r.drop (zrun f r)).head? = some y → y ≠ 0
  | 0, _, h => by simp [zrun] at h
  | _ + 1, [], _ => by simp [zrun]
  | f + 1, x :: r, h => by
    rw [zrun] at h ⊢
    split at h
    · rename_i h0
      rw [if_pos h0, List.drop_succ_cons]
      exact zrun_stop f r (by omega)
    · rename_i h0
      rw [if_neg h0]
      intro y hy
      simp at hy
      rw [← hy]
      exact h0
def wbits : List UInt8 → List Bool
  | [] => []
  | x :: r => if x = 0 then Bit.num 0 4 ++ (Bit.num (zrun 63 r) 6 ++ wbits (r.drop (zrun 63 r))) else Bit.num x.toNat 4 ++ wbits r
termination_by l => l.length
decreasing_by all_goals (simp; try omega)
theorem wbits_nil : wbits [] = [] := by rw [wbits]
theorem wbits_used {x : UInt8} (r : List UInt8) (h : x ≠ 0) : wbits (x :: r) = Bit.num x.toNat 4 ++ wbits r := by rw [wbits, if_neg h]
theorem wbits_zero (r : List UInt8) : wbits (0 :: r) = Bit.num 0 4 ++ (Bit.num (zrun 63 r) 6 ++ wbits (r.drop (zrun 63 r))) := by rw [wbits, if_pos rfl]
theorem wbits_len : ∀ l : List UInt8, (wbits l).length ≤ 10 * l.length
  | [] => by rw [wbits_nil]; simp
  | x :: r => by
    by_cases h : x = 0
    · subst h
      have := wbits_len (r.drop (zrun 63 r))
      rw [wbits_zero, List.length_append, List.length_append, Bit.num_length, Bit.num_length]
      rw [List.length_drop] at this
      simp only [List.length_cons]
      omega
    · have := wbits_len r
      rw [wbits_used r h, List.length_append, Bit.num_length]
      simp only [List.length_cons]
      omega
termination_by l => l.length
decreasing_by all_goals (simp; try omega)
def readR (b : List UInt8) (n q ah : Nat) (out : List UInt8) : List UInt8 × Int × Nat :=
  if out.length < n then
    if Bit.getErr (8 * b.length - q) 4 = 0 then
      if Bit.getNum b q 4 = 0 then
        if Bit.getErr (8 * b.length - (q + 4)) 6 = 0 then
          if ah < 64 ∨ n < out.length + Bit.getNum b (q + 4) 6 + 1 then ([], 7, q + 10)
          else readR b n (q + 10) (Bit.getNum b (q + 4) 6 + 1) (out ++ List.replicate (Bit.getNum b (q + 4) 6 + 1) 0)
        else ([], 1, q + 4)
      else readR b n (q + 4) 64 (out ++ [UInt8.ofNat (Bit.getNum b q 4)])
    else ([], 1, q)
  else if right out then (out, 0, q) else ([], 7, q)
termination_by n - out.length
decreasing_by all_goals (simp; try omega)
def readE (b : List UInt8) (n : Int) (q : Nat) : List UInt8 × Int × Nat := if n < 0 ∨ 300 < n then ([], 13, q) else readR b n.toNat q 64 []
section
variable {b : List UInt8} {n q ah : Nat} {out : List UInt8}
theorem readR_end (h : ¬ out.length < n) : readR b n q ah out = if right out then (out, 0, q) else ([], 7, q) := by rw [readR, if_neg h]
theorem readR_short (h : out.length < n) (h4 : Bit.getErr (8 * b.length - q) 4 ≠ 0) : readR b n q ah out = ([], 1, q) := by rw [readR, if_pos h, if_neg h4]
theorem readR_used (h : out.length < n) (h4 : Bit.getErr (8 * b.length - q) 4 = 0) (h0 : Bit.getNum b q 4 ≠ 0) : readR b n q ah out = readR b n (q + 4) 64 (out ++ [UInt8.ofNat (Bit.getNum b q 4)]) := by rw [readR, if_pos h, if_pos h4, if_neg h0]
theorem readR_short6 (h : out.length < n) (h4 : Bit.getErr (8 * b.length - q) 4 = 0) (h0 : Bit.getNum b q 4 = 0) (h6 : Bit.getErr (8 * b.length - (q + 4)) 6 ≠ 0) : readR b n q ah out = ([], 1, q + 4) := by rw [readR, if_pos h, if_pos h4, if_pos h0, if_neg h6]
theorem readR_bad (h : out.length < n) (h4 : Bit.getErr (8 * b.length - q) 4 = 0) (h0 : Bit.getNum b q 4 = 0) (h6 : Bit.getErr (8 * b.length - (q + 4)) 6 = 0) (hb : ah < 64 ∨ n < out.length + Bit.getNum b (q + 4) 6 + 1) : readR b n q ah out = ([], 7, q + 10) := by
  rw [readR, if_pos h, if_pos h4, if_pos h0, if_pos h6, if_pos hb]
theorem readR_run (h : out.length < n) (h4 : Bit.getErr (8 * b.length - q) 4 = 0) (h0 : Bit.getNum b q 4 = 0) (h6 : Bit.getErr (8 * b.length - (q + 4)) 6 = 0) (hb : ¬ (ah < 64 ∨ n < out.length + Bit.getNum b (q + 4) 6 + 1)) :
    readR b n q ah out = readR b n (q + 10) (Bit.getNum b (q + 4) 6 + 1) (out ++ List.replicate (Bit.getNum b (q + 4) 6 + 1) 0) := by
  rw [readR, if_pos h, if_pos h4, if_pos h0, if_pos h6, if_neg hb]
end
theorem read_back {l b : List UInt8} (hr : right l = true) : ∀ (suf pre : List UInt8) (P Q : List Bool) (ah : Nat), l = pre ++ suf → Bit.Packs b (P ++ wbits suf ++ Q) → (64 ≤ ah ∨ ∀ y, suf.head? = some y → y ≠ 0) →
    readR b l.length P.length ah pre = (l, 0, P.length + (wbits suf).length)
  | [], pre, P, Q, ah, e, _, _ => by
    rw [List.append_nil] at e
    subst e
    rw [readR_end (by omega), if_pos hr, wbits_nil]
    rfl
  | x :: r, pre, P, Q, ah, e, hP, ha => by
    have hl : pre.length < l.length := by rw [e]; simp
    have hx15 : x.toNat ≤ 15 := by
      have h := (right_facts hr).2.1 pre.length hl
      unfold lenAt at h
      rw [e, List.getD_eq_getElem?_getD, List.getElem?_append_right (Nat.le_refl _), Nat.sub_self] at h
      exact h
    by_cases hx : x = 0
    · subst hx
      rw [wbits_zero] at hP ⊢
      have hz := zrun_le 63 r
      have h4 := Bit.get_back (x := 0) (k := 4) (P := P) (Q := Bit.num (zrun 63 r) 6 ++ wbits (r.drop (zrun 63 r)) ++ Q) (by simpa [List.append_assoc] using hP) (by omega) (by decide)
      have h6 := Bit.get_back (x := zrun 63 r) (k := 6) (P := P ++ Bit.num 0 4) (Q := wbits (r.drop (zrun 63 r)) ++ Q) (by simpa [List.append_assoc] using hP) (by omega) (by omega)
      rw [List.length_append, Bit.num_length] at h6
      have a1 : Bit.getErr (8 * b.length - P.length) 4 = 0 := h4.1
      have a2 : Bit.getNum b P.length 4 = 0 := h4.2.1
      have a3 : Bit.getErr (8 * b.length - (P.length + 4)) 6 = 0 := h6.1
      have a4 : Bit.getNum b (P.length + 4) 6 = zrun 63 r := h6.2.1
      have ha2 : 64 ≤ ah := by
        rcases ha with h | h
        · exact h
        · exact absurd rfl (h 0 rfl)
      have hll : l.length = pre.length + 1 + r.length := by rw [e]; simp; omega
      rw [readR_run hl a1 a2 a3 (by rw [a4]; omega), a4]
      have e2 : l = (pre ++ List.replicate (zrun 63 r + 1) 0) ++ r.drop (zrun 63 r) := by
        rw [e, List.replicate_succ, ← zrun_zero 63 r]
        simp
      have IH := read_back hr (r.drop (zrun 63 r)) (pre ++ List.replicate (zrun 63 r + 1) 0) (P ++ Bit.num 0 4 ++ Bit.num (zrun 63 r) 6) Q (zrun 63 r + 1) e2 (by simpa [List.append_assoc] using hP) (by
        by_cases h : zrun 63 r < 63
        · exact .inr (zrun_stop 63 r h)
        · exact .inl (by omega))
      rw [List.length_append, List.length_append, Bit.num_length, Bit.num_length] at IH
      rw [show P.length + 10 = P.length + 4 + 6 by omega, IH]
      simp only [List.length_append, Bit.num_length]
      congr 2
      omega
    · rw [wbits_used r hx] at hP ⊢
      have h4 := Bit.get_back (x := x.toNat) (k := 4) (P := P) (Q := wbits r ++ Q) (by simpa [List.append_assoc] using hP) (by omega) (by omega)
      have a1 : Bit.getErr (8 * b.length - P.length) 4 = 0 := h4.1
      have a2 : Bit.getNum b P.length 4 = x.toNat := h4.2.1
      have hx0 : x.toNat ≠ 0 := fun h => hx (UInt8.toNat_inj.1 h)
      rw [readR_used hl a1 (by rw [a2]; exact hx0), a2, UInt8.ofNat_toNat]
      have IH := read_back hr r (pre ++ [x]) (P ++ Bit.num x.toNat 4) Q 64 (by rw [e]; simp) (by simpa [List.append_assoc] using hP) (.inl (Nat.le_refl _))
      rw [List.length_append, Bit.num_length] at IH
      rw [IH]
      simp only [List.length_append, Bit.num_length]
      congr 2
      omega
termination_by suf => suf.length
decreasing_by all_goals (simp; try omega)
end Go.Proofs.Ytaohdnhfodkeoaa.Can

namespace Go.Proofs.Ytaohdnhfodkeoaa.Huf
open Len Can
section
variable {l : List UInt8}
theorem word_fits (hr : right l = true) {s : Nat} (hs : s < l.length) (h0 : lenAt l s ≠ 0) : word l s < 2 ^ lenAt l s := by
  obtain ⟨_, h15, hk⟩ := right_facts hr
  have h1 := acc_le l (lenAt l s) (s + 1)
  rw [acc_step l (by omega) hs, if_pos rfl, ← word_mul h0] at h1
  have h2 := h15 s hs
  have e : (2 : Nat) ^ 15 = 2 ^ lenAt l s * 2 ^ (15 - lenAt l s) := by rw [← Nat.pow_add]; congr 1; omega
  have h3 : (word l s + 1) * 2 ^ (15 - lenAt l s) ≤ 2 ^ lenAt l s * 2 ^ (15 - lenAt l s) := by
    rw [← e, Nat.add_mul, Nat.one_mul]
    omega
  exact Nat.le_of_mul_le_mul_right h3 (Nat.pow_pos (by omega))
end
theorem val_top (f : Nat → Bool) {k n : Nat} (h : k ≤ n) : Bit.val f n / 2 ^ (n - k) = Bit.val f k := by
  have h1 := Bit.val_add f k (n - k)
  rw [show k + (n - k) = n by omega] at h1
  have h2 := Bit.val_lt (fun i => f (k + i)) (n - k)
  rw [h1, Nat.add_comm, Nat.add_mul_div_right _ _ (Nat.pow_pos (by omega)), Nat.div_eq_of_lt h2, Nat.zero_add]
def hit (l b : List UInt8) (q s : Nat) : Bool := decide (lenAt l s ≠ 0 ∧ lenAt l s ≤ 8 * b.length - q ∧ Bit.val (Bit.rest b q) (lenAt l s) = word l s)
def near (l b : List UInt8) (q s : Nat) : Bool := decide (lenAt l s ≠ 0 ∧ 8 * b.length - q < lenAt l s ∧ Bit.val (Bit.rest b q) (8 * b.length - q) = word l s / 2 ^ (lenAt l s - (8 * b.length - q)))
def getE (l b : List UInt8) (q : Nat) : Int × Int × Nat :=
  match (List.range l.length).find? (hit l b q) with
  | some s => ((s : Int), 0, q + lenAt l s)
  | none => if (List.range l.length).any (near l b q) then (-1, 1, q) else (-1, 7, q)
theorem hit_one {l b : List UInt8} {q s t : Nat} (hr : right l = true) (hs : s < l.length) (ht : t < l.length) (h1 : hit l b q s = true) (h2 : hit l b q t = true) : s = t := by
  obtain ⟨a0, a1, a2⟩ := of_decide_eq_true h1
  obtain ⟨b0, b1, b2⟩ := of_decide_eq_true h2
  obtain ⟨_, h15, _⟩ := right_facts hr
  refine Classical.byContradiction fun hne => ?_
  rcases Nat.le_total (lenAt l s) (lenAt l t) with h | h
  · have := word_apart hs ht hne a0 b0 (h15 t ht) h
    rw [← b2, val_top _ h, a2] at this
    exact this rfl
  · have := word_apart ht hs (Ne.symm hne) b0 a0 (h15 s hs) h
    rw [← a2, val_top _ h, b2] at this
    exact this rfl
theorem getE_hit {l b : List UInt8} {q s : Nat} (hr : right l = true) (hs : s < l.length) (h : hit l b q s = true) : getE l b q = ((s : Int), 0, q + lenAt l s) := by
  unfold getE
  cases hf : (List.range l.length).find? (hit l b q) with
  | none =>
    have := List.find?_eq_none.1 hf s (List.mem_range.2 hs)
    exact absurd h this
  | some t =>
    have h2 := List.find?_some hf
    have ht := List.mem_range.1 (List.mem_of_find?_eq_some hf)
    rw [hit_one hr hs ht h h2]
theorem getE_none {l b : List UInt8} {q : Nat} (h : ∀ s, s < l.length → hit l b q s = false) : getE l b q = if (List.range l.length).any (near l b q) then (-1, 1, q) else (-1, 7, q) := by
  unfold getE
  have hf : (List.range l.length).find? (hit l b q) = none := List.find?_eq_none.2 fun s hs => by rw [h s (List.mem_range.1 hs)]; simp
  rw [hf]
def fine (l : List UInt8) (s : Int) : Bool := decide (0 ≤ s ∧ s < l.length ∧ lenAt l s.toNat ≠ 0)
def putB (l : List UInt8) (s : Int) : List Bool := Bit.num (word l s.toNat) (lenAt l s.toNat)
def putE (l : List UInt8) (s : Int) : Int := if fine l s then 0 else 13
theorem get_put {l b : List UInt8} {P Q : List Bool} {s : Int} (hr : right l = true) (hf : fine l s = true) (h : Bit.Packs b (P ++ putB l s ++ Q)) : getE l b P.length = (s, 0, P.length + (putB l s).length) := by
  obtain ⟨h0, h1, h2⟩ := of_decide_eq_true hf
  obtain ⟨k, rfl⟩ := Int.eq_ofNat_of_zero_le h0
  rw [Int.toNat_natCast] at h2
  have hk : k < l.length := by omega
  obtain ⟨_, h15, _⟩ := right_facts hr
  have hk15 := h15 k hk
  have hw := word_fits hr hk h2
  unfold putB at h ⊢
  rw [Int.toNat_natCast] at h ⊢
  have hg := Bit.get_back h (by omega) hw
  have hroom := h.room
  rw [Bit.num_length] at hroom ⊢
  refine getE_hit hr hk (decide_eq_true ⟨h2, by omega, ?_⟩)
  have hn := hg.2.1
  unfold Bit.getNum at hn
  rw [hg.1, if_pos rfl, Int.toNat_natCast] at hn
  exact hn
end Go.Proofs.Ytaohdnhfodkeoaa.Huf

namespace Go.Proofs.Ytaohdnhfodkeoaa
open Go.RowKit Len
theorem kraft_le (l : List UInt8) : ∀ n, kraftOf l n ≤ n * 32768
  | 0 => by simp [kraftOf, sumN]
  | n + 1 => by
    have := kraft_le l n
    unfold kraftOf at *
    rw [sumN]
    have h : (if (l.getD n 0).toNat = 0 then 0 else 2 ^ (15 - (l.getD n 0).toNat)) ≤ 2 ^ 15 := by
      split
      · omega
      · exact Nat.pow_le_pow_right (by omega) (by omega)
    omega
def TellsI (k : IntKind) (w : World) (r : Nat × Int) (e : Ending) (w' : World) : Prop := e = .returned (.tuple #[.int k ((r.1 : Nat) : Int), .int .i64 r.2]) ∧ Ext w w'
set_option maxHeartbeats 2000000 in
set_option maxRecDepth 100000 in
theorem refKraft_any (A : Option Addr) (n c : Nat) (l : List UInt8) (w : World) (h : Bytes w w.heap.size A n l) : Calls Try.prog 73 #[.slice A n c] w (TellsI .i64 w (kraftE l)) := by
  have hl := h.1
  subst hl
  by_cases h300 : (300 : Int) < (l.length : Int)
  · have HN := hide (show kraftE l = (0, 13) from if_neg (by omega))
    clear h
    go_enter Try.func73, Try.ntmps73
    go_wp2
    go_ret2
    rw [HN.out]
    exact ⟨rfl, Ext.refl _⟩
  · have HBad := hide (show ∀ i, i < l.length → 15 < (l.getD i 0).toNat → kraftE l = (0, 13) from fun i hi hb => if_neg (fun h => by have := h.2 i hi; omega))
    have HOk := hide (show (∀ i, i < l.length → (l.getD i 0).toNat ≤ 15) → kraftE l = (kraftOf l l.length, 0) from fun h => if_pos ⟨by omega, h⟩)
    have HK := hide (kraft_le l)
    have HS := hide (show ∀ i, kraftOf l (i + 1) = kraftOf l i + if (l.getD i 0).toNat = 0 then 0 else 2 ^ (15 - (l.getD i 0).toNat) from fun _ => rfl)
    have HZ := hide (show kraftOf l 0 = 0 from rfl)
    generalize kraftE l = res at *
    go_enter Try.func73, Try.ntmps73
    go_wp2
    go_loopw [4, 5] (fun a b wr => ∃ i s : Nat, i ≤ l.length ∧ b = .int .i64 (i : Int) ∧ a = .int .i64 (s : Int) ∧ s = kraftOf l i ∧ (∀ q, q < i → (l.getD q 0).toNat ≤ 15) ∧ Ext w wr) (fun _ b _ => l.length - (intOf b).toNat)
    case atStart => exact ⟨0, 0, by omega, rfl, rfl, HZ.out.symm, fun q hq => absurd hq (by omega), Ext.refl _⟩
    case round =>
      obtain ⟨i, s, hi, rfl, rfl, hs, hall, hE⟩ := hrel
      have HAll := hide hall
      have HSS := hide hs
      clear hall
      by_cases hlt : i < l.length
      · rcases (hE.bytes h).2 with h0 | ⟨b, o, rfl, hB, hc⟩
        · omega
        have hk := hc i hlt
        have hyl := UInt8.toNat_lt (l.getD i 0)
        have hSum := HS.out i
        have hBad := HBad.out i hlt
        have hkr := HK.out i
        rw [← hs] at hkr hSum
        obtain ⟨y, hy⟩ : ∃ y, y = (l.getD i 0).toNat := ⟨_, rfl⟩
        rw [← hy] at hk hyl hSum hBad
        have HY := hide hy
        have hil : (i : Int) < (l.length : Int) := by omega
        clear hc hy hs
        by_cases h15 : (15 : Int) < (y : Int)
        · have HN := hide (hBad (by omega))
          clear hBad hSum
          go_wp2
          go_ret2
          rw [HN.out]
          exact ⟨rfl, hE⟩
        · by_cases h0 : (0 : Int) < (y : Int)
          · rw [if_neg (by omega)] at hSum
            have HSum := hide hSum
            clear hSum hBad
            obtain ⟨wa, rfl⟩ : ∃ W, W = wr := ⟨_, rfl⟩
            go_wp2_with fail
            go_loopw [6, 7] (fun a b wr => ∃ k v : Nat, k ≤ y ∧ b = .int .i64 (k : Int) ∧ a = .int .i64 (v : Int) ∧ v = 2 ^ (15 - k) ∧ wr = wa) (fun _ b _ => y - (intOf b).toNat)
            case atStart => exact ⟨0, 32768, by omega, rfl, rfl, rfl, rfl⟩
            case round =>
              obtain ⟨k, v, hk1, rfl, rfl, hv, rfl⟩ := hrel
              by_cases hky : (k : Int) < (y : Int)
              · have e : 2 ^ (15 - k) = 2 * 2 ^ (15 - (k + 1)) := by rw [show 15 - k = (15 - (k + 1)) + 1 by omega, Nat.pow_succ, Nat.mul_comm]
                have hb : 2 ^ (15 - (k + 1)) ≤ 32768 := Nat.le_trans (Nat.pow_le_pow_right (by omega) (show 15 - (k + 1) ≤ 15 by omega)) (by decide)
                obtain ⟨v', hv'⟩ : ∃ v, v = 2 ^ (15 - (k + 1)) := ⟨_, rfl⟩
                rw [← hv, ← hv'] at e
                rw [← hv'] at hb
                have hq : ((v : Nat) : Int).tdiv 2 = ((v' : Nat) : Int) := by
                  rw [Int.tdiv_eq_ediv_of_nonneg (by omega), e]
                  omega
                have hb2 : (v : Int) ≤ 65536 := by omega
                have HV' := hide hv'
                clear e hv hv'
                go_wp2
                go_roundw
                case rel => exact ⟨k + 1, v', by omega, by go_num, by go_num, HV'.out, trivial⟩
                case measure => simp [intOf]; omega
              · obtain rfl : k = y := by omega
                have hb : 2 ^ (15 - k) ≤ 32768 := Nat.le_trans (Nat.pow_le_pow_right (by omega) (show 15 - k ≤ 15 by omega)) (by decide)
                rw [← hv] at hb HSum
                clear hv
                go_wp2
                go_roundw
                case rel => exact ⟨i + 1, s + v, by omega, by go_num, by go_num, HSum.out.symm, fun q hq => (by
                  by_cases hqi : q = i
                  · rw [hqi, ← HY.out]; omega
                  · exact HAll.out q (by omega)), hE⟩
                case measure => simp [intOf]; omega
          · rw [if_pos (by omega), Nat.add_zero] at hSum
            have HSum := hide hSum
            clear hSum hBad
            go_wp2
            go_roundw
            case rel => exact ⟨i + 1, s, by omega, by go_num, rfl, HSum.out.symm, fun q hq => (by
              by_cases hqi : q = i
              · rw [hqi, ← HY.out]; omega
              · exact HAll.out q (by omega)), hE⟩
            case measure => simp [intOf]; omega
      · obtain rfl : l.length = i := by omega
        have HN := hide (HOk.out HAll.out)
        clear h
        rw [← hs] at HN
        clear hs
        go_wp2
        go_ret2
        rw [HN.out]
        exact ⟨rfl, hE⟩
end Go.Proofs.Ytaohdnhfodkeoaa

namespace Go.Proofs.Ytaohdnhfodkeoaa
open Go.ChangeShapes Go.WideShapes Go.ChangeAt Go.WideMaps Go.WideElems Go.RowKit
def U32At (w : World) (B : Nat) (A : Option Addr) (n : Nat) (L : List Nat) : Prop :=
  L.length = n ∧ (∀ i, L.getD i 0 < 4294967296) ∧ (n = 0 ∨ ∃ b off, A = some ⟨b, off, none⟩ ∧ b < B ∧ ∀ i, i < n → w.cell? ⟨b, off + i, none⟩ = some (.int .u32 ((L.getD i 0 : Nat) : Int)))
theorem U32At.ext {w w' : World} {A : Option Addr} {n : Nat} {L : List Nat} (h : U32At w w.heap.size A n L) (hE : Ext w w') : U32At w' w'.heap.size A n L := by
  refine ⟨h.1, h.2.1, h.2.2.imp_right ?_⟩
  rintro ⟨b, off, e, hb, hc⟩
  exact ⟨b, off, e, Nat.lt_of_lt_of_le hb hE.le, fun i hi => (hE.cell (i := off + i) hb).trans (hc i hi)⟩
end Go.Proofs.Ytaohdnhfodkeoaa

namespace Go.Proofs.Ytaohdnhfodkeoaa.Len
theorem row_le (lv : List Item) : ∀ r, (row lv r).length ≤ 2 * lv.length
  | 0 => by rw [row]; omega
  | r + 1 => by
    have := row_le lv r
    rw [row_len]
    omega
end Go.Proofs.Ytaohdnhfodkeoaa.Len
namespace Go.Proofs.Ytaohdnhfodkeoaa
open Go.RowKit Len
def TellsB (w : World) (r : List UInt8 × Int) (e : Ending) (w' : World) : Prop := ∃ v, e = .returned (.tuple #[v, .int .i64 r.2]) ∧ OwnB w' w.heap.size v r.1 ∧ Ext w w'
def LensC (w : World) : Prop := ∀ (often : List Nat) (limit : Int) (A : Option Addr) (n c : Nat) (W : World), Ext w W → n ≤ c → c ≤ maxLen → U32At W W.heap.size A n often → -9223372036854775808 ≤ limit → limit ≤ 9223372036854775807 →
  Calls Try.prog 68 #[.slice A n c, .int .i64 limit] W (TellsB W (lensE often limit))
def RefLensC (w : World) : Prop := ∀ (often : List Nat) (limit : Int) (A : Option Addr) (n c : Nat) (W : World), Ext w W → n ≤ c → U32At W W.heap.size A n often → -9223372036854775808 ≤ limit → limit ≤ 9223372036854775807 →
  Calls Try.prog 35 #[.slice A n c, .int .i64 limit] W (TellsB W (lensE often limit))
end Go.Proofs.Ytaohdnhfodkeoaa

namespace Go.Proofs.Ytaohdnhfodkeoaa
open Go.RowKit Len
def usedN (often : List Nat) (i : Nat) : Nat := sumN i fun q => if often.getD q 0 = 0 then 0 else 1
theorem kraft_lens {often : List Nat} {L : Nat} (h300 : often.length ≤ 300) (hL : 1 ≤ L) (hL15 : L ≤ 15) (hu : (usedTo often often.length).length ≤ 2 ^ L) :
    kraftE (lensL often L) = ((if 2 ≤ usedN often often.length then 32768 else if usedN often often.length = 1 then 16384 else 0), 0) := by
  have hf := lenN_full hL hL15 hu
  rw [used_len] at hf
  have hk : kraftOf (lensL often L) (lensL often L).length = sumN often.length fun q => if often.getD q 0 = 0 then 0 else 2 ^ (15 - lenN often L q) := by
    unfold kraftOf
    rw [lensL_len]
    refine sumN_congr fun q hq => ?_
    rw [lensL_at hq hL hL15 hu]
    by_cases h0 : often.getD q 0 = 0
    · rw [if_pos h0, if_pos (lenN_free h0 hL hu)]
    · have := (lenN_used hq h0 hL hu).1
      rw [if_neg h0, if_neg (by omega)]
  unfold kraftE
  rw [if_pos ⟨by rw [lensL_len]; exact h300, fun q hq => by
    rw [lensL_len] at hq
    rw [lensL_at hq hL hL15 hu]
    have := lenN_small hq hL hL15 hu
    omega⟩, hk, hf]
  rfl
end Go.Proofs.Ytaohdnhfodkeoaa

namespace Go.Proofs.Ytaohdnhfodkeoaa.Huf
open Len Can
theorem lens_lenAt {often : List Nat} (h300 : often.length ≤ 300) {q : Nat} (hq : q < often.length) : lenAt (lensL often 15) q = lenN often 15 q :=
  lensL_at hq (by omega) (by omega) (Nat.le_trans (used_le _) (Nat.le_trans h300 (by decide)))
theorem right_lens {often : List Nat} (h300 : often.length ≤ 300) : right (lensL often 15) = true := by
  have hu : (usedTo often often.length).length ≤ 2 ^ 15 := Nat.le_trans (used_le _) (Nat.le_trans h300 (by decide))
  have hk := kraft_lens h300 (show 1 ≤ 15 by omega) (Nat.le_refl 15) hu
  have hU : usedC (lensL often 15) (lensL often 15).length = usedN often often.length := by
    unfold usedC usedN
    rw [lensL_len]
    refine sumN_congr fun q hq => ?_
    rw [lens_lenAt h300 hq]
    by_cases h0 : often.getD q 0 = 0
    · rw [if_pos h0, if_pos (lenN_free h0 (by omega) hu)]
    · have := (lenN_used hq h0 (L := 15) (by omega) hu).1
      rw [if_neg h0, if_neg (by omega)]
  refine decide_eq_true ⟨by rw [hk], ?_⟩
  rw [hU, hk]
  by_cases h2 : 2 ≤ usedN often often.length
  · rw [if_pos h2]
    exact .inr (.inr rfl)
  · by_cases h1 : usedN often often.length = 1
    · refine .inr (.inl ⟨h1, ?_⟩)
      have h1' : (usedTo often often.length).length = 1 := by rw [used_len]; exact h1
      have hs := (used_at (often := often) (j := often.length) (i := 0) (by omega)).1
      unfold oneC
      rw [lensL_len, sumN_congr (g := fun q => if q = sOf (usedTo often often.length) 0 then 1 else 0) (fun q hq => by
        rw [lens_lenAt h300 hq, lenN_one h1']
        by_cases e : q = sOf (usedTo often often.length) 0
        · rw [if_pos e]; rfl
        · rw [if_neg e]; rfl), sumN_pt, if_pos hs]
    · exact .inl (by omega)
end Go.Proofs.Ytaohdnhfodkeoaa.Huf

namespace Go.Proofs.Ytaohdnhfodkeoaa.Lz
def sumSz (L : List TokV) : Nat := (L.map sizeT).sum
theorem sumSz_cons (t : TokV) (L : List TokV) : sumSz (t :: L) = sizeT t + sumSz L := by simp [sumSz]
theorem sumSz_next {L : List TokV} {i : Nat} (h : i < L.length) : sumSz (L.take (i + 1)) = sumSz (L.take i) + sizeT (L.getD i default) := by
  have e : L.take (i + 1) = L.take i ++ [L.getD i default] := by
    rw [List.take_add_one, List.getD_eq_getElem?_getD, List.getElem?_eq_getElem h]
    rfl
  rw [e]
  unfold sumSz
  rw [List.map_append, List.sum_append]
  simp only [List.map_cons, List.map_nil, List.sum_cons, List.sum_nil, Nat.add_zero]
theorem size_small {t : TokV} (h : may t = true) : (t.len = 0 ∨ 3 ≤ t.len ∧ t.len ≤ 257) ∧ sizeT t ≤ 257 := by
  by_cases h0 : t.len = 0
  · exact ⟨.inl h0, by unfold sizeT; rw [if_pos h0]; omega⟩
  · unfold may at h
    rw [if_neg h0] at h
    obtain ⟨_, h1, h2, _⟩ := of_decide_eq_true h
    exact ⟨.inr ⟨h1, h2⟩, by unfold sizeT; rw [if_neg h0]; omega⟩
end Go.Proofs.Ytaohdnhfodkeoaa.Lz

namespace Go.Proofs.Ytaohdnhfodkeoaa
open Go.RowKit Len Can
set_option maxHeartbeats 2000000 in
set_option maxRecDepth 100000 in
theorem refCheck_any (A : Option Addr) (n c : Nat) (l : List UInt8) (w : World) (h : Bytes w w.heap.size A n l) : Calls Try.prog 57 #[.slice A n c] w fun e w' => e = .returned (.int .i64 (checkE l)) ∧ Ext w w' := by
  have hl := h.1
  subst hl
  have C1 := refKraft_any A l.length c l w h
  by_cases hk : (kraftE l).2 = 0
  · have HR := hide (show ∀ r : Prop, ((usedC l l.length = 0 ∨ usedC l l.length = 1 ∧ oneC l l.length = 1 ∨ (kraftE l).1 = 32768) ↔ r) → (r → checkE l = 0) ∧ (¬ r → checkE l = 7) from fun r hr => ⟨fun h => check_right (decide_eq_true ⟨hk, hr.2 h⟩), fun h => check_wrong (decide_eq_false fun h2 => h (hr.1 h2.2))⟩)
    obtain ⟨h300, _, hkw⟩ := kraft_ok hk
    have HU := hide (show ∀ i, usedC l (i + 1) = usedC l i + if lenAt l i = 0 then 0 else 1 from fun _ => rfl)
    have HO := hide (show ∀ i, oneC l (i + 1) = oneC l i + if lenAt l i = 1 then 1 else 0 from fun _ => rfl)
    have HU0 := hide (show usedC l 0 = 0 from rfl)
    have HO0 := hide (show oneC l 0 = 0 from rfl)
    unfold TellsI at C1
    rw [hk] at C1
    clear hk hkw
    generalize (kraftE l).1 = kw at *
    generalize hck : checkE l = ck at *
    clear hck
    go_enter Try.func57, Try.ntmps57
    go_wp2_with fail
    refine C1.mono ?_
    rintro e w2 ⟨rfl, hE⟩
    clear C1
    go_wp2_with fail
    go_loopw [5, 6, 7] (fun a b d wr => ∃ i u o : Nat, i ≤ l.length ∧ d = .int .i64 (i : Int) ∧ a = .int .i64 (u : Int) ∧ b = .int .i64 (o : Int) ∧ u = usedC l i ∧ o = oneC l i ∧ u ≤ i ∧ o ≤ i ∧ Ext w wr) (fun _ _ d _ => l.length - (intOf d).toNat)
    case atStart => exact ⟨0, 0, 0, Nat.zero_le _, rfl, rfl, rfl, HU0.out.symm, HO0.out.symm, Nat.le_refl _, Nat.le_refl _, hE⟩
    case round =>
      obtain ⟨i, u, o, hi, rfl, rfl, rfl, hu, ho, hui, hoi, hE2⟩ := hrel
      by_cases hlt : i < l.length
      · rcases (hE2.bytes h).2 with h0 | ⟨b, off, rfl, hB, hc⟩
        · omega
        have hk := hc i hlt
        have hU := HU.out i
        have hO := HO.out i
        unfold lenAt at hU hO
        rw [← hu] at hU
        rw [← ho] at hO
        have hyl := UInt8.toNat_lt (l.getD i 0)
        obtain ⟨y, hy⟩ : ∃ y, y = (l.getD i 0).toNat := ⟨_, rfl⟩
        rw [← hy] at hk hU hO hyl
        have hil : (i : Int) < (l.length : Int) := by omega
        clear hc hy hu ho h
        by_cases y0 : y = 0
        · rw [if_pos y0] at hU
          rw [if_neg (by omega)] at hO
          have HU2 := hide hU
          have HO2 := hide hO
          subst y0
          clear hU hO
          go_wp2
          go_roundw
          case rel => exact ⟨i + 1, u, o, by omega, by go_num, rfl, rfl, HU2.out.symm, HO2.out.symm, by omega, by omega, hE2⟩
          case measure => simp [intOf]; omega
        · rw [if_neg y0] at hU
          have hy0 : (0 : Int) < (y : Int) := by omega
          by_cases y1 : y = 1
          · rw [if_pos y1] at hO
            have HU2 := hide hU
            have HO2 := hide hO
            subst y1
            clear hU hO
            go_wp2
            go_roundw
            case rel => exact ⟨i + 1, u + 1, o + 1, by omega, by go_num, by go_num, by go_num, HU2.out.symm, HO2.out.symm, by omega, by omega, hE2⟩
            case measure => simp [intOf]; omega
          · rw [if_neg y1] at hO
            have HU2 := hide hU
            have HO2 := hide hO
            have hyb : ((y : Int) == 1) = false := by rw [beq_eq_false_iff_ne]; omega
            clear hU hO
            go_wp2
            go_roundw
            case rel => exact ⟨i + 1, u + 1, o, by omega, by go_num, by go_num, rfl, HU2.out.symm, HO2.out.symm, by omega, by omega, hE2⟩
            case measure => simp [intOf]; omega
      · obtain rfl : l.length = i := by omega
        have HRu := hide (HR.out (u = 0 ∨ u = 1 ∧ o = 1 ∨ kw = 32768) (by rw [hu, ho]))
        clear hu ho h
        by_cases u0 : u = 0
        · have HK := hide (HRu.out.1 (.inl u0))
          subst u0
          clear HRu
          go_wp2
          go_ret
          exact ⟨ret_i64 HK.out.symm, hE2⟩
        · have hub : ((u : Int) == 0) = false := by rw [beq_eq_false_iff_ne]; omega
          by_cases hk : kw = 32768
          · have HK := hide (HRu.out.1 (.inr (.inr hk)))
            subst hk
            by_cases u1 : u = 1
            · subst u1
              by_cases o1 : o = 1
              · subst o1
                clear HRu
                go_wp2
                go_ret
                exact ⟨ret_i64 HK.out.symm, hE2⟩
              · have hob : ((o : Int) == 1) = false := by rw [beq_eq_false_iff_ne]; omega
                clear HRu
                go_wp2
                go_ret
                exact ⟨ret_i64 HK.out.symm, hE2⟩
            · have hu1 : ((u : Int) == 1) = false := by rw [beq_eq_false_iff_ne]; omega
              clear HRu
              go_wp2
              go_ret
              exact ⟨ret_i64 HK.out.symm, hE2⟩
          · have hkb : ((kw : Int) == 32768) = false := by rw [beq_eq_false_iff_ne]; omega
            by_cases u1 : u = 1
            · subst u1
              by_cases o1 : o = 1
              · have HK := hide (HRu.out.1 (.inr (.inl ⟨rfl, o1⟩)))
                subst o1
                clear HRu
                go_wp2
                go_ret
                exact ⟨ret_i64 HK.out.symm, hE2⟩
              · have HK := hide (HRu.out.2 (by omega))
                have hob : ((o : Int) == 1) = false := by rw [beq_eq_false_iff_ne]; omega
                clear HRu
                go_wp2
                go_ret
                exact ⟨ret_i64 HK.out.symm, hE2⟩
            · have HK := hide (HRu.out.2 (by omega))
              have hu1 : ((u : Int) == 1) = false := by rw [beq_eq_false_iff_ne]; omega
              clear HRu
              go_wp2
              go_ret
              exact ⟨ret_i64 HK.out.symm, hE2⟩
  · have HN := hide (show checkE l = 7 from check_wrong (decide_eq_false fun h2 => hk h2.1))
    have h13 : (kraftE l).2 = 13 := by
      unfold kraftE at hk ⊢
      split at hk
      · exact absurd rfl hk
      · rename_i h2
        rw [if_neg h2]
    unfold TellsI at C1
    rw [h13] at C1
    generalize (kraftE l).1 = kw at *
    generalize checkE l = ck at *
    clear hk h13 h
    go_enter Try.func57, Try.ntmps57
    go_wp2_with fail
    refine C1.mono ?_
    rintro e w2 ⟨rfl, hE⟩
    go_wp2
    go_ret
    exact ⟨ret_i64 HN.out.symm, hE⟩
end Go.Proofs.Ytaohdnhfodkeoaa

namespace Go.Proofs.Ytaohdnhfodkeoaa
open Go.RowKit
def bit8 (b : Bool) : UInt8 := if b then 1 else 0
theorem bit8_int (b : Bool) : ((bit8 b).toNat : Int) = (b.toNat : Int) := by cases b <;> rfl
def RefW (w : World) (base g : Nat) (ob : Option Nat) (L : List UInt8) : Prop := ∃ v, Whole w g 68 #[v] ∧ OwnB w base v L ∧ v.ownBlock ≠ some g ∧ base ≤ g ∧ v.ownBlock = ob
def RefPuts (w : World) (base g : Nat) (ob : Option Nat) (L : List UInt8) (err : Int) (e : Ending) (w' : World) : Prop :=
  e = .returned (.int .i64 err) ∧ ∃ ob', RefW w' base g ob' L ∧ NewOb w ob ob' ∧ Mod w w' g ob
section
variable {w w' : World} {base g : Nat} {ob : Option Nat} {L : List UInt8}
theorem RefW.lt (h : RefW w base g ob L) : g < w.heap.size := by obtain ⟨v, h, _⟩ := h; exact h.lt
theorem RefW.le (h : RefW w base g ob L) : base ≤ g := by obtain ⟨v, _, _, _, h, _⟩ := h; exact h
theorem RefW.own (h : RefW w base g ob L) : ∀ k, ob = some k → base ≤ k ∧ k < w.heap.size := by obtain ⟨v, _, h, _, _, rfl⟩ := h; exact h.lt
theorem RefW.ext (h : RefW w base g ob L) (hE : Ext w w') : RefW w' base g ob L := by
  obtain ⟨v, hW, hO, r⟩ := h
  exact ⟨v, hW.ext hE, hO.ext hE, r⟩
end
theorem RefW.put {w w1 w2 w3 : World} {base g : Nat} {v v2 : Value} {L : List UInt8} {x : UInt8} (hW : Whole w g 68 #[v]) (hne : v.ownBlock ≠ some g) (hb : base ≤ g) (hE : Ext w w1)
    (hO2 : OwnB w2 base v2 (L ++ [x])) (hG : w1.grownBy w2 v.ownBlock) (hN : NewOb w1 v.ownBlock v2.ownBlock) (hW3 : Whole w3 g 68 #[v2]) (hG3 : w2.grownBy w3 (some g)) :
    ∃ ob', RefW w3 base g ob' (L ++ [x]) ∧ NewOb w v.ownBlock ob' ∧ Mod w w3 g v.ownBlock := by
  have hne2 : v2.ownBlock ≠ some g := hN.ne (Nat.lt_of_lt_of_le hW.lt hE.le) hne
  refine ⟨v2.ownBlock, ⟨v2, hW3, (Mod.ofRow (ob := none) hG3).own hO2 hne2 (by cases v2.ownBlock <;> simp), hne2, hb, rfl⟩, (NewOb.same w _).trans hE.le hN, ?_⟩
  exact ((Mod.ofExt hE).trans (Mod.ofOwn hG) (.inl rfl)).trans (Mod.ofRow (ob := v.ownBlock) hG3) (.inl rfl)
end Go.Proofs.Ytaohdnhfodkeoaa

namespace Go.Proofs.Ytaohdnhfodkeoaa
open Go.RowKit
def Bit.spread (l : List UInt8) (p : Nat) : List UInt8 := (List.range p).map fun i => bit8 (Bit.at_ l i)
theorem Bit.spread_len (l : List UInt8) (p : Nat) : (Bit.spread l p).length = p := by simp [Bit.spread]
theorem Bit.spread_get (l : List UInt8) (p i : Nat) (h : i < p) : (Bit.spread l p).getD i 0 = bit8 (Bit.at_ l i) := by simp [Bit.spread, List.getD_eq_getElem?_getD, h]
theorem Bit.spread_succ (l : List UInt8) (p : Nat) : Bit.spread l (p + 1) = Bit.spread l p ++ [bit8 (Bit.at_ l p)] := by simp [Bit.spread, List.range_succ]
def RefR (w : World) (base g : Nat) (l : List UInt8) (q : Nat) : Prop :=
  ∃ v, Whole w g 120 #[v, .int .i64 (q : Int)] ∧ OwnB w base v (Bit.spread l (8 * l.length)) ∧ v.ownBlock ≠ some g ∧ base ≤ g ∧ q ≤ 8 * l.length ∧ l.length ≤ 1000000
section
variable {w w' : World} {base g q : Nat} {l : List UInt8}
theorem RefR.lt (h : RefR w base g l q) : g < w.heap.size := by obtain ⟨v, h, _⟩ := h; exact h.lt
theorem RefR.le (h : RefR w base g l q) : base ≤ g := by obtain ⟨v, _, _, _, h, _⟩ := h; exact h
theorem RefR.ext (h : RefR w base g l q) (hE : Ext w w') : RefR w' base g l q := by
  obtain ⟨v, hW, hO, r⟩ := h
  exact ⟨v, hW.ext hE, hO.ext hE, r⟩
theorem RefR.cells (h : RefR w base g l q) : ∃ A c, w.cell? ⟨g, 0, none⟩ = some (.slice A (8 * l.length) c) ∧ w.cell? ⟨g, 1, none⟩ = some (.int .i64 (q : Int)) ∧ w.frozen? ⟨g, 1, none⟩ = false ∧ q ≤ 8 * l.length ∧ l.length ≤ 1000000 ∧
    Bytes w w.heap.size A (8 * l.length) (Bit.spread l (8 * l.length)) := by
  obtain ⟨v, hW, hO, hne, hb, hq, hl⟩ := h
  obtain ⟨A, c, rfl, _, _, hbb⟩ := hO.form
  rw [Bit.spread_len] at hW hbb
  exact ⟨A, c, hW.at 0 rfl, hW.at 1 rfl, hW.frozen 1, hq, hl, hbb⟩
end
theorem spread_cell {w : World} {A : Option Addr} {l : List UInt8} {i : Nat} (hb : Bytes w w.heap.size A (8 * l.length) (Bit.spread l (8 * l.length))) (hi : i < 8 * l.length) :
    ∃ b off, A = some ⟨b, off, none⟩ ∧ b < w.heap.size ∧ w.cell? ⟨b, off + i, none⟩ = some (.int .u8 ((Bit.at_ l i).toNat : Int)) := by
  rcases hb.2 with h0 | ⟨b, off, hA, hB, hc⟩
  · omega
  · refine ⟨b, off, hA, hB, ?_⟩
    rw [hc i hi, Bit.spread_get _ _ _ hi, bit8_int]
theorem refLeft_any {w : World} {base g q : Nat} {l : List UInt8} (h : RefR w base g l q) :
    Calls Try.prog 65 #[.pointer (some ⟨g, 0, none⟩)] w fun e w' => e = .returned (.int .i64 ((8 * l.length - q : Nat) : Int)) ∧ Qt w w' := by
  obtain ⟨A, c, c0, c1, _, hq, hl, _⟩ := h.cells
  go_enter Try.func65, Try.ntmps65
  go_wp2
  go_quiet (fail)
  go_wp2
  go_ret
  exact ⟨ret_i64 (by omega), ⟨_, rfl⟩⟩
def Bit.upto (f : Nat → Bool) (left : Nat) : Nat → Bool := fun i => decide (i < left) && f i
theorem Bit.peek_upto (f : Nat → Bool) (left n : Nat) : Bit.val (Bit.upto f left) n = Bit.val f (min n left) * 2 ^ (n - min n left) := by
  have h := Bit.val_shift (Bit.upto f left) (min n left) (n - min n left) (fun i h1 h2 => by unfold Bit.upto; rw [decide_eq_false (by omega)]; rfl)
  rw [show min n left + (n - min n left) = n by omega] at h
  rw [h, Bit.val_congr (g := f) (min n left) (fun i hi => by unfold Bit.upto; rw [decide_eq_true (by omega), Bool.true_and])]
set_option maxHeartbeats 1000000 in
theorem refPeek_any {w : World} {base g q : Nat} {l : List UInt8} (h : RefR w base g l q) (n : Int) :
    Calls Try.prog 64 #[.pointer (some ⟨g, 0, none⟩), .int .i64 n] w fun e w' =>
      e = .returned (.tuple #[.int .u64 ((Bit.peekNum l q n : Nat) : Int), .int .i64 ((Bit.peekThere (8 * l.length - q) n : Nat) : Int)]) ∧ Qt w w' := by
  by_cases hbad : 0 ≤ n ∧ n ≤ 64
  · obtain ⟨h0, h1⟩ := hbad
    obtain ⟨k, rfl⟩ := Int.eq_ofNat_of_zero_le h0
    have hk : k ≤ 64 := by omega
    have HN := hide (show Bit.peekNum l q (k : Int) = Bit.val (Bit.upto (Bit.rest l q) (8 * l.length - q)) k by unfold Bit.peekNum; rw [if_pos ⟨h0, h1⟩, Bit.peek_upto]; simp)
    have HT := hide (show Bit.peekThere (8 * l.length - q) (k : Int) = min k (8 * l.length - q) by unfold Bit.peekThere; rw [if_pos ⟨h0, h1⟩]; simp)
    go_enter Try.func64, Try.ntmps64
    go_wp2
    go_loopw [6, 7, 8] (fun x t i wr => ∃ j : Nat, j ≤ k ∧ x = .int .u64 (Bit.val (Bit.upto (Bit.rest l q) (8 * l.length - q)) j : Nat) ∧ t = .int .i64 ((min j (8 * l.length - q) : Nat) : Int) ∧ i = .int .i64 (j : Int) ∧ Qt w wr) (fun _ _ i _ => k - (intOf i).toNat)
    case atStart => exact ⟨0, by omega, rfl, by simp, rfl, Qt.refl _⟩
    case round =>
      obtain ⟨j, hj, rfl, rfl, rfl, hQ⟩ := hrel
      by_cases hlt : j < k
      · have hv := Bit.val_lt (Bit.upto (Bit.rest l q) (8 * l.length - q)) j
        have hv2 : Bit.val (Bit.upto (Bit.rest l q) (8 * l.length - q)) j < 9223372036854775808 := Nat.lt_of_lt_of_le hv (show 2 ^ j ≤ 2 ^ 63 from Nat.pow_le_pow_right (by omega) (by omega))
        have HV := hide (show Bit.val (Bit.upto (Bit.rest l q) (8 * l.length - q)) (j + 1) = 2 * Bit.val (Bit.upto (Bit.rest l q) (8 * l.length - q)) j + (Bit.upto (Bit.rest l q) (8 * l.length - q) j).toNat from rfl)
        clear hv
        generalize Bit.val (Bit.upto (Bit.rest l q) (8 * l.length - q)) j = X at *
        have hR := h.ext hQ.ext
        by_cases hin : j < 8 * l.length - q
        · have HU := hide (show Bit.upto (Bit.rest l q) (8 * l.length - q) j = Bit.at_ l (q + j) by unfold Bit.upto; rw [decide_eq_true hin, Bool.true_and]; rfl)
          have hm1 : min j (8 * l.length - q) = j := by omega
          have hin' : (j : Int) < ((8 * l.length - q : Nat) : Int) := by omega
          rw [hm1]
          go_wp2_with fail
          refine (refLeft_any hR).mono ?_
          rintro e w2 ⟨rfl, hQ2⟩
          have hR2 := hR.ext hQ2.ext
          obtain ⟨A, c, c0, c1, _, hq, hl, hbb⟩ := hR2.cells
          obtain ⟨b, off, rfl, _, hc⟩ := spread_cell (i := q + j) hbb (by omega)
          have hix : (q : Int) + j < ((8 * l.length : Nat) : Int) := by omega
          have hbt : (Bit.at_ l (q + j)).toNat ≤ 1 := by cases Bit.at_ l (q + j) <;> simp
          generalize Bit.at_ l (q + j) = bt at *
          clear hR hR2 hbb h
          have hLb : ((8 * l.length : Nat) : Int) ≤ 8000000 := by omega
          generalize hLL : 8 * l.length = LL at *
          have HLL := hide hLL
          clear hLL
          have HQ := hide (hQ.trans hQ2)
          clear hQ hQ2 hm1
          go_wp2_with fail
          go_quiet (fail)
          go_wp2
          go_roundw
          case rel => exact ⟨j + 1, by omega, by rw [HLL.out, HV.out, HU.out]; go_num, by rw [HLL.out, show min (j + 1) (LL - q) = j + 1 by omega]; go_num, by go_num, HQ.out.drewN _⟩
          case measure => simp [intOf]; omega
        · have HU := hide (show Bit.upto (Bit.rest l q) (8 * l.length - q) j = false by unfold Bit.upto; rw [decide_eq_false hin]; rfl)
          have hm1 : min j (8 * l.length - q) = 8 * l.length - q := by omega
          have hm2 : min (j + 1) (8 * l.length - q) = 8 * l.length - q := by omega
          have hin' : ¬ ((j : Int) < ((8 * l.length - q : Nat) : Int)) := by omega
          have HM := hide hm2
          rw [hm1]
          go_wp2_with fail
          refine (refLeft_any hR).mono ?_
          rintro e w2 ⟨rfl, hQ2⟩
          clear hm1 hm2 hR h
          generalize hLQ : 8 * l.length - q = LQ at *
          have HLQ := hide hLQ
          clear hLQ
          go_wp2
          go_roundw
          case rel => exact ⟨j + 1, by omega, by rw [HLQ.out, HV.out, HU.out]; go_num, by rw [HLQ.out, HM.out], by go_num, hQ.trans hQ2⟩
          case measure => simp [intOf]; omega
      · obtain rfl : j = k := by omega
        go_wp2
        go_ret2
        exact ⟨ret_nverr (by rw [HN.out]) (by rw [HT.out]), hQ⟩
  · have HN := hide (show Bit.peekNum l q n = 0 by unfold Bit.peekNum; rw [if_neg hbad])
    have HT := hide (show Bit.peekThere (8 * l.length - q) n = 0 by unfold Bit.peekThere; rw [if_neg hbad])
    by_cases h0 : n < 0
    · clear hbad
      go_enter Try.func64, Try.ntmps64
      go_wp2
      go_ret2
      exact ⟨ret_nverr (by rw [HN.out]; rfl) (by rw [HT.out]; rfl), Qt.refl _⟩
    · have h1 : 64 < n := by omega
      clear hbad
      go_enter Try.func64, Try.ntmps64
      go_wp2
      go_ret2
      exact ⟨ret_nverr (by rw [HN.out]; rfl) (by rw [HT.out]; rfl), Qt.refl _⟩
end Go.Proofs.Ytaohdnhfodkeoaa

namespace Go.Proofs.Ytaohdnhfodkeoaa
open Go.RowKit
theorem Bit.getNum_peek (l : List UInt8) (q k : Nat) (hk : k ≤ 64) (hs : k ≤ 8 * l.length - q) : Bit.getNum l q (k : Int) = Bit.peekNum l q (k : Int) := by
  have h1 : Bit.getErr (8 * l.length - q) (k : Int) = 0 := by unfold Bit.getErr; rw [if_pos ⟨by omega, by omega⟩, if_pos (by omega)]
  unfold Bit.getNum Bit.peekNum
  rw [h1, if_pos rfl, if_pos ⟨by omega, by omega⟩, Int.toNat_natCast, Nat.min_eq_left hs, Nat.sub_self, Nat.pow_zero, Nat.mul_one]
set_option maxHeartbeats 1000000 in
theorem refPad_any {w : World} {base g q : Nat} {l : List UInt8} (h : RefR w base g l q) :
    Calls Try.prog 48 #[.pointer (some ⟨g, 0, none⟩)] w fun e w' => e = .returned (.int .i64 (Bit.padErr l q)) ∧ Qt w w' := by
  by_cases h8 : 8 * l.length - q < 8
  · have h8' : ¬ (8 ≤ ((8 * l.length - q : Nat) : Int)) := by omega
    go_enter Try.func48, Try.ntmps48
    go_wp2_with fail
    refine (refLeft_any h).mono ?_
    rintro e w2 ⟨rfl, hQ2⟩
    have hR := h.ext hQ2.ext
    obtain ⟨A, c, c0, c1, f1, hq, hl, hbb⟩ := hR.cells
    go_wp2
    go_loop [3] (fun i => ∃ j : Nat, q + j ≤ 8 * l.length ∧ i = .int .i64 ((q + j : Nat) : Int) ∧ (∀ t, t < j → Bit.at_ l (q + t) = false)) (fun i => 8 * l.length - (intOf i).toNat)
    case atStart => exact ⟨0, by omega, rfl, fun t ht => by omega⟩
    case round =>
      obtain ⟨j, hj, rfl, hz⟩ := hrel
      have hLb : ((8 * l.length : Nat) : Int) ≤ 8000000 := by omega
      by_cases hlt : q + j < 8 * l.length
      · obtain ⟨b, off, rfl, _, hc⟩ := spread_cell (i := q + j) hbb hlt
        have hix : ((q + j : Nat) : Int) < ((8 * l.length : Nat) : Int) := by omega
        clear hbb hR h
        by_cases hbit : Bit.at_ l (q + j) = true
        · have hZ : Bit.zs l q = j := Bit.zeros_eq (by omega) hz (fun _ => hbit)
          have HE := hide (show Bit.padErr l q = 2 by unfold Bit.padErr; rw [if_neg (fun h => by omega)])
          rw [hbit] at hc
          clear hz hbit hZ
          generalize q + j = qj at *
          generalize hLL : 8 * l.length = LL at *
          clear hLL
          go_wp2
          go_ret
          exact ⟨ret_i64 HE.out.symm, hQ2⟩
        · have hbit' : Bit.at_ l (q + j) = false := by simpa using hbit
          rw [hbit'] at hc
          have HZ := hide (show ∀ t, t < j + 1 → Bit.at_ l (q + t) = false from fun t ht => by
            rcases Nat.lt_or_ge t j with h | h
            · exact hz t h
            · obtain rfl : t = j := by omega
              exact hbit')
          clear hz hbit hbit'
          generalize hLL : 8 * l.length = LL at *
          have HLL := hide hLL
          clear hLL
          go_wp2
          go_round
          case rel => exact ⟨j + 1, by have := HLL.out; omega, by go_num, HZ.out⟩
          case measure => have := HLL.out; simp [intOf]; omega
      · have hZ : Bit.zs l q = 8 * l.length - q := Bit.zeros_eq (by omega) (fun t ht => hz t (by omega)) (fun h => by omega)
        have HE := hide (show Bit.padErr l q = 0 by unfold Bit.padErr; rw [if_pos ⟨h8, hZ⟩])
        have hix : ¬ (((q + j : Nat) : Int) < ((8 * l.length : Nat) : Int)) := by omega
        clear hz hZ hbb hR h
        go_wp2
        go_ret
        exact ⟨ret_i64 HE.out.symm, hQ2⟩
  · have HE := hide (show Bit.padErr l q = 2 by unfold Bit.padErr; rw [if_neg (fun h => h8 h.1)])
    have h8' : 8 ≤ ((8 * l.length - q : Nat) : Int) := by omega
    clear h8
    go_enter Try.func48, Try.ntmps48
    go_wp2_with fail
    refine (refLeft_any h).mono ?_
    rintro e w2 ⟨rfl, hQ2⟩
    go_wp2
    go_ret
    exact ⟨ret_i64 HE.out.symm, hQ2⟩
end Go.Proofs.Ytaohdnhfodkeoaa

namespace Go.Proofs.Ytaohdnhfodkeoaa
open Go.RowKit Len Can
def RefRV (w : World) (base g : Nat) (v : Value) (l : List UInt8) (q : Nat) : Prop :=
  Whole w g 120 #[v, .int .i64 (q : Int)] ∧ OwnB w base v (Bit.spread l (8 * l.length)) ∧ v.ownBlock ≠ some g ∧ base ≤ g ∧ q ≤ 8 * l.length ∧ l.length ≤ 1000000
section
variable {w w' : World} {base g q : Nat} {v : Value} {l : List UInt8}
theorem RefRV.ref (h : RefRV w base g v l q) : RefR w base g l q := ⟨v, h⟩
theorem RefRV.ext (h : RefRV w base g v l q) (hE : Ext w w') : RefRV w' base g v l q := by
  obtain ⟨hW, hO, r⟩ := h
  exact ⟨hW.ext hE, hO.ext hE, r⟩
theorem RefRV.grown {ob : Option Nat} (h : RefRV w base g v l q) (hG : w.grownBy w' ob) (h1 : ob ≠ some g) (h2 : v.ownBlock = none ∨ v.ownBlock ≠ ob) : RefRV w' base g v l q := by
  obtain ⟨hW, hO, r⟩ := h
  exact ⟨hW.ownGrown hG h1, World.ownsRow.kept hO hG h2, r⟩
theorem RefRV.moved {q' : Nat} (h : RefRV w base g v l q) (hq' : q' ≤ 8 * l.length) {x : Int} (hx : x = (q' : Int)) : RefRV (w.setCell ⟨g, 1, none⟩ (.int .i64 x)) base g v l q' ∧ Mod w (w.setCell ⟨g, 1, none⟩ (.int .i64 x)) g none := by
  obtain ⟨hW, hO, hne, hb, _, hl⟩ := h
  subst hx
  exact ⟨⟨hW.set 1 _, hO.far hne 1 _, hne, hb, hq', hl⟩, Mod.ofRow (grown_setCell w g 1 _)⟩
end
set_option maxHeartbeats 1000000 in
theorem refGetV_any {w : World} {base g q : Nat} {v : Value} {l : List UInt8} (h : RefRV w base g v l q) (n : Int) :
    Calls Try.prog 47 #[.pointer (some ⟨g, 0, none⟩), .int .i64 n] w fun e w' =>
      e = .returned (.tuple #[.int .u64 ((Bit.getNum l q n : Nat) : Int), .int .i64 (Bit.getErr (8 * l.length - q) n)]) ∧ RefRV w' base g v l (Bit.getTo (8 * l.length - q) q n) ∧ Mod w w' g none := by
  by_cases hbad : 0 ≤ n ∧ n ≤ 64
  · obtain ⟨h0, h1⟩ := hbad
    obtain ⟨k, rfl⟩ := Int.eq_ofNat_of_zero_le h0
    have hk : k ≤ 64 := by omega
    by_cases hs : k ≤ 8 * l.length - q
    · have HE := hide (show Bit.getErr (8 * l.length - q) (k : Int) = 0 by unfold Bit.getErr; rw [if_pos ⟨h0, h1⟩, if_pos (by omega)])
      have HN := hide (Bit.getNum_peek l q k hk hs)
      have HT := hide (show Bit.getTo (8 * l.length - q) q (k : Int) = q + k by unfold Bit.getTo; rw [HE.out]; simp)
      go_enter Try.func47, Try.ntmps47
      go_wp2_with fail
      refine (refLeft_any h.ref).mono ?_
      rintro e w2 ⟨rfl, hQ2⟩
      have hR2 := h.ext hQ2.ext
      clear h
      go_wp2_with fail
      refine (refPeek_any hR2.ref (k : Int)).mono ?_
      rintro e w3 ⟨rfl, hQ3⟩
      have hR3 := hR2.ext hQ3.ext
      obtain ⟨A, c, c0, c1, f1, hq, hl, _⟩ := hR3.ref.cells
      have HR := hide hR3
      clear hR2 hR3 c0
      generalize Bit.peekNum l q (k : Int) = X at *
      generalize Bit.peekThere (8 * l.length - q) (k : Int) = T at *
      go_wp2
      go_ret2
      have hM := HR.out.moved (q' := q + k) (x := (q : Int) + k) (by omega) (by omega)
      exact ⟨ret_nverr (by rw [HN.out]) HE.out.symm, by rw [HT.out]; exact hM.1, (Mod.ofExt (hQ2.trans hQ3).ext).trans hM.2 (.inl rfl)⟩
    · have HE := hide (show Bit.getErr (8 * l.length - q) (k : Int) = 1 by unfold Bit.getErr; rw [if_pos ⟨h0, h1⟩, if_neg (by omega)])
      have HN := hide (show Bit.getNum l q (k : Int) = 0 by unfold Bit.getNum; rw [HE.out]; simp)
      have HT := hide (show Bit.getTo (8 * l.length - q) q (k : Int) = q by unfold Bit.getTo; rw [HE.out]; simp)
      have HR := hide h
      have hs' : ¬ ((k : Int) ≤ ((8 * l.length - q : Nat) : Int)) := by omega
      go_enter Try.func47, Try.ntmps47
      go_wp2_with fail
      refine (refLeft_any h.ref).mono ?_
      rintro e w2 ⟨rfl, hQ2⟩
      go_wp2
      go_ret2
      exact ⟨ret_nverr (by rw [HN.out]; rfl) HE.out.symm, by rw [HT.out]; exact HR.out.ext hQ2.ext, Mod.ofExt hQ2.ext⟩
  · have HE := hide (show Bit.getErr (8 * l.length - q) n = 13 by unfold Bit.getErr; rw [if_neg hbad])
    have HN := hide (show Bit.getNum l q n = 0 by unfold Bit.getNum; rw [HE.out]; simp)
    have HT := hide (show Bit.getTo (8 * l.length - q) q n = q by unfold Bit.getTo; rw [HE.out]; simp)
    have HR := hide h
    by_cases h0 : n < 0
    · clear hbad
      go_enter Try.func47, Try.ntmps47
      go_wp2
      go_ret2
      exact ⟨ret_nverr (by rw [HN.out]; rfl) HE.out.symm, by rw [HT.out]; exact HR.out, Mod.refl _ _ _⟩
    · have h1 : 64 < n := by omega
      clear hbad
      go_enter Try.func47, Try.ntmps47
      go_wp2
      go_ret2
      exact ⟨ret_nverr (by rw [HN.out]; rfl) HE.out.symm, by rw [HT.out]; exact HR.out, Mod.refl _ _ _⟩
theorem Mod.fresh {a b c : World} {g : Nat} {ob : Option Nat} (h : Mod a b g none) (hG : b.grownBy c ob) (ho : ∀ k, ob = some k → a.heap.size ≤ k) : Mod a c g none :=
  ⟨hG.os.trans h.os, hG.tape.trans h.tape, hG.output.trans h.output, Nat.le_trans h.size hG.size, fun k hk hg hn => (hG.block k (Nat.lt_of_lt_of_le hk h.size) (fun e => by have := ho k e.symm; omega)).trans (h.block k hk hg hn)⟩
theorem Can.getErr_le {left : Nat} {n : Nat} (hn : n ≤ 64) (h : Bit.getErr left (n : Int) ≠ 0) : Bit.getErr left (n : Int) = 1 := by
  unfold Bit.getErr at h ⊢
  rw [if_pos ⟨by omega, by omega⟩] at h ⊢
  split at h
  · exact absurd rfl h
  · rename_i h2
    rw [if_neg h2]
theorem Can.getNum_lt (b : List UInt8) (q n : Nat) : Bit.getNum b q (n : Int) < 2 ^ n := by
  unfold Bit.getNum
  split
  · exact Bit.val_lt _ _
  · exact Nat.two_pow_pos _
end Go.Proofs.Ytaohdnhfodkeoaa

namespace Go.Proofs.Ytaohdnhfodkeoaa.Tok
open Len Can Huf Lz
def isSym (q : Nat) (t : TokV) : Bool := decide ((splitE t).1.sym = (q : Int))
def isFar (q : Nat) (t : TokV) : Bool := decide (t.len ≠ 0 ∧ (splitE t).1.dist = (q : Int))
def countsS (L : List TokV) : List Nat := (List.range 265).map fun q => L.countP (isSym q) + if q = 256 then 1 else 0
def countsF (L : List TokV) : List Nat := (List.range 12).map fun q => L.countP (isFar q)
theorem countsS_len (L : List TokV) : (countsS L).length = 265 := by simp [countsS]
theorem countsF_len (L : List TokV) : (countsF L).length = 12 := by simp [countsF]
theorem countsS_at (L : List TokV) {q : Nat} (hq : q < 265) : (countsS L).getD q 0 = L.countP (isSym q) + if q = 256 then 1 else 0 := by
  simp [countsS, List.getD_eq_getElem?_getD, hq]
theorem countsF_at (L : List TokV) {q : Nat} (hq : q < 12) : (countsF L).getD q 0 = L.countP (isFar q) := by
  simp [countsF, List.getD_eq_getElem?_getD, hq]
def bestS (L : List TokV) : List UInt8 := lensL (countsS L) 15
def bestF (L : List TokV) : List UInt8 := lensL (countsF L) 15
theorem lens_found {often : List Nat} (h : often.length ≤ 300) : lensE often 15 = (lensL often 15, 0) := by
  have hu := used_le (often := often) often.length
  unfold lensE
  rw [if_neg (by omega), if_neg (by rw [show (15 : Int).toNat = 15 from rfl]; omega)]
  rfl
theorem fine_found {often : List Nat} (h : often.length ≤ 300) {q : Nat} (hq : q < often.length) (h0 : often.getD q 0 ≠ 0) : fine (lensL often 15) (q : Int) = true := by
  have hu := used_le (often := often) often.length
  have h1 := (lenN_used (often := often) (L := 15) hq h0 (by omega) (by omega)).1
  refine decide_eq_true ⟨by omega, by rw [lensL_len]; omega, ?_⟩
  rw [Int.toNat_natCast, lens_lenAt h hq]
  omega
theorem bestS_right (L : List TokV) : right (bestS L) = true := right_lens (by rw [countsS_len]; omega)
theorem bestF_right (L : List TokV) : right (bestF L) = true := right_lens (by rw [countsF_len]; omega)
theorem bestS_len (L : List TokV) : (bestS L).length = 265 := by unfold bestS; rw [lensL_len, countsS_len]
theorem bestF_len (L : List TokV) : (bestF L).length = 12 := by unfold bestF; rw [lensL_len, countsF_len]
theorem end_fine (L : List TokV) : fine (bestS L) 256 = true := fine_found (often := countsS L) (q := 256) (by rw [countsS_len]; omega) (by rw [countsS_len]; omega) (by
  rw [countsS_at L (by omega), if_pos rfl]
  omega)
theorem sym_range {t : TokV} (h : may t = true) : 0 ≤ (splitE t).1.sym ∧ (splitE t).1.sym < 265 ∧ (splitE t).1.sym ≠ 256 ∧ (t.len ≠ 0 → 0 ≤ (splitE t).1.dist ∧ (splitE t).1.dist < 12) := by
  by_cases h0 : t.len = 0
  · rw [split_lit h h0]
    have := UInt8.toNat_lt t.lit
    dsimp only
    exact ⟨by omega, by omega, by omega, fun e => absurd h0 e⟩
  · obtain ⟨k, x, c, y, hk, hx, hc, hy, e1, e2, e3⟩ := split_match h h0
    rw [e3]
    dsimp only
    exact ⟨by omega, by omega, by omega, fun _ => ⟨by omega, by omega⟩⟩
theorem sym_fine {L : List TokV} {t : TokV} (ht : t ∈ L) (h : may t = true) : fine (bestS L) (splitE t).1.sym = true := by
  obtain ⟨h1, h2, _, _⟩ := sym_range h
  obtain ⟨q, hq⟩ := Int.eq_ofNat_of_zero_le h1
  rw [hq]
  refine fine_found (often := countsS L) (by rw [countsS_len]; omega) (by rw [countsS_len]; omega) ?_
  rw [countsS_at L (by omega)]
  have : 0 < L.countP (isSym q) := List.countP_pos_iff.2 ⟨t, ht, decide_eq_true hq⟩
  omega
theorem dist_fine {L : List TokV} {t : TokV} (ht : t ∈ L) (h : may t = true) (h0 : t.len ≠ 0) : fine (bestF L) (splitE t).1.dist = true := by
  obtain ⟨h1, h2⟩ := (sym_range h).2.2.2 h0
  obtain ⟨q, hq⟩ := Int.eq_ofNat_of_zero_le h1
  rw [hq]
  refine fine_found (often := countsF L) (by rw [countsF_len]; omega) (by rw [countsF_len]; omega) ?_
  rw [countsF_at L (by omega)]
  have : 0 < L.countP (isFar q) := List.countP_pos_iff.2 ⟨t, ht, decide_eq_true ⟨h0, hq⟩⟩
  omega
def matchB (y : List UInt8) (p : PcV) : List Bool := Bit.num p.len.toNat (p.sym - 257).toNat ++ (putB y p.dist ++ Bit.num p.far.toNat p.dist.toNat)
def tokB (x y : List UInt8) (t : TokV) : List Bool := putB x (splitE t).1.sym ++ if t.len = 0 then [] else matchB y (splitE t).1
def bodyB (x y : List UInt8) (L : List TokV) : List Bool := L.flatMap (tokB x y)
theorem bodyB_cons (x y : List UInt8) (t : TokV) (L : List TokV) : bodyB x y (t :: L) = tokB x y t ++ bodyB x y L := rfl
def writeB (L : List TokV) : List Bool := wbits (bestS L) ++ (wbits (bestF L) ++ (bodyB (bestS L) (bestF L) L ++ putB (bestS L) 256))
def writeE (L : List TokV) : List Bool × Int := if 32768 < L.length then ([], 6) else if L.all may then (writeB L, 0) else ([], 7)
def matchT (y b : List UInt8) (s : Int) (q : Nat) : PcV × Int × Nat :=
  if Bit.getErr (8 * b.length - q) (s - 257) ≠ 0 then (⟨0, 0, 0, 0⟩, Bit.getErr (8 * b.length - q) (s - 257), q)
  else if (getE y b (q + (s - 257).toNat)).2.1 ≠ 0 then (⟨0, 0, 0, 0⟩, (getE y b (q + (s - 257).toNat)).2.1, q)
  else if Bit.getErr (8 * b.length - (getE y b (q + (s - 257).toNat)).2.2) (getE y b (q + (s - 257).toNat)).1 ≠ 0 then (⟨0, 0, 0, 0⟩, Bit.getErr (8 * b.length - (getE y b (q + (s - 257).toNat)).2.2) (getE y b (q + (s - 257).toNat)).1, q)
  else (⟨s, (Bit.getNum b q (s - 257) : Nat), (getE y b (q + (s - 257).toNat)).1, (Bit.getNum b (getE y b (q + (s - 257).toNat)).2.2 (getE y b (q + (s - 257).toNat)).1 : Nat)⟩, 0, (getE y b (q + (s - 257).toNat)).2.2 + (getE y b (q + (s - 257).toNat)).1.toNat)
def pieceT (y b : List UInt8) (s : Int) (q : Nat) : PcV × Int × Nat := if s < 256 then (⟨s, 0, 0, 0⟩, 0, q) else matchT y b s q
def unT (x y b : List UInt8) (most : Int) (q : Nat) (n : Int) (out : List TokV) : List TokV × Int :=
  if (getE x b q).2.1 ≠ 0 then ([], (getE x b q).2.1)
  else if (getE x b q).1 = 256 then (if Bit.padErr b (getE x b q).2.2 = 0 then (out, 0) else ([], 2))
  else if (pieceT y b (getE x b q).1 (getE x b q).2.2).2.1 ≠ 0 then ([], (pieceT y b (getE x b q).1 (getE x b q).2.2).2.1)
  else if most < n + sizeT (joinE (pieceT y b (getE x b q).1 (getE x b q).2.2).1).1 then ([], 6)
  else if q < (pieceT y b (getE x b q).1 (getE x b q).2.2).2.2 ∧ (pieceT y b (getE x b q).1 (getE x b q).2.2).2.2 ≤ 8 * b.length then
    unT x y b most (pieceT y b (getE x b q).1 (getE x b q).2.2).2.2 (n + sizeT (joinE (pieceT y b (getE x b q).1 (getE x b q).2.2).1).1) (out ++ [(joinE (pieceT y b (getE x b q).1 (getE x b q).2.2).1).1])
  else ([], 0)
termination_by 8 * b.length - q
decreasing_by omega
def readT (b : List UInt8) (most : Int) : List TokV × Int :=
  if most < 0 then ([], 13)
  else if (readE b 265 0).2.1 ≠ 0 then ([], (readE b 265 0).2.1)
  else if (readE b 12 (readE b 265 0).2.2).2.1 ≠ 0 then ([], (readE b 12 (readE b 265 0).2.2).2.1)
  else unT (readE b 265 0).1 (readE b 12 (readE b 265 0).2.2).1 b most (readE b 12 (readE b 265 0).2.2).2.2 0 []
section
variable {x y b : List UInt8} {most : Int}
theorem match_back (hry : right y = true) {P Q : List Bool} {k v c z : Nat} (hk : k ≤ 7) (hv : v < 2 ^ k) (hc : c ≤ 11) (hz : z < 2 ^ c) (hf : fine y (c : Int) = true)
    (h : Bit.Packs b (P ++ matchB y ⟨257 + (k : Int), v, c, z⟩ ++ Q)) :
    matchT y b (257 + (k : Int)) P.length = (⟨257 + (k : Int), v, c, z⟩, 0, P.length + (matchB y ⟨257 + (k : Int), v, c, z⟩).length) := by
  unfold matchB at h ⊢
  dsimp only at h ⊢
  have ek : (257 + (k : Int) - 257).toNat = k := by omega
  have ek2 : 257 + (k : Int) - 257 = (k : Int) := by omega
  rw [ek, Int.toNat_natCast, Int.toNat_natCast, Int.toNat_natCast] at h ⊢
  have h1 := Bit.get_back (x := v) (k := k) (P := P) (Q := putB y c ++ Bit.num z c ++ Q) (by simpa [List.append_assoc] using h) (by omega) hv
  have h2 := get_put (P := P ++ Bit.num v k) (Q := Bit.num z c ++ Q) hry hf (by simpa [List.append_assoc] using h)
  have h3 := Bit.get_back (x := z) (k := c) (P := P ++ Bit.num v k ++ putB y c) (Q := Q) (by simpa [List.append_assoc] using h) (by omega) hz
  rw [List.length_append, Bit.num_length] at h2
  rw [List.length_append, List.length_append, Bit.num_length] at h3
  unfold matchT
  rw [ek2, Int.toNat_natCast, h1.1, if_neg (by simp), h2, if_neg (by simp)]
  dsimp only
  rw [h3.1, if_neg (by simp), h1.2.1, h3.2.1, Int.toNat_natCast]
  simp only [List.length_append, Bit.num_length]
  congr 2
  omega
theorem tok_step (hrx : right x = true) (hry : right y = true) {t : TokV} {P Q : List Bool} (hm : may t = true) (hs : fine x (splitE t).1.sym = true) (hd : t.len ≠ 0 → fine y (splitE t).1.dist = true)
    (h : Bit.Packs b (P ++ tokB x y t ++ Q)) : (getE x b P.length).2.1 = 0 ∧ (getE x b P.length).1 ≠ 256 ∧
      pieceT y b (getE x b P.length).1 (getE x b P.length).2.2 = ((splitE t).1, 0, P.length + (tokB x y t).length) ∧ P.length < P.length + (tokB x y t).length := by
  have hr := sym_range hm
  have hl0 : 0 < (putB x (splitE t).1.sym).length := by
    obtain ⟨f0, f1, f2⟩ := of_decide_eq_true hs
    unfold putB
    rw [Bit.num_length]
    omega
  unfold tokB at h ⊢
  have h1 := get_put (P := P) (Q := (if t.len = 0 then [] else matchB y (splitE t).1) ++ Q) hrx hs (by simpa [List.append_assoc] using h)
  rw [h1]
  dsimp only
  refine ⟨rfl, hr.2.2.1, ?_, by rw [List.length_append]; omega⟩
  unfold pieceT
  by_cases h0 : t.len = 0
  · have e := split_lit hm h0
    have h8 := UInt8.toNat_lt t.lit
    rw [e, if_pos h0]
    dsimp only
    rw [if_pos (by omega), List.append_nil]
  · rw [if_neg h0] at h ⊢
    obtain ⟨k, v, c, z, hk, hv, hc, hz, _, _, e3⟩ := split_match hm h0
    have hdd := hd h0
    rw [e3] at h hdd ⊢
    dsimp only at h hdd ⊢
    rw [if_neg (by omega)]
    have := match_back (P := P ++ putB x (257 + (k : Int))) (Q := Q) hry hk hv hc hz hdd (by simpa [List.append_assoc] using h)
    rw [List.length_append] at this
    rw [this, List.length_append, Nat.add_assoc]
theorem un_back (hrx : right x = true) (hry : right y = true) (he : fine x 256 = true) : ∀ (L : List TokV) (P : List Bool) (n : Int) (out : List TokV), (∀ t, t ∈ L → may t = true ∧ fine x (splitE t).1.sym = true ∧ (t.len ≠ 0 → fine y (splitE t).1.dist = true)) →
    Bit.Packs b (P ++ bodyB x y L ++ putB x 256) → n ≤ most → unT x y b most P.length n out = if n + sumSz L ≤ most then (out ++ L, 0) else ([], 6)
  | [], P, n, out, _, h, hn => by
    have e : bodyB x y [] = [] := rfl
    rw [e, List.append_nil] at h
    have h1 := get_put (P := P) (Q := []) hrx he (by rw [List.append_nil]; exact h)
    have hp := Bit.pad_back h
    rw [List.length_append] at hp
    rw [unT, h1]
    dsimp only
    rw [if_neg (by simp), if_pos rfl, if_pos hp.1, if_pos (by show n + ((sumSz [] : Nat) : Int) ≤ most; simp [sumSz]; exact hn), List.append_nil]
  | t :: r, P, n, out, ha, h, hn => by
    obtain ⟨hm, hs, hd⟩ := ha t (List.mem_cons_self ..)
    rw [bodyB_cons] at h
    obtain ⟨g1, g2, g3, g4⟩ := tok_step (P := P) (Q := bodyB x y r ++ putB x 256) hrx hry hm hs hd (by simpa [List.append_assoc] using h)
    have hroom : P.length + (tokB x y t).length ≤ 8 * b.length := Bit.Packs.room (P := P) (E := tokB x y t) (Q := bodyB x y r ++ putB x 256) (by simpa [List.append_assoc] using h)
    rw [unT, g1, g3]
    dsimp only
    rw [if_neg (by simp), if_neg g2, if_neg (by simp), join_split hm]
    dsimp only
    rw [sumSz_cons]
    by_cases hz : most < n + (sizeT t : Int)
    · rw [if_pos hz, if_neg (by omega)]
    · rw [if_neg hz, if_pos ⟨g4, hroom⟩]
      have IH := un_back hrx hry he r (P ++ tokB x y t) (n + (sizeT t : Int)) (out ++ [t]) (fun u hu => ha u (List.mem_cons_of_mem _ hu)) (by simpa [List.append_assoc] using h) (by omega)
      rw [List.length_append] at IH
      rw [IH, List.append_assoc]
      by_cases hc : n + ((sizeT t + sumSz r : Nat) : Int) ≤ most
      · rw [if_pos hc, if_pos (by omega)]
        rfl
      · rw [if_neg hc, if_neg (by omega)]
end
theorem read_written {L : List TokV} {b : List UInt8} {most : Int} (hm : ∀ t, t ∈ L → may t = true) (h : Bit.Packs b (writeB L)) :
    readT b most = if most < 0 then ([], 13) else if (sumSz L : Int) ≤ most then (L, 0) else ([], 6) := by
  unfold readT
  by_cases hneg : most < 0
  · rw [if_pos hneg, if_pos hneg]
  rw [if_neg hneg, if_neg hneg]
  unfold writeB at h
  have r1 := Can.read_back (bestS_right L) (bestS L) [] [] (wbits (bestF L) ++ (bodyB (bestS L) (bestF L) L ++ putB (bestS L) 256)) 64 rfl (by simpa using h) (.inl (Nat.le_refl _))
  have r2 := Can.read_back (bestF_right L) (bestF L) [] (wbits (bestS L)) (bodyB (bestS L) (bestF L) L ++ putB (bestS L) 256) 64 rfl (by simpa [List.append_assoc] using h) (.inl (Nat.le_refl _))
  rw [bestS_len, List.length_nil, Nat.zero_add] at r1
  rw [bestF_len] at r2
  have e1 : readE b 265 0 = (bestS L, 0, (wbits (bestS L)).length) := by unfold readE; rw [if_neg (by omega)]; exact r1
  have e2 : readE b 12 (wbits (bestS L)).length = (bestF L, 0, (wbits (bestS L)).length + (wbits (bestF L)).length) := by unfold readE; rw [if_neg (by omega)]; exact r2
  rw [e1]
  dsimp only
  rw [if_neg (by simp), e2]
  dsimp only
  rw [if_neg (by simp)]
  have hb := un_back (b := b) (most := most) (bestS_right L) (bestF_right L) (end_fine L) L (wbits (bestS L) ++ wbits (bestF L)) 0 [] (fun t ht => ⟨hm t ht, sym_fine ht (hm t ht), dist_fine ht (hm t ht)⟩) (by simpa [List.append_assoc] using h) (by omega)
  rw [List.length_append] at hb
  rw [hb, Int.zero_add, List.nil_append]
end Go.Proofs.Ytaohdnhfodkeoaa.Tok

namespace Go.Proofs.Ytaohdnhfodkeoaa
open Go.ChangeShapes Go.WideShapes Go.ChangeAt Go.WideMaps Go.WideElems Go.RowKit
def u32V (x : Nat) : Value := .int .u32 (x : Int)
def OwnU (w : World) (base : Nat) (v : Value) (L : List Nat) : Prop := w.ownsRow base 38 1 v L.length (L.map u32V)
theorem u32_info : (Try.prog.info? 38).map (fun i => (i.zero, i.size, i.bytes)) = some (some (.int .u32 0), 1, 4) := by kernel_rfl
section
variable {w w' : World} {base g c : Nat} {v : Value} {L : List Nat}
theorem OwnU.ext (h : OwnU w base v L) (hE : Ext w w') : OwnU w' base v L := World.ownsRow.kept h (hE.grown none) (by cases hv : v.ownBlock <;> simp)
theorem OwnU.lt (h : OwnU w base v L) : ∀ k, v.ownBlock = some k → base ≤ k ∧ k < w.heap.size := World.ownsRow.lt h
theorem OwnU.cell {n : Nat} (h : OwnU w base (.slice (some ⟨g, 0, none⟩) n c) L) {i : Nat} (hi : i < L.length) (hn : n = L.length) :
    w.cell? ⟨g, i, none⟩ = some (.int .u32 ((L.getD i 0 : Nat) : Int)) ∧ w.frozen? ⟨g, i, none⟩ = false := by
  subst hn
  refine ⟨?_, World.ownsRow.frozenAt h i⟩
  rw [World.ownsRow.cellAt h i (by omega)]
  simp [u32V, hi]
theorem OwnU.set {n : Nat} (h : OwnU w base (.slice (some ⟨g, 0, none⟩) n c) L) (i x : Nat) (hn : n = L.length) :
    OwnU (w.setCell ⟨g, i, none⟩ (.int .u32 (x : Int))) base (.slice (some ⟨g, 0, none⟩) n c) (L.set i x) := by
  subst hn
  have := (World.ownsRow.stored h i (.int .u32 (x : Int))).1
  unfold OwnU
  rw [List.length_set, List.map_set]
  exact this
theorem OwnU.at {n : Nat} (h : OwnU w base (.slice (some ⟨g, 0, none⟩) n c) L) (hn : n = L.length) (hb : ∀ i, L.getD i 0 < 4294967296) : U32At w w.heap.size (some ⟨g, 0, none⟩) n L := by
  refine ⟨hn.symm, hb, .inr ⟨g, 0, rfl, (h.lt g rfl).2, fun i hi => ?_⟩⟩
  rw [Nat.zero_add]
  exact (h.cell (by omega) hn).1
end
end Go.Proofs.Ytaohdnhfodkeoaa

namespace Go.Proofs.Ytaohdnhfodkeoaa
open Go.RowKit Lz Tok Len
theorem Tok.cnt_set {p : Nat → TokV → Bool} {m s : Nat} {L : List TokV} {t : TokV} (h : ∀ q, q < m → p q t = decide (q = s)) :
    ((List.range m).map fun q => L.countP (p q)).set s (((List.range m).map fun q => L.countP (p q)).getD s 0 + 1) = (List.range m).map fun q => (L ++ [t]).countP (p q) := by
  refine List.ext_getElem (by simp) fun i h1 h2 => ?_
  simp only [List.length_set, List.length_map, List.length_range] at h1
  rw [List.getElem_set]
  simp only [List.getElem_map, List.getElem_range, List.countP_append, List.countP_singleton, h i h1]
  by_cases e : s = i
  · subst e
    simp [List.getD_eq_getElem?_getD, h1]
  · rw [if_neg e, if_neg (by simp; omega)]
    rfl
theorem Tok.cnt_same {p : Nat → TokV → Bool} {m : Nat} {L : List TokV} {t : TokV} (h : ∀ q, q < m → p q t = false) :
    ((List.range m).map fun q => (L ++ [t]).countP (p q)) = (List.range m).map fun q => L.countP (p q) := by
  refine List.ext_getElem (by simp) fun i h1 h2 => ?_
  simp only [List.length_map, List.length_range] at h1
  simp [List.countP_append, h i h1]
def Tok.cntS (L : List TokV) : List Nat := (List.range 265).map fun q => L.countP (isSym q)
theorem Tok.cntS_len (L : List TokV) : (cntS L).length = 265 := by simp [cntS]
theorem Tok.cnt_nil (p : Nat → TokV → Bool) (m : Nat) : ((List.range m).map fun q => List.countP (p q) []) = List.replicate m 0 := by
  refine List.ext_getElem (by simp) fun i h1 h2 => ?_
  simp
theorem Tok.cntS_nil : cntS [] = List.replicate 265 0 := cnt_nil isSym 265
theorem Tok.cntF_nil : countsF [] = List.replicate 12 0 := cnt_nil isFar 12
theorem Tok.cntS_end (L : List TokV) : (cntS L).set 256 ((cntS L).getD 256 0 + 1) = countsS L := by
  refine List.ext_getElem (by simp [cntS, countsS]) fun i h1 h2 => ?_
  rw [List.length_set, cntS_len] at h1
  rw [List.getElem_set]
  by_cases e : 256 = i
  · subst e
    simp [cntS, countsS, List.getD_eq_getElem?_getD]
  · rw [if_neg e]
    simp [cntS, countsS]
    omega
theorem Tok.cntS_le (L : List TokV) (q : Nat) : (cntS L).getD q 0 ≤ L.length := by
  rw [List.getD_eq_getElem?_getD]
  rcases Nat.lt_or_ge q 265 with h | h
  · simp [cntS, h]
    exact List.countP_le_length
  · rw [List.getElem?_eq_none (by rw [cntS_len]; exact h)]
    exact Nat.zero_le _
theorem Tok.cntF_le (L : List TokV) (q : Nat) : (countsF L).getD q 0 ≤ L.length := by
  rw [List.getD_eq_getElem?_getD]
  rcases Nat.lt_or_ge q 12 with h | h
  · simp [countsF, h]
    exact List.countP_le_length
  · rw [List.getElem?_eq_none (by rw [countsF_len]; exact h)]
    exact Nat.zero_le _
theorem Tok.take_next {L : List TokV} {i : Nat} (hi : i < L.length) : L.take (i + 1) = L.take i ++ [L.getD i default] := by
  rw [List.take_add_one, List.getD_eq_getElem?_getD, List.getElem?_eq_getElem hi]
  rfl
theorem Tok.cntS_next {L : List TokV} {i s : Nat} (hi : i < L.length) (hs : (splitE (L.getD i default)).1.sym = (s : Int)) : (cntS (L.take i)).set s ((cntS (L.take i)).getD s 0 + 1) = cntS (L.take (i + 1)) := by
  rw [take_next hi]
  exact cnt_set (p := isSym) fun q hq => by unfold isSym; rw [hs]; exact decide_eq_decide.2 ⟨fun h => by omega, fun h => by omega⟩
theorem Tok.cntF_next {L : List TokV} {i s : Nat} (hi : i < L.length) (h0 : (L.getD i default).len ≠ 0) (hs : (splitE (L.getD i default)).1.dist = (s : Int)) : (countsF (L.take i)).set s ((countsF (L.take i)).getD s 0 + 1) = countsF (L.take (i + 1)) := by
  rw [take_next hi]
  exact cnt_set (p := isFar) fun q hq => by unfold isFar; rw [hs]; exact decide_eq_decide.2 ⟨fun h => by omega, fun h => ⟨h0, by omega⟩⟩
theorem Tok.cntF_lit {L : List TokV} {i : Nat} (hi : i < L.length) (h0 : (L.getD i default).len = 0) : countsF (L.take (i + 1)) = countsF (L.take i) := by
  rw [take_next hi]
  exact cnt_same (p := isFar) fun q hq => decide_eq_false fun h => h.1 h0
theorem OwnU.new (w : World) (n : Nat) (hn : n ≤ 1000) : OwnU (w.alloc (.cells (madeCells #[.int .u32 0] n) 38)) w.heap.size (.slice (some ⟨w.heap.size, 0, none⟩) n n) (List.replicate n 0) := by
  unfold OwnU World.ownsRow
  refine ⟨by simp, .inr ⟨w.heap.size, n, madeCells #[.int .u32 0] n, by simp, Nat.le_refl _, heap_alloc_new w _, (by simp), by unfold maxLen; omega, by simp [size_madeCells], ?_⟩⟩
  have e : (madeCells #[Value.int .u32 0] n).toList = (List.replicate n (0 : Nat)).map u32V := by
    have : madeCells #[Value.int .u32 0] n = ((List.replicate n (0 : Nat)).map u32V).toArray := by
      apply Array.ext
      · simp [size_madeCells]
      · intro i h1 h2
        simp [madeCells, u32V, Nat.mod_one]
    rw [this]
  rw [e, List.take_of_length_le (by simp)]
theorem OwnU.base {w : World} {b b' : Nat} {v : Value} {L : List Nat} (h : OwnU w b v L) (hb : b' ≤ b) : OwnU w b' v L := by
  refine ⟨h.1, h.2.imp id ?_⟩
  rintro ⟨g, cap, cur, e, hg, r⟩
  exact ⟨g, cap, cur, e, by omega, r⟩
theorem OwnU.far {w : World} {base g b n c i : Nat} {u : Value} {L : List Nat} (h : OwnU w base (.slice (some ⟨g, 0, none⟩) n c) L) (hg : g ≠ b) : OwnU (w.setCell ⟨b, i, none⟩ u) base (.slice (some ⟨g, 0, none⟩) n c) L :=
  World.ownsRow.kept h (grown_setCell w b i u) (.inr fun e => hg (by simpa [Value.ownBlock] using e))
theorem Tok.split_form {t : TokV} (h : may t = true) : ∃ (s : Nat) (x c y : Int), splitE t = (⟨s, x, c, y⟩, 0) ∧ s < 265 ∧ (t.len ≠ 0 → 0 ≤ c ∧ c < 12) := by
  by_cases h0 : t.len = 0
  · have := UInt8.toNat_lt t.lit
    exact ⟨t.lit.toNat, 0, 0, 0, split_lit h h0, by omega, fun e => absurd h0 e⟩
  · obtain ⟨k, x, c, y, hk, hx, hc, hy, e1, e2, e3⟩ := split_match h h0
    exact ⟨257 + k, x, c, y, by rw [e3]; rfl, by omega, fun _ => ⟨by omega, by omega⟩⟩
theorem make_u32 (W : World) (n : Nat) (hn : n ≤ 1000) : (Instr.makeSlice 34 (.int .i64 (n : Int)) (.int .i64 (n : Int))).run Try.prog W = .ok (.slice (some ⟨W.heap.size, 0, none⟩) n n) (W.alloc (.cells (madeCells #[.int .u32 0] n) 38)) :=
  run_make_row' 34 38 (.int .u32 0) 4 Try.underlying34 u32_info rfl .i64 .i64 n (by omega) (by omega) W
def CountTo (w : World) (L : List TokV) (e : Ending) (w' : World) : Prop := Ext w w' ∧
  if L.all may then ∃ g1 g2 : Nat, g1 ≠ g2 ∧ e = .returned (.tuple #[.slice (some ⟨g1, 0, none⟩) 265 265, .slice (some ⟨g2, 0, none⟩) 12 12, .int .i64 0]) ∧ OwnU w' w.heap.size (.slice (some ⟨g1, 0, none⟩) 265 265) (countsS L) ∧ OwnU w' w.heap.size (.slice (some ⟨g2, 0, none⟩) 12 12) (countsF L)
  else e = .returned (.tuple #[.slice none 0 0, .slice none 0 0, .int .i64 7])
set_option maxHeartbeats 400000 in
set_option maxRecDepth 100000 in
theorem refCount_any (A : Option Addr) (n c : Nat) (L : List TokV) (w : World) (hn : n ≤ 100000) (hT : ToksAt w w.heap.size A n L) : Calls Try.prog 16 #[.slice A n c] w (CountTo w L) := by
  have M1 := fun W => make_u32 W 265 (by omega)
  have M2 := fun W => make_u32 W 12 (by omega)
  have N1 := hide (fun W => OwnU.new W 265 (by omega))
  have N2 := hide (fun W => OwnU.new W 12 (by omega))
  simp only [Int.cast_ofNat_Int] at M1 M2
  generalize madeCells #[Value.int .u32 0] 265 = Z1 at *
  generalize madeCells #[Value.int .u32 0] 12 = Z2 at *
  have P1 := hide (show OwnU ((w.alloc (.cells Z1 38)).alloc (.cells Z2 38)).drew w.heap.size (.slice (some ⟨w.heap.size, 0, none⟩) 265 265) (List.replicate 265 0) ∧ OwnU ((w.alloc (.cells Z1 38)).alloc (.cells Z2 38)).drew w.heap.size (.slice (some ⟨w.heap.size + 1, 0, none⟩) 12 12) (List.replicate 12 0) ∧ Ext w ((w.alloc (.cells Z1 38)).alloc (.cells Z2 38)).drew from by
    have a := N1.out w
    have b := N2.out (w.alloc (.cells Z1 38))
    rw [World.size_alloc] at b
    exact ⟨(a.ext (extNew _ _)).ext (Ext.refl _).drew, (b.base (by omega)).ext (Ext.refl _).drew, ((extNew w _).trans (extNew _ _)).drew⟩)
  have P2 := hide (show OwnU ((w.alloc (.cells Z2 38)).alloc (.cells Z1 38)).drew w.heap.size (.slice (some ⟨w.heap.size + 1, 0, none⟩) 265 265) (List.replicate 265 0) ∧ OwnU ((w.alloc (.cells Z2 38)).alloc (.cells Z1 38)).drew w.heap.size (.slice (some ⟨w.heap.size, 0, none⟩) 12 12) (List.replicate 12 0) ∧ Ext w ((w.alloc (.cells Z2 38)).alloc (.cells Z1 38)).drew from by
    have a := N2.out w
    have b := N1.out (w.alloc (.cells Z2 38))
    rw [World.size_alloc] at b
    exact ⟨(b.base (by omega)).ext (Ext.refl _).drew, (a.ext (extNew _ _)).ext (Ext.refl _).drew, ((extNew w _).trans (extNew _ _)).drew⟩)
  have HT := hide hT
  have hl := hT.1
  subst hl
  clear hT N1 N2
  go_enter Try.func16, Try.ntmps16
  go_upto_region 1 with fail
  go_cut [5, 6] (fun x y wx => ∃ g1 g2 : Nat, g1 ≠ g2 ∧ x = .slice (some ⟨g1, 0, none⟩) 265 265 ∧ y = .slice (some ⟨g2, 0, none⟩) 12 12 ∧ OwnU wx w.heap.size x (List.replicate 265 0) ∧ OwnU wx w.heap.size y (List.replicate 12 0) ∧ Ext w wx)
  case first =>
    go_region
    · go_wp2_with fail
      go_meet
      exact ⟨w.heap.size, w.heap.size + 1, by omega, rfl, rfl, P1.out⟩
    · go_wp2_with fail
      go_meet
      exact ⟨w.heap.size + 1, w.heap.size, by omega, rfl, rfl, P2.out⟩
  case rest =>
    clear M1 M2 P1 P2
    obtain ⟨g1, g2, hne, rfl, rfl, hO1, hO2, hE0⟩ := hcut
    have hw1 := (hO1.lt g1 rfl).1
    have hw2 := (hO2.lt g2 rfl).1
    rw [← cntS_nil] at hO1
    rw [← cntF_nil] at hO2
    go_wp2_with fail
    go_loopw [7] (fun x wr => ∃ i : Nat, i ≤ L.length ∧ x = .int .i64 (i : Int) ∧ (L.take i).all may = true ∧ OwnU wr w.heap.size (.slice (some ⟨g1, 0, none⟩) 265 265) (cntS (L.take i)) ∧ OwnU wr w.heap.size (.slice (some ⟨g2, 0, none⟩) 12 12) (countsF (L.take i)) ∧ Ext w wr) (fun x _ => L.length - (intOf x).toNat)
    case atStart => exact ⟨0, by omega, rfl, rfl, hO1, hO2, hE0⟩
    case round =>
      clear hO1 hO2 hE0
      obtain ⟨i, hi, rfl, hall, hO1, hO2, hE⟩ := hrel
      have HAll := hide hall
      clear hall
      by_cases hlt : i < L.length
      · have hiI : (i : Int) < (L.length : Int) := by omega
        have HNx := hide (take_next hlt)
        have hcl1 := fun s => cntS_le (L.take i) s
        have hcl2 := fun s => cntF_le (L.take i) s
        have hti : (L.take i).length ≤ L.length := by rw [List.length_take]; omega
        have HS1 := hide (fun s (hs : (splitE (L.getD i default)).1.sym = ((s : Nat) : Int)) => cntS_next hlt hs)
        have HS2 := hide (fun (h0 : (L.getD i default).len ≠ 0) s (hs : (splitE (L.getD i default)).1.dist = ((s : Nat) : Int)) => cntF_next hlt h0 hs)
        have HS3 := hide (fun (h0 : (L.getD i default).len = 0) => cntF_lit hlt h0)
        have hMem : L.getD i default ∈ L := by
          rw [List.getD_eq_getElem?_getD, List.getElem?_eq_getElem hlt]
          exact List.getElem_mem hlt
        have HMem := hide hMem
        have CM := fun W => refSplit_any (L.getD i default) W
        unfold tokV at CM
        have hToks := HT.out.below hE (Nat.le_refl _)
        rcases hToks.2 with h0 | ⟨b1, o1, rfl, hb1, hc⟩
        · omega
        obtain ⟨hAt, hOk⟩ := hc i hlt
        obtain ⟨c0, c1, c2⟩ := hAt.cells
        clear hc hToks hAt hMem
        obtain ⟨t, ht⟩ : ∃ t, t = L.getD i default := ⟨_, rfl⟩
        rw [← ht] at c0 c1 c2 hOk CM HS1 HS2 HS3 HMem HNx
        have HCell := hide (show ∀ W, Ext w W → W.cell? ⟨b1, o1 + i * 3 + 1, none⟩ = some (.int .i64 t.len) from fun W hW => by
          have := (HT.out.below hW (Nat.le_refl _)).2
          rcases this with h0 | ⟨b', o', e', _, hc'⟩
          · omega
          simp only [Option.some.injEq, Addr.mk.injEq, and_true] at e'
          obtain ⟨rfl, rfl⟩ := e'
          have := (hc' i hlt).1
          rw [← ht] at this
          exact this.2.1)
        clear ht
        have HLit := hide (show t.len = 0 → may t = true → splitE t = (⟨t.lit.toNat, 0, 0, 0⟩, 0) from fun a b => split_lit b a)
        go_wp2_with fail
        refine (CM wr).mono ?_
        rintro e w2 ⟨rfl, hE2⟩
        clear CM c0 c1 c2
        have hF2 := hE.trans hE2
        have hO1' := hO1.ext hE2
        have hO2' := hO2.ext hE2
        clear hO1 hO2 hE hE2
        cases hmay : may t with
        | false =>
          rw [split_bad hmay]
          have HM := hide hmay
          clear hmay
          unfold pcV
          dsimp only
          go_wp2
          go_ret3
          refine ⟨hF2.trans (extNew _ _), ?_⟩
          rw [if_neg (fun hA => by have := List.all_eq_true.1 hA t HMem.out; rw [HM.out] at this; exact Bool.noConfusion this)]
          rfl
        | true =>
          obtain ⟨sy, x, cd, y, hsp, hsy, hcd⟩ := split_form hmay
          rw [hsp] at HS1 HS2 ⊢
          have HNA := hide (show (L.take (i + 1)).all may = true by rw [HNx.out, List.all_append, HAll.out]; simp [hmay])
          have HMay := hide hmay
          have HS1' := hide (HS1.out sy rfl)
          unfold pcV
          dsimp only at HS2 ⊢
          have hEa := extNew w2 (.cells #[.int .i64 (sy : Int), .int .i64 x, .int .i64 cd, .int .i64 y] 25)
          have hO1a := hO1'.ext hEa
          have hO2a := hO2'.ext hEa
          obtain ⟨k1, k2⟩ := hO1a.cell (i := sy) (by rw [cntS_len]; exact hsy) (by rw [cntS_len])
          have hv1 := hcl1 sy
          have hS1 := hO1a.set sy ((cntS (L.take i)).getD sy 0 + 1) (by rw [cntS_len])
          rw [HS1'.out, show (((cntS (L.take i)).getD sy 0 + 1 : Nat) : Int) = (((cntS (L.take i)).getD sy 0 : Nat) : Int) + 1 from rfl] at hS1
          have HSet1 := hide hS1
          have hFa := hF2.trans hEa
          have HG := hide (hO1'.lt g1 rfl).2
          have hyI : (sy : Int) < 265 := by omega
          clear hS1 HS1 HS1' hO1a hO1' hO2' hsp hmay
          generalize (cntS (L.take i)).getD sy 0 = cv at *
          have hO2b := hO2a.far (b := g1) (i := sy) (u := .int .u32 ((cv : Int) + 1)) (Ne.symm hne)
          have hF3 := hFa.setCell (g := g1) (i := sy) hw1 (.int .u32 ((cv : Int) + 1))
          have d1 := HCell.out _ hF3
          have hcvI : (cv : Int) + 1 < 4294967296 := by omega
          by_cases h0 : t.len = 0
          · have HS3' := hide (HS3.out h0)
            rw [h0] at d1
            have HO2 := hide hO2b
            clear hO2a hO2b hcl1 hcl2 h0 HS2 HS3 HLit hcd HCell
            go_wp2
            go_roundw
            case rel => exact ⟨i + 1, by omega, by go_num, HNA.out, HSet1.out, by rw [HS3'.out]; exact HO2.out, hF3⟩
            case measure => simp [intOf]; omega
          · obtain ⟨hc0, hc1⟩ := hcd h0
            obtain ⟨cn, rfl⟩ := Int.eq_ofNat_of_zero_le hc0
            have hlp : 0 < t.len := by have := (may_facts HMay.out h0).2.1; omega
            have HS2' := hide (HS2.out h0 cn rfl)
            obtain ⟨k3, k4⟩ := hO2b.cell (i := cn) (by rw [countsF_len]; omega) (by rw [countsF_len])
            have hv2 := hcl2 cn
            have hS2 := hO2b.set cn ((countsF (L.take i)).getD cn 0 + 1) (by rw [countsF_len])
            rw [HS2'.out, show (((countsF (L.take i)).getD cn 0 + 1 : Nat) : Int) = (((countsF (L.take i)).getD cn 0 : Nat) : Int) + 1 from rfl] at hS2
            have HSet2 := hide hS2
            clear hO2a hO2b hcl1 hcl2 h0 HS2 HS3 HLit hcd HCell HS2' hS2
            generalize (countsF (L.take i)).getD cn 0 = cw at *
            have hcwI : (cw : Int) + 1 < 4294967296 := by omega
            have HSet3 := hide (HSet1.out.far (b := g2) (i := cn) (u := .int .u32 ((cw : Int) + 1)) hne)
            go_upto_region 9 with fail
            have hpc : (w2.alloc (.cells #[.int .i64 (sy : Int), .int .i64 x, .int .i64 (cn : Int), .int .i64 y] 25)).cell? ⟨w2.heap.size, 2, none⟩ = some (.int .i64 (cn : Int)) := (Whole.new w2 25 #[.int .i64 (sy : Int), .int .i64 x, .int .i64 (cn : Int), .int .i64 y]).at 2 rfl
            have hg1 : w2.heap.size ≠ g1 := by have := HG.out; omega
            have hp4 : ((w2.alloc (.cells #[.int .i64 (sy : Int), .int .i64 x, .int .i64 (cn : Int), .int .i64 y] 25)).setCell ⟨g1, sy, none⟩ (.int .u32 ((cv : Int) + 1))).cell? ⟨w2.heap.size, 2, none⟩ = some (.int .i64 (cn : Int)) := ((Whole.new w2 25 #[.int .i64 (sy : Int), .int .i64 x, .int .i64 (cn : Int), .int .i64 y]).far hg1 sy _).at 2 rfl
            clear hpc k1 k2 hg1 hc0 HG
            generalize (w2.alloc (.cells #[.int .i64 (sy : Int), .int .i64 x, .int .i64 (cn : Int), .int .i64 y] 25)).setCell ⟨g1, sy, none⟩ (.int .u32 ((cv : Int) + 1)) = W4 at *
            go_wp2
            go_roundw
            case rel => exact ⟨i + 1, by omega, by go_num, HNA.out, HSet3.out, HSet2.out, hF3.setCell hw2 _⟩
            case measure => simp [intOf]; omega
      · obtain rfl : L.length = i := by omega
        rw [List.take_length] at hO1 hO2 HAll
        obtain ⟨k1, k2⟩ := hO1.cell (i := 256) (by rw [cntS_len]; omega) (by rw [cntS_len])
        have hv1 := cntS_le L 256
        have hS1 := hO1.set 256 ((cntS L).getD 256 0 + 1) (by rw [cntS_len])
        rw [cntS_end] at hS1
        have HSet1 := hide hS1
        have HO2 := hide hO2
        clear hS1 hO1 hO2
        generalize (cntS L).getD 256 0 = cv at *
        have hcvI : (cv : Int) + 1 < 4294967296 := by omega
        go_wp2
        go_ret3
        refine ⟨hE.setCell hw1 _, ?_⟩
        rw [if_pos HAll.out]
        exact ⟨g1, g2, hne, rfl, HSet1.out, HO2.out.far (Ne.symm hne)⟩
end Go.Proofs.Ytaohdnhfodkeoaa

