/- Packages that are merged: why the lengths that they say cost least. Plain mathematics of chapter 7. The lengths that packages say: full, and none cost less. The document's lengths as a value, and what follows of them. Right lengths and their words, as values; no word begins another one. Plain mathematics of chapter 8. Small facts that all proofs of a seat use: later worlds, slices of bytes, what a cut of a slice is. Slices of bytes that a call has made itself, and what append makes of them. Bits of bytes, numbers of bits, runs of bits 0: plain mathematics. A block that is known whole. Worlds that differ in one block and one row at most; append and stores, told with where what they make lies. -/
import Derived.Test.YtjpmabdnaooglaaRows
import Derived.WalkKit
import Derived.WalkSpells
import Derived.WalkLawsBesides
import Derived.Maps.AppendAt
import Derived.Deep.MidRow
import Derived.Laws.Rows
namespace Go.Proofs.Ytjpmabdnaooglaa.Len

/-- The sum of n numbers. -/
def sumN : Nat → (Nat → Nat) → Nat
  | 0, _ => 0
  | n + 1, f => sumN n f + f n
theorem sumN_congr : ∀ {n : Nat} {f g : Nat → Nat}, (∀ i, i < n → f i = g i) → sumN n f = sumN n g
  | 0, _, _, _ => rfl
  | n + 1, f, g, h => by rw [sumN, sumN, sumN_congr (fun i hi => h i (by omega)), h n (by omega)]
theorem sumN_le : ∀ {n : Nat} {f g : Nat → Nat}, (∀ i, i < n → f i ≤ g i) → sumN n f ≤ sumN n g
  | 0, _, _, _ => Nat.le_refl _
  | n + 1, f, g, h => by
    rw [sumN, sumN]
    have := sumN_le (n := n) (f := f) (g := g) (fun i hi => h i (by omega))
    have := h n (by omega)
    omega
theorem sumN_add : ∀ (n : Nat) (f g : Nat → Nat), sumN n (fun i => f i + g i) = sumN n f + sumN n g
  | 0, _, _ => rfl
  | n + 1, f, g => by rw [sumN, sumN, sumN, sumN_add n f g]; omega
theorem sumN_mul (c : Nat) : ∀ (n : Nat) (f : Nat → Nat), sumN n (fun i => c * f i) = c * sumN n f
  | 0, _ => rfl
  | n + 1, f => by rw [sumN, sumN, sumN_mul c n f, Nat.mul_add]
theorem sumN_zero : ∀ (n : Nat) {f : Nat → Nat}, (∀ i, i < n → f i = 0) → sumN n f = 0
  | 0, _, _ => rfl
  | n + 1, f, h => by rw [sumN, sumN_zero n (fun i hi => h i (by omega)), h n (by omega)]
theorem sumN_const (c : Nat) : ∀ n : Nat, sumN n (fun _ => c) = n * c
  | 0 => by simp [sumN]
  | n + 1 => by rw [sumN, sumN_const c n, Nat.add_mul, Nat.one_mul]
/-- The first a of n. -/
theorem sumN_first (f : Nat → Nat) (a : Nat) : ∀ n : Nat, a ≤ n → sumN n (fun i => if i < a then f i else 0) = sumN a f
  | 0, h => by
    obtain rfl : a = 0 := by omega
    rfl
  | n + 1, h => by
    rw [sumN]
    by_cases e : a = n + 1
    · subst e
      rw [if_pos (by omega), sumN]
      congr 1
      exact sumN_congr fun i hi => if_pos (by omega)
    · rw [sumN_first f a n (by omega), if_neg (by omega), Nat.add_zero]
/-- How many there are. -/
def cntN (p : Nat → Bool) : Nat → Nat
  | 0 => 0
  | n + 1 => cntN p n + (if p n then 1 else 0)
theorem cntN_le (p : Nat → Bool) : ∀ n, cntN p n ≤ n
  | 0 => Nat.le_refl _
  | n + 1 => by
    rw [cntN]
    have := cntN_le p n
    split <;> omega
theorem sumN_mono {f : Nat → Nat} : ∀ {m n : Nat}, m ≤ n → sumN m f ≤ sumN n f
  | m, 0, h => by
    obtain rfl : m = 0 := by omega
    exact Nat.le_refl _
  | m, n + 1, h => by
    by_cases e : m = n + 1
    · rw [e]; exact Nat.le_refl _
    · have := sumN_mono (f := f) (m := m) (n := n) (by omega)
      rw [sumN]
      omega
/-- Of sorted weights none as many are less than the first ones. -/
theorem firsts_le {w : Nat → Nat} (p : Nat → Bool) : ∀ n : Nat, (∀ i j, i ≤ j → j < n → w i ≤ w j) → sumN (cntN p n) w ≤ sumN n fun i => if p i then w i else 0
  | 0, _ => Nat.le_refl _
  | n + 1, hs => by
    have IH := firsts_le p n fun i j hij hj => hs i j hij (by omega)
    rw [cntN, sumN]
    by_cases h : p n = true
    · rw [if_pos h, if_pos h, sumN]
      have := hs (cntN p n) n (cntN_le p n) (by omega)
      omega
    · rw [if_neg h, if_neg h]
      omega

/-- An item of a row: its weight, its symbols. -/
abbrev Item := Nat × List Nat
def wts (l : List Item) : Nat := (l.map Prod.fst).sum
def syms (l : List Item) : List Nat := l.flatMap Prod.snd
def Sorted (l : List Item) : Prop := l.Pairwise fun a b => a.1 ≤ b.1
def pairsOf : List Item → List Item
  | a :: b :: r => (a.1 + b.1, a.2 ++ b.2) :: pairsOf r
  | _ => []
def mergeI : List Item → List Item → List Item
  | [], ps => ps
  | ls, [] => ls
  | a :: ls, b :: ps => if a.1 ≤ b.1 then a :: mergeI ls (b :: ps) else b :: mergeI (a :: ls) ps
termination_by ls ps => ls.length + ps.length
theorem mergeI_nil (l : List Item) : mergeI l [] = l := by
  cases l <;> simp [mergeI]
theorem nil_mergeI (l : List Item) : mergeI [] l = l := by simp [mergeI]
theorem mergeI_cons (a b : Item) (ls ps : List Item) : mergeI (a :: ls) (b :: ps) = if a.1 ≤ b.1 then a :: mergeI ls (b :: ps) else b :: mergeI (a :: ls) ps := by rw [mergeI]
theorem mergeI_len : ∀ (ls ps : List Item), (mergeI ls ps).length = ls.length + ps.length
  | [], ps => by rw [nil_mergeI]; simp
  | a :: ls, [] => by rw [mergeI_nil]; simp
  | a :: ls, b :: ps => by
    rw [mergeI_cons]
    split
    · rw [List.length_cons, mergeI_len ls (b :: ps)]; simp; omega
    · rw [List.length_cons, mergeI_len (a :: ls) ps]; simp; omega
termination_by ls ps => ls.length + ps.length
theorem pairsOf_len : ∀ l : List Item, (pairsOf l).length = l.length / 2
  | [] => rfl
  | [_] => by simp [pairsOf]
  | a :: b :: r => by rw [pairsOf, List.length_cons, pairsOf_len r]; simp; omega
theorem wts_nil : wts [] = 0 := rfl
theorem wts_cons (a : Item) (l : List Item) : wts (a :: l) = a.1 + wts l := by simp [wts]
theorem wts_append (a b : List Item) : wts (a ++ b) = wts a + wts b := by simp [wts]
theorem syms_cons (a : Item) (l : List Item) : syms (a :: l) = a.2 ++ syms l := by simp [syms]
/-- The first of a merged row: the first of both. -/
theorem merge_take : ∀ (ls ps : List Item) (m : Nat), m ≤ ls.length + ps.length → ∃ a, a ≤ m ∧ a ≤ ls.length ∧ m - a ≤ ps.length ∧ wts ((mergeI ls ps).take m) = wts (ls.take a) + wts (ps.take (m - a)) ∧
    ∀ s, (syms ((mergeI ls ps).take m)).count s = (syms (ls.take a)).count s + (syms (ps.take (m - a))).count s
  | ls, ps, 0, _ => ⟨0, by omega, by omega, by omega, by simp [wts], fun s => by simp [syms]⟩
  | [], ps, m + 1, h => ⟨0, by omega, by omega, by simpa using h, by rw [nil_mergeI]; simp [wts], fun s => by rw [nil_mergeI]; simp [syms]⟩
  | a :: ls, [], m + 1, h => ⟨m + 1, by omega, by simpa using h, by omega, by rw [mergeI_nil]; simp [wts], fun s => by rw [mergeI_nil]; simp [syms]⟩
  | a :: ls, b :: ps, m + 1, h => by
    rw [mergeI_cons]
    by_cases hab : a.1 ≤ b.1
    · rw [if_pos hab]
      obtain ⟨k, h1, h2, h3, h4, h5⟩ := merge_take ls (b :: ps) m (by simp at h ⊢; omega)
      refine ⟨k + 1, by omega, by simpa using h2, by rw [show m + 1 - (k + 1) = m - k by omega]; exact h3, ?_, fun s => ?_⟩
      · rw [List.take_succ_cons, List.take_succ_cons, wts_cons, wts_cons, h4, show m + 1 - (k + 1) = m - k by omega]
        omega
      · rw [List.take_succ_cons, List.take_succ_cons, syms_cons, syms_cons, List.count_append, List.count_append, h5 s, show m + 1 - (k + 1) = m - k by omega]
        omega
    · rw [if_neg hab]
      obtain ⟨k, h1, h2, h3, h4, h5⟩ := merge_take (a :: ls) ps m (by simp at h ⊢; omega)
      refine ⟨k, by omega, h2, by simp; omega, ?_, fun s => ?_⟩
      · rw [show m + 1 - k = (m - k) + 1 by omega, List.take_succ_cons, List.take_succ_cons, wts_cons, wts_cons, h4]
        omega
      · rw [show m + 1 - k = (m - k) + 1 by omega, List.take_succ_cons, List.take_succ_cons, syms_cons, syms_cons, List.count_append, List.count_append, h5 s]
        omega
termination_by ls ps => ls.length + ps.length
theorem wts_take_le (a : Item) (l : List Item) (h : ∀ x ∈ l, a.1 ≤ x.1) : ∀ {m : Nat}, m + 1 ≤ l.length → a.1 + wts (l.take m) ≤ wts (l.take (m + 1)) := by
  intro m hm
  have e : l.take (m + 1) = l.take m ++ [l[m]'(by omega)] := by rw [List.take_add_one, List.getElem?_eq_getElem (by omega)]; rfl
  rw [e, wts_append, wts_cons, wts_nil]
  have := h (l[m]'(by omega)) (List.getElem_mem _)
  omega
theorem wts_take_mono (l : List Item) : ∀ {m n : Nat}, m ≤ n → wts (l.take m) ≤ wts (l.take n) := by
  intro m n h
  induction l generalizing m n with
  | nil => simp [wts]
  | cons a l ih =>
    cases m with
    | zero => simp [wts]
    | succ m =>
      cases n with
      | zero => omega
      | succ n =>
        rw [List.take_succ_cons, List.take_succ_cons, wts_cons, wts_cons]
        have := ih (m := m) (n := n) (by omega)
        omega
/-- No c of the one with m - c of the other weigh less than the first m of the merged row. -/
theorem merge_least : ∀ (ls ps : List Item) (m c : Nat), Sorted ls → Sorted ps → c ≤ m → c ≤ ls.length → m - c ≤ ps.length → wts ((mergeI ls ps).take m) ≤ wts (ls.take c) + wts (ps.take (m - c))
  | ls, ps, 0, _, _, _, _, _, _ => by simp [wts]
  | [], ps, m + 1, c, _, _, h1, h2, _ => by
    obtain rfl : c = 0 := by simpa using h2
    rw [nil_mergeI]
    simp [wts]
  | a :: ls, [], m + 1, c, _, _, h1, h2, h3 => by
    obtain rfl : c = m + 1 := by simp at h3; omega
    rw [mergeI_nil]
    simp [wts]
  | a :: ls, b :: ps, m + 1, c, hl, hp, h1, h2, h3 => by
    have hl1 := (List.pairwise_cons.1 hl).1
    have hl2 := (List.pairwise_cons.1 hl).2
    have hp1 := (List.pairwise_cons.1 hp).1
    have hp2 := (List.pairwise_cons.1 hp).2
    rw [mergeI_cons]
    simp only [List.length_cons] at h2 h3
    by_cases hab : a.1 ≤ b.1
    · rw [if_pos hab, List.take_succ_cons, wts_cons]
      cases c with
      | succ c =>
        have IH := merge_least ls (b :: ps) m c hl2 hp (by omega) (by omega) (by simp; omega)
        rw [List.take_succ_cons, wts_cons, show m + 1 - (c + 1) = m - c by omega]
        omega
      | zero =>
        have IH := merge_least ls (b :: ps) m 0 hl2 hp (by omega) (by omega) (by simp; omega)
        have h4 : a.1 + wts ((b :: ps).take m) ≤ wts ((b :: ps).take (m + 1)) := wts_take_le a (b :: ps) (fun x hx => by
          rcases List.mem_cons.1 hx with e | e
          · rw [e]; exact hab
          · have := hp1 x e; omega) (by simp; omega)
        rw [List.take_zero] at IH ⊢
        rw [Nat.sub_zero] at IH ⊢
        rw [wts_nil] at IH ⊢
        omega
    · rw [if_neg hab, List.take_succ_cons, wts_cons]
      by_cases hc : c = m + 1
      · subst hc
        have IH := merge_least (a :: ls) ps m m hl hp2 (by omega) (by simp; omega) (by omega)
        have h4 : b.1 + wts ((a :: ls).take m) ≤ wts ((a :: ls).take (m + 1)) := wts_take_le b (a :: ls) (fun x hx => by
          rcases List.mem_cons.1 hx with e | e
          · rw [e]; omega
          · have := hl1 x e; omega) (by simp; omega)
        rw [Nat.sub_self, List.take_zero, wts_nil] at IH ⊢
        omega
      · have IH := merge_least (a :: ls) ps m c hl hp2 (by omega) (by simp; omega) (by omega)
        rw [show m + 1 - c = (m - c) + 1 by omega, List.take_succ_cons, wts_cons]
        omega
termination_by ls ps => ls.length + ps.length
theorem merge_mem {ls ps : List Item} {x : Item} : x ∈ mergeI ls ps → x ∈ ls ∨ x ∈ ps := by
  match ls, ps with
  | [], ps => rw [nil_mergeI]; exact .inr
  | a :: ls, [] => rw [mergeI_nil]; exact .inl
  | a :: ls, b :: ps =>
    rw [mergeI_cons]
    split
    · intro h
      rcases List.mem_cons.1 h with e | e
      · exact .inl (by rw [e]; exact List.mem_cons_self)
      · rcases merge_mem e with h | h
        · exact .inl (List.mem_cons_of_mem _ h)
        · exact .inr h
    · intro h
      rcases List.mem_cons.1 h with e | e
      · exact .inr (by rw [e]; exact List.mem_cons_self)
      · rcases merge_mem e with h | h
        · exact .inl h
        · exact .inr (List.mem_cons_of_mem _ h)
termination_by ls.length + ps.length
theorem merge_sorted : ∀ {ls ps : List Item}, Sorted ls → Sorted ps → Sorted (mergeI ls ps)
  | [], ps, _, h => by rw [nil_mergeI]; exact h
  | a :: ls, [], h, _ => by rw [mergeI_nil]; exact h
  | a :: ls, b :: ps, hl, hp => by
    have hl1 := (List.pairwise_cons.1 hl).1
    have hp1 := (List.pairwise_cons.1 hp).1
    rw [mergeI_cons]
    by_cases hab : a.1 ≤ b.1
    · rw [if_pos hab]
      refine List.pairwise_cons.2 ⟨fun x hx => ?_, merge_sorted (List.pairwise_cons.1 hl).2 hp⟩
      rcases merge_mem hx with h | h
      · exact hl1 x h
      · rcases List.mem_cons.1 h with e | e
        · rw [e]; exact hab
        · have := hp1 x e; omega
    · rw [if_neg hab]
      refine List.pairwise_cons.2 ⟨fun x hx => ?_, merge_sorted hl (List.pairwise_cons.1 hp).2⟩
      rcases merge_mem hx with h | h
      · rcases List.mem_cons.1 h with e | e
        · rw [e]; omega
        · have := hl1 x e; omega
      · exact hp1 x h
termination_by ls ps => ls.length + ps.length
theorem pairs_ge : ∀ {l : List Item} {c : Nat}, (∀ x ∈ l, c ≤ x.1) → ∀ x ∈ pairsOf l, 2 * c ≤ x.1
  | [], _, _, x, h => by simp [pairsOf] at h
  | [_], _, _, x, h => by simp [pairsOf] at h
  | a :: b :: r, c, hl, x, h => by
    rw [pairsOf] at h
    rcases List.mem_cons.1 h with e | e
    · rw [e]
      have := hl a (by simp)
      have := hl b (by simp)
      simp only
      omega
    · exact pairs_ge (fun y hy => hl y (by simp [hy])) x e
theorem pairs_sorted : ∀ {l : List Item}, Sorted l → Sorted (pairsOf l)
  | [], _ => by simp [pairsOf, Sorted]
  | [_], _ => by simp [pairsOf, Sorted]
  | a :: b :: r, h => by
    have h1 := List.pairwise_cons.1 h
    have h2 := List.pairwise_cons.1 h1.2
    rw [pairsOf]
    refine List.pairwise_cons.2 ⟨fun x hx => ?_, pairs_sorted h2.2⟩
    have := pairs_ge (c := b.1) (fun y hy => h2.1 y hy) x hx
    have := h1.1 b (by simp)
    simp only
    omega
theorem pairs_take : ∀ (l : List Item) (k : Nat), 2 * k ≤ l.length → wts ((pairsOf l).take k) = wts (l.take (2 * k)) ∧ ∀ s, (syms ((pairsOf l).take k)).count s = (syms (l.take (2 * k))).count s
  | _, 0, _ => by simp [wts, syms]
  | [], k + 1, h => by simp at h
  | [_], k + 1, h => by simp at h; omega
  | a :: b :: r, k + 1, h => by
    obtain ⟨i1, i2⟩ := pairs_take r k (by simp at h; omega)
    rw [pairsOf, List.take_succ_cons, show 2 * (k + 1) = 2 * k + 1 + 1 by omega, List.take_succ_cons, List.take_succ_cons]
    refine ⟨?_, fun s => ?_⟩
    · rw [wts_cons, wts_cons, wts_cons, i1]
      simp only
      omega
    · rw [syms_cons, syms_cons, syms_cons, List.count_append, List.count_append, List.count_append, i2 s]
      simp only [List.count_append]
      omega

/-- The leaves: of each place its weight and its symbol. -/
def leaves (n : Nat) (w s : Nat → Nat) : List Item := (List.range n).map fun i => (w i, [s i])
/-- The rows, from the leaves on. -/
def row (lv : List Item) : Nat → List Item
  | 0 => lv
  | r + 1 => mergeI lv (pairsOf (row lv r))
section
variable {n : Nat} {w s : Nat → Nat}
theorem leaves_len : (leaves n w s).length = n := by simp [leaves]
theorem leaves_succ : leaves (n + 1) w s = leaves n w s ++ [(w n, [s n])] := by simp [leaves, List.range_succ]
theorem leaves_take {a : Nat} (h : a ≤ n) : (leaves n w s).take a = leaves a w s := by
  unfold leaves
  rw [← List.map_take, List.take_range, Nat.min_eq_left h]
theorem leaves_wts : ∀ n, wts (leaves n w s) = sumN n w
  | 0 => rfl
  | n + 1 => by rw [leaves_succ, sumN, ← leaves_wts n]; simp [wts]
theorem leaves_count (hs : ∀ i j, i < n → j < n → s i = s j → i = j) {i : Nat} (hi : i < n) : ∀ a, a ≤ n → (syms (leaves a w s)).count (s i) = if i < a then 1 else 0
  | 0, _ => by simp [leaves, syms]
  | a + 1, h => by
    have IH := leaves_count hs hi a (by omega)
    have e : syms (leaves (a + 1) w s) = syms (leaves a w s) ++ [s a] := by rw [leaves_succ]; simp [syms]
    rw [e, List.count_append, IH]
    by_cases hia : i = a
    · subst hia
      simp
    · have hne : s a ≠ s i := fun h2 => hia (hs a i (by omega) hi h2).symm
      have hb : (s a == s i) = false := beq_eq_false_iff_ne.2 hne
      rw [List.count_singleton, hb, if_neg Bool.false_ne_true, Nat.add_zero]
      by_cases h3 : i < a
      · rw [if_pos h3, if_pos (by omega)]
      · rw [if_neg h3, if_neg (by omega)]
theorem leaves_other {x : Nat} : ∀ {a : Nat}, (∀ i, i < a → s i ≠ x) → (syms (leaves a w s)).count x = 0
  | 0, _ => by simp [leaves, syms]
  | a + 1, h => by
    have e : syms (leaves (a + 1) w s) = syms (leaves a w s) ++ [s a] := by rw [leaves_succ]; simp [syms]
    rw [e, List.count_append, leaves_other (fun i hi => h i (by omega)), List.count_singleton, beq_eq_false_iff_ne.2 (h a (by omega)), if_neg Bool.false_ne_true]
theorem leaves_sorted (hw : ∀ i j, i ≤ j → j < n → w i ≤ w j) : Sorted (leaves n w s) := by
  unfold leaves Sorted
  rw [List.pairwise_map]
  exact (List.pairwise_lt_range (n := n)).imp_of_mem fun {a b} ha hb h => hw a b (Nat.le_of_lt h) (List.mem_range.1 hb)
theorem row_sorted {lv : List Item} (h : Sorted lv) : ∀ r, Sorted (row lv r)
  | 0 => h
  | r + 1 => merge_sorted h (pairs_sorted (row_sorted h r))
theorem row_len (lv : List Item) (r : Nat) : (row lv (r + 1)).length = lv.length + (row lv r).length / 2 := by rw [row, mergeI_len, pairsOf_len]
/-- What the first m items of a row say: how often each place's symbol stands there. -/
theorem row_says (hs : ∀ i j, i < n → j < n → s i = s j → i = j) : ∀ (r m : Nat), m ≤ (row (leaves n w s) r).length →
    ∃ c wd : Nat → Nat, (∀ i, i < n → (syms ((row (leaves n w s) r).take m)).count (s i) = c i) ∧ (∀ x, (∀ i, i < n → s i ≠ x) → (syms ((row (leaves n w s) r).take m)).count x = 0) ∧
      (∀ i, i < n → c i ≤ r + 1 ∧ wd i + 2 ^ (r + 1 - c i) ≤ 2 ^ (r + 1)) ∧ (∀ i j, i ≤ j → j < n → c j ≤ c i) ∧ sumN n wd = m * 2 ^ r ∧ wts ((row (leaves n w s) r).take m) = sumN n fun i => w i * c i
  | 0, m, h => by
    have hmn : m ≤ n := by rw [row, leaves_len] at h; exact h
    refine ⟨fun i => if i < m then 1 else 0, fun i => if i < m then 1 else 0, fun i hi => ?_, fun x hx => ?_, fun i _ => ?_, fun i j hij _ => ?_, ?_, ?_⟩
    · rw [row, leaves_take hmn, leaves_count hs hi m hmn]
    · rw [row, leaves_take hmn]
      exact leaves_other fun i hi => hx i (by omega)
    · dsimp only
      by_cases e : i < m
      · rw [if_pos e]; simp
      · rw [if_neg e]; simp
    · dsimp only
      by_cases e : j < m
      · rw [if_pos e, if_pos (by omega)]; exact Nat.le_refl _
      · rw [if_neg e]; omega
    · rw [sumN_first (fun _ => 1) m n hmn, sumN_const, Nat.pow_zero]
    · rw [row, leaves_take hmn, leaves_wts]
      rw [← sumN_first w m n hmn]
      refine sumN_congr fun i _ => ?_
      dsimp only
      by_cases e : i < m
      · rw [if_pos e, if_pos e, Nat.mul_one]
      · rw [if_neg e, if_neg e, Nat.mul_zero]
  | r + 1, m, h => by
    rw [row_len, leaves_len] at h
    obtain ⟨a, a1, a2, a3, a4, a5⟩ := merge_take (leaves n w s) (pairsOf (row (leaves n w s) r)) m (by rw [leaves_len, pairsOf_len]; exact h)
    rw [leaves_len] at a2
    rw [pairsOf_len] at a3
    obtain ⟨c, wd, h1, h2, h3, h4, h5, h6⟩ := row_says hs r (2 * (m - a)) (by omega)
    obtain ⟨p1, p2⟩ := pairs_take (row (leaves n w s) r) (m - a) (by omega)
    refine ⟨fun i => (if i < a then 1 else 0) + c i, fun i => (if i < a then 2 ^ (r + 1) else 0) + wd i, fun i hi => ?_, fun x hx => ?_, fun i hi => ?_, fun i j hij hj => ?_, ?_, ?_⟩
    · rw [row, a5 (s i), leaves_take a2, leaves_count hs hi a a2, p2 (s i), h1 i hi]
    · rw [row, a5 x, leaves_take a2, leaves_other (fun i hi => hx i (by omega)), p2 x, h2 x hx]
    · dsimp only
      obtain ⟨k1, k2⟩ := h3 i hi
      have e2 : 2 ^ (r + 1 + 1) = 2 * 2 ^ (r + 1) := by rw [Nat.pow_succ, Nat.mul_comm]
      by_cases e : i < a
      · rw [if_pos e, if_pos e, show r + 1 + 1 - (1 + c i) = r + 1 - c i by omega, e2]
        exact ⟨by omega, by omega⟩
      · rw [if_neg e, if_neg e, Nat.zero_add, Nat.zero_add, show r + 1 + 1 - c i = (r + 1 - c i) + 1 by omega, Nat.pow_succ, e2]
        have : 2 ^ (r + 1 - c i) ≤ 2 ^ (r + 1) := Nat.pow_le_pow_right (by omega) (by omega)
        exact ⟨by omega, by omega⟩
    · dsimp only
      have := h4 i j hij hj
      by_cases e : j < a
      · rw [if_pos e, if_pos (by omega)]; omega
      · rw [if_neg e]; split <;> omega
    · rw [sumN_add, sumN_first (fun _ => 2 ^ (r + 1)) a n a2, sumN_const, h5, Nat.pow_succ, Nat.mul_comm 2 (m - a), Nat.mul_assoc, ← Nat.mul_comm (2 ^ r) 2, ← Nat.add_mul]
      rw [show a + (m - a) = m by omega]
    · rw [row, a4, leaves_take a2, leaves_wts, p1, h6, ← sumN_first w a n a2, ← sumN_add]
      refine sumN_congr fun i _ => ?_
      dsimp only
      by_cases e : i < a
      · rw [if_pos e, if_pos e, Nat.mul_add, Nat.mul_one]
      · rw [if_neg e, if_neg e, Nat.mul_add, Nat.mul_zero]
/-- No lengths whose width is enough cost less than the first m items of a row weigh. -/
theorem row_least (hw : ∀ i j, i ≤ j → j < n → w i ≤ w j) : ∀ (r m : Nat) (l : Nat → Nat), (∀ i, i < n → l i ≤ r + 1) → m * 2 ^ r ≤ sumN n (fun i => 2 ^ (r + 1) - 2 ^ (r + 1 - l i)) →
    m ≤ (row (leaves n w s) r).length ∧ wts ((row (leaves n w s) r).take m) ≤ sumN n fun i => w i * l i
  | 0, m, l, hl, h => by
    have e : sumN n (fun i => 2 ^ (0 + 1) - 2 ^ (0 + 1 - l i)) = cntN (fun i => decide (0 < l i)) n := by
      clear h hw
      induction n with
      | zero => rfl
      | succ n ih =>
        rw [sumN, cntN, ih fun i hi => hl i (by omega)]
        have := hl n (by omega)
        rcases Nat.eq_zero_or_pos (l n) with h0 | h0
        · rw [h0]; simp
        · have h1 : l n = 1 := by omega
          rw [h1]; simp
    rw [e, Nat.pow_zero, Nat.mul_one] at h
    have hcn := cntN_le (fun i => decide (0 < l i)) n
    refine ⟨by rw [row, leaves_len]; omega, ?_⟩
    rw [row, leaves_take (by omega), leaves_wts]
    refine Nat.le_trans (sumN_mono h) (Nat.le_trans (firsts_le _ n hw) (sumN_le fun i _ => ?_))
    by_cases h0 : 0 < l i
    · rw [if_pos (by simpa using h0)]
      exact Nat.le_mul_of_pos_right _ h0
    · rw [if_neg (by simpa using h0)]
      omega
  | r + 1, m, l, hl, h => by
    have hP : 0 < 2 ^ (r + 1) := Nat.pow_pos (by omega)
    have e : sumN n (fun i => 2 ^ (r + 1 + 1) - 2 ^ (r + 1 + 1 - l i)) = cntN (fun i => decide (0 < l i)) n * 2 ^ (r + 1) + sumN n (fun i => 2 ^ (r + 1) - 2 ^ (r + 1 - (l i - 1))) := by
      clear h hw
      induction n with
      | zero => rw [sumN, sumN, cntN]; omega
      | succ n ih =>
        rw [sumN, sumN, cntN, ih fun i hi => hl i (by omega), Nat.add_mul]
        have := hl n (by omega)
        have e2 : 2 ^ (r + 1 + 1) = 2 ^ (r + 1) + 2 ^ (r + 1) := by rw [Nat.pow_succ]; omega
        rcases Nat.eq_zero_or_pos (l n) with h0 | h0
        · rw [h0]
          simp
        · rw [if_pos (by simpa using h0), show r + 1 + 1 - l n = r + 1 - (l n - 1) by omega, Nat.one_mul, e2]
          have : 2 ^ (r + 1 - (l n - 1)) ≤ 2 ^ (r + 1) := Nat.pow_le_pow_right (by omega) (by omega)
          omega
    rw [e] at h
    have hcn := cntN_le (fun i => decide (0 < l i)) n
    have hcost : sumN n (fun i => w i * l i) = sumN n (fun i => if decide (0 < l i) then w i else 0) + sumN n fun i => w i * (l i - 1) := by
      rw [← sumN_add]
      refine sumN_congr fun i _ => ?_
      rcases Nat.eq_zero_or_pos (l i) with h0 | h0
      · rw [h0]; simp
      · rw [if_pos (by simpa using h0)]
        have : l i = (l i - 1) + 1 := by omega
        rw [show w i * l i = w i * ((l i - 1) + 1) by rw [← this], Nat.mul_add, Nat.mul_one]
        omega
    have hfl := firsts_le (w := w) (fun i => decide (0 < l i)) n hw
    have hls := leaves_sorted (s := s) hw
    have hps := pairs_sorted (row_sorted hls r)
    generalize cntN (fun i => decide (0 < l i)) n = c at *
    rw [row_len, leaves_len]
    by_cases hmc : m ≤ c
    · refine ⟨by omega, ?_⟩
      have := merge_least (leaves n w s) (pairsOf (row (leaves n w s) r)) m m hls hps (Nat.le_refl _) (by rw [leaves_len]; omega) (by omega)
      rw [Nat.sub_self, List.take_zero, wts_nil, leaves_take (by omega), leaves_wts] at this
      have := sumN_mono (f := w) hmc
      rw [row]
      omega
    · have hm2 : (m - c) * 2 ^ (r + 1) = m * 2 ^ (r + 1) - c * 2 ^ (r + 1) := Nat.sub_mul _ _ _
      have IH := row_least hw r (2 * (m - c)) (fun i => l i - 1) (fun i hi => by have := hl i hi; omega) (by
        rw [Nat.mul_comm 2 (m - c), Nat.mul_assoc, Nat.mul_comm 2 (2 ^ r), ← Nat.pow_succ, Nat.succ_eq_add_one, hm2]
        omega)
      obtain ⟨i1, i2⟩ := IH
      refine ⟨by omega, ?_⟩
      have h1 := merge_least (leaves n w s) (pairsOf (row (leaves n w s) r)) m c hls hps (by omega) (by rw [leaves_len]; exact hcn) (by rw [pairsOf_len]; omega)
      rw [leaves_take hcn, leaves_wts, (pairs_take (row (leaves n w s) r) (m - c) (by omega)).1] at h1
      rw [row]
      omega
end
end Go.Proofs.Ytjpmabdnaooglaa.Len

namespace Go.Proofs.Ytjpmabdnaooglaa.Len

theorem sumN_shift : ∀ (n : Nat) (f : Nat → Nat), sumN (n + 1) f = f 0 + sumN n fun i => f (i + 1)
  | 0, f => by simp [sumN]
  | n + 1, f => by
    rw [sumN, sumN_shift n f, sumN]
    omega
theorem sumN_sub {c : Nat} : ∀ (n : Nat) {g : Nat → Nat}, (∀ i, i < n → g i ≤ c) → sumN n (fun i => c - g i) + sumN n g = n * c
  | 0, _, _ => by simp [sumN]
  | n + 1, g, h => by
    rw [sumN, sumN, Nat.add_mul, Nat.one_mul]
    have := sumN_sub (c := c) n (g := g) fun i hi => h i (by omega)
    have := h n (by omega)
    omega
theorem pow_le_of {a b : Nat} (h : a ≤ b) : 2 ^ a ≤ 2 ^ b := Nat.pow_le_pow_right (by omega) h
section
variable {n r : Nat} {w s l : Nat → Nat}
/-- Lengths whose weight isn't too much have width enough. -/
theorem wide (hK : sumN n (fun i => 2 ^ (r + 1 - l i)) ≤ 2 ^ (r + 1)) : (2 * n - 2) * 2 ^ r ≤ sumN n fun i => 2 ^ (r + 1) - 2 ^ (r + 1 - l i) := by
  have h1 := sumN_sub (c := 2 ^ (r + 1)) n (g := fun i => 2 ^ (r + 1 - l i)) fun i _ => pow_le_of (by omega)
  have e : (2 * n - 2) * 2 ^ r = n * 2 ^ (r + 1) - 2 ^ (r + 1) := by
    rw [Nat.pow_succ, Nat.sub_mul]
    have : 2 * n * 2 ^ r = n * (2 ^ r * 2) := by rw [Nat.mul_comm 2 n, Nat.mul_assoc, Nat.mul_comm 2]
    omega
  omega
/-- How often the i-th symbol stands in the items that count. -/
def says (n : Nat) (w s : Nat → Nat) (r i : Nat) : Nat := (syms ((row (leaves n w s) r).take (2 * n - 2))).count (s i)
/-- What the lengths are like. -/
structure Fine (n r : Nat) (w s : Nat → Nat) : Prop where
  enough : 2 * n - 2 ≤ (row (leaves n w s) r).length
  pos : ∀ i, i < n → 1 ≤ says n w s r i
  top : ∀ i, i < n → says n w s r i ≤ r + 1
  anti : ∀ i j, i ≤ j → j < n → says n w s r j ≤ says n w s r i
  full : sumN n (fun i => 2 ^ (r + 1 - says n w s r i)) = 2 ^ (r + 1)
  none : ∀ x, (∀ i, i < n → s i ≠ x) → (syms ((row (leaves n w s) r).take (2 * n - 2))).count x = 0
  best : ∀ l : Nat → Nat, (∀ i, i < n → l i ≤ r + 1) → sumN n (fun i => 2 ^ (r + 1 - l i)) ≤ 2 ^ (r + 1) → sumN n (fun i => w i * says n w s r i) ≤ sumN n fun i => w i * l i
theorem fine (hn : 2 ≤ n) (hnr : n ≤ 2 ^ (r + 1)) (hw : ∀ i j, i ≤ j → j < n → w i ≤ w j) (hw0 : 1 ≤ w 0) (hs : ∀ i j, i < n → j < n → s i = s j → i = j) : Fine n r w s := by
  have h0 := row_least (s := s) hw r (2 * n - 2) (fun _ => r + 1) (fun _ _ => Nat.le_refl _) (wide (by
    rw [sumN_congr (g := fun _ => 1) (fun i _ => by rw [Nat.sub_self, Nat.pow_zero]), sumN_const]
    omega))
  obtain ⟨c, wd, h1, h2, h3, h4, h5, h6⟩ := row_says (w := w) hs r (2 * n - 2) h0.1
  have hP : 0 < 2 ^ (r + 1) := Nat.pow_pos (by omega)
  have hbest : ∀ l : Nat → Nat, (∀ i, i < n → l i ≤ r + 1) → sumN n (fun i => 2 ^ (r + 1 - l i)) ≤ 2 ^ (r + 1) → sumN n (fun i => w i * c i) ≤ sumN n fun i => w i * l i := fun l hl hK => by
    rw [← h6]
    exact (row_least hw r (2 * n - 2) l hl (wide hK)).2
  -- the weight isn't too much
  have hle : sumN n (fun i => 2 ^ (r + 1 - c i)) ≤ 2 ^ (r + 1) := by
    have k1 : sumN n (fun i => wd i + 2 ^ (r + 1 - c i)) ≤ sumN n fun _ => 2 ^ (r + 1) := sumN_le fun i hi => (h3 i hi).2
    rw [sumN_add, h5, sumN_const] at k1
    have e : (2 * n - 2) * 2 ^ r = n * 2 ^ (r + 1) - 2 ^ (r + 1) := by
      rw [Nat.pow_succ, Nat.sub_mul]
      have : 2 * n * 2 ^ r = n * (2 ^ r * 2) := by rw [Nat.mul_comm 2 n, Nat.mul_assoc, Nat.mul_comm 2]
      omega
    have : 1 * 2 ^ (r + 1) ≤ n * 2 ^ (r + 1) := Nat.mul_le_mul_right _ (by omega)
    omega
  obtain ⟨k, rfl⟩ : ∃ k, n = k + 2 := ⟨n - 2, by omega⟩
  have hlast : 1 ≤ c (k + 1) := by
    rcases Nat.eq_zero_or_pos (c (k + 1)) with e | e
    · rw [sumN, e, Nat.sub_zero] at hle
      have : sumN (k + 1) (fun _ => 1) ≤ sumN (k + 1) fun i => 2 ^ (r + 1 - c i) := sumN_le fun i _ => Nat.pow_pos (by omega)
      rw [sumN_const] at this
      omega
    · exact e
  have hpos : ∀ i, i < k + 2 → 1 ≤ c i := fun i hi => Nat.le_trans hlast (h4 i (k + 1) (by omega) (by omega))
  have hfull : sumN (k + 2) (fun i => 2 ^ (r + 1 - c i)) = 2 ^ (r + 1) := by
    rcases Nat.lt_or_ge (sumN (k + 2) fun i => 2 ^ (r + 1 - c i)) (2 ^ (r + 1)) with hlt | hge
    · exfalso
      have hc0 := h3 0 (by omega)
      have hc1 := hpos 0 (by omega)
      by_cases h1' : c 0 = 1
      · have : sumN (k + 2) (fun _ => 2 ^ r) ≤ sumN (k + 2) fun i => 2 ^ (r + 1 - c i) := sumN_le fun i hi => by
          have := h4 0 i (by omega) hi
          exact pow_le_of (by omega)
        rw [sumN_const] at this
        have h2' : 2 * 2 ^ r ≤ (k + 2) * 2 ^ r := Nat.mul_le_mul_right _ (by omega)
        rw [Nat.pow_succ] at hlt
        omega
      · -- one bit less for the first symbol
        have hdiv : sumN (k + 2) (fun i => 2 ^ (r + 1 - c i)) = 2 ^ (r + 1 - c 0) * sumN (k + 2) fun i => 2 ^ (c 0 - c i) := by
          rw [← sumN_mul]
          refine sumN_congr fun i hi => ?_
          have := h4 0 i (by omega) hi
          rw [← Nat.pow_add]
          congr 1
          omega
        have hpw : 2 ^ (r + 1) = 2 ^ (r + 1 - c 0) * 2 ^ c 0 := by
          rw [← Nat.pow_add]
          congr 1
          omega
        have hroom : sumN (k + 2) (fun i => 2 ^ (r + 1 - c i)) + 2 ^ (r + 1 - c 0) ≤ 2 ^ (r + 1) := by
          rw [hdiv, hpw] at hlt ⊢
          have := Nat.lt_of_mul_lt_mul_left hlt
          rw [← Nat.mul_succ]
          exact Nat.mul_le_mul_left _ this
        have hlow := hbest (fun i => if i = 0 then c 0 - 1 else c i) (fun i hi => by
          have := (h3 i hi).1
          split <;> omega) (by
          rw [sumN_shift] at hroom ⊢
          simp only [if_false, if_true, Nat.add_one_ne_zero]
          have e : 2 ^ (r + 1 - (c 0 - 1)) = 2 ^ (r + 1 - c 0) + 2 ^ (r + 1 - c 0) := by
            rw [show r + 1 - (c 0 - 1) = (r + 1 - c 0) + 1 by omega, Nat.pow_succ]
            omega
          omega)
        rw [sumN_shift, sumN_shift (k + 1) fun i => w i * if i = 0 then c 0 - 1 else c i] at hlow
        simp only [Nat.add_one_ne_zero, if_false, if_true] at hlow
        have e : w 0 * c 0 = w 0 * (c 0 - 1) + w 0 := by
          rw [← Nat.mul_succ]
          congr 1
          omega
        omega
    · omega
  have hsay : ∀ i, i < k + 2 → says (k + 2) w s r i = c i := fun i hi => h1 i hi
  refine ⟨h0.1, fun i hi => by rw [hsay i hi]; exact hpos i hi, fun i hi => by rw [hsay i hi]; exact (h3 i hi).1, fun i j hij hj => by rw [hsay i (by omega), hsay j hj]; exact h4 i j hij hj, ?_, h2, fun l hl hK => ?_⟩
  · rw [sumN_congr (g := fun i => 2 ^ (r + 1 - c i)) (fun i hi => by rw [hsay i hi])]
    exact hfull
  · rw [sumN_congr (g := fun i => w i * c i) (fun i hi => by rw [hsay i hi])]
    exact hbest l hl hK
/-- A greater limit costs no more. -/
theorem fine_more (h : Fine n r w s) (h' : Fine n (r + 1) w s) : sumN n (fun i => w i * says n w s (r + 1) i) ≤ sumN n fun i => w i * says n w s r i :=
  h'.best _ (fun i hi => Nat.le_succ_of_le (h.top i hi)) (by
    rw [sumN_congr (g := fun i => 2 * 2 ^ (r + 1 - says n w s r i)) (fun i hi => by
      have := h.top i hi
      rw [show r + 1 + 1 - says n w s r i = (r + 1 - says n w s r i) + 1 by omega, Nat.pow_succ, Nat.mul_comm]), sumN_mul, h.full, Nat.pow_succ 2 (r + 1)]
    omega)
end
end Go.Proofs.Ytjpmabdnaooglaa.Len

namespace Go.Proofs.Ytjpmabdnaooglaa.Len

/-- Behind all that aren't above it. -/
def insI (x : Item) : List Item → List Item
  | [] => [x]
  | a :: l => if a.1 ≤ x.1 then a :: insI x l else x :: a :: l
/-- The leaves of the symbols below j. -/
def usedTo (often : List Nat) : Nat → List Item
  | 0 => []
  | j + 1 => if often.getD j 0 = 0 then usedTo often j else insI (often.getD j 0, [j]) (usedTo often j)
def symOf (x : Item) : Nat := x.2.headD 0
/-- Lesser weights ahead, of equal ones lesser symbols. -/
def Lex (a b : Item) : Prop := a.1 < b.1 ∨ a.1 = b.1 ∧ symOf a < symOf b
theorem insI_mem {x y : Item} : ∀ {l : List Item}, y ∈ insI x l ↔ y = x ∨ y ∈ l
  | [] => by simp [insI]
  | a :: l => by
    rw [insI]
    split
    · rw [List.mem_cons, insI_mem, List.mem_cons]
      constructor
      · rintro (h | h | h)
        · exact .inr (.inl h)
        · exact .inl h
        · exact .inr (.inr h)
      · rintro (h | h | h)
        · exact .inr (.inl h)
        · exact .inl h
        · exact .inr (.inr h)
    · rw [List.mem_cons]
theorem insI_lex {x : Item} : ∀ {l : List Item}, l.Pairwise Lex → (∀ y ∈ l, symOf y < symOf x) → (insI x l).Pairwise Lex
  | [], _, _ => by simp [insI]
  | a :: l, h, hx => by
    have h1 := List.pairwise_cons.1 h
    rw [insI]
    by_cases ha : a.1 ≤ x.1
    · rw [if_pos ha]
      refine List.pairwise_cons.2 ⟨fun y hy => ?_, insI_lex h1.2 fun y hy => hx y (List.mem_cons_of_mem _ hy)⟩
      rcases insI_mem.1 hy with rfl | hy
      · have := hx a List.mem_cons_self
        rcases Nat.lt_or_eq_of_le ha with h | h
        · exact .inl h
        · exact .inr ⟨h, this⟩
      · exact h1.1 y hy
    · rw [if_neg ha]
      refine List.pairwise_cons.2 ⟨fun y hy => ?_, h⟩
      rcases List.mem_cons.1 hy with rfl | hy
      · exact .inl (by omega)
      · rcases h1.1 y hy with h | ⟨h, _⟩
        · exact .inl (by omega)
        · exact .inl (by omega)
theorem insI_sum (F : Item → Nat) (x : Item) : ∀ l : List Item, ((insI x l).map F).sum = F x + (l.map F).sum
  | [] => by simp [insI]
  | a :: l => by
    rw [insI]
    split
    · rw [List.map_cons, List.sum_cons, insI_sum F x l, List.map_cons, List.sum_cons]
      omega
    · simp
theorem insI_len (x : Item) : ∀ l : List Item, (insI x l).length = l.length + 1
  | [] => by simp [insI]
  | a :: l => by
    rw [insI]
    split
    · rw [List.length_cons, insI_len x l, List.length_cons]
    · simp
section
variable {often : List Nat}
theorem used_each : ∀ {j : Nat} {x : Item}, x ∈ usedTo often j → ∃ q, q < j ∧ often.getD q 0 ≠ 0 ∧ x = (often.getD q 0, [q])
  | 0, x, h => by simp [usedTo] at h
  | j + 1, x, h => by
    rw [usedTo] at h
    by_cases h0 : often.getD j 0 = 0
    · rw [if_pos h0] at h
      obtain ⟨q, h1, h2⟩ := used_each h
      exact ⟨q, by omega, h2⟩
    · rw [if_neg h0] at h
      rcases insI_mem.1 h with e | h
      · exact ⟨j, by omega, h0, e⟩
      · obtain ⟨q, h1, h2⟩ := used_each h
        exact ⟨q, by omega, h2⟩
theorem used_all : ∀ {j q : Nat}, q < j → often.getD q 0 ≠ 0 → (often.getD q 0, [q]) ∈ usedTo often j
  | j + 1, q, h, hq => by
    rw [usedTo]
    by_cases e : q = j
    · subst e
      rw [if_neg hq]
      exact insI_mem.2 (.inl rfl)
    · have := used_all (j := j) (q := q) (by omega) hq
      split
      · exact this
      · exact insI_mem.2 (.inr this)
theorem used_lex : ∀ j : Nat, (usedTo often j).Pairwise Lex
  | 0 => by simp [usedTo]
  | j + 1 => by
    rw [usedTo]
    split
    · exact used_lex j
    · refine insI_lex (used_lex j) fun y hy => ?_
      obtain ⟨q, h1, _, rfl⟩ := used_each hy
      exact h1
theorem used_sum (F : Nat → Nat) : ∀ j : Nat, ((usedTo often j).map fun x => F (symOf x)).sum = sumN j fun q => if often.getD q 0 = 0 then 0 else F q
  | 0 => rfl
  | j + 1 => by
    rw [usedTo, sumN, ← used_sum F j]
    split
    · simp
    · rw [insI_sum fun x => F (symOf x)]
      simp [symOf]
      omega
theorem used_len : ∀ j : Nat, (usedTo often j).length = sumN j fun q => if often.getD q 0 = 0 then 0 else 1 := fun j => by
  have := used_sum (often := often) (fun _ => 1) j
  rw [← this]
  generalize usedTo often j = X
  induction X with
  | nil => rfl
  | cons a X ih => rw [List.length_cons, ih, List.map_cons, List.sum_cons]; omega
theorem used_le (j : Nat) : (usedTo often j).length ≤ j := by
  rw [used_len]
  have : sumN j (fun q => if often.getD q 0 = 0 then 0 else 1) ≤ sumN j fun _ => 1 := sumN_le fun i _ => by split <;> omega
  rw [sumN_const] at this
  omega
end
def wOf (X : List Item) (i : Nat) : Nat := (X.getD i (0, [])).1
def sOf (X : List Item) (i : Nat) : Nat := symOf (X.getD i (0, []))
theorem sum_at (F : Nat → Nat) : ∀ X : List Item, (X.map fun x => F (symOf x)).sum = sumN X.length fun i => F (sOf X i)
  | [] => rfl
  | a :: X => by
    rw [List.map_cons, List.sum_cons, sum_at F X, List.length_cons, sumN_shift]
    rfl
section
variable {often : List Nat} {j : Nat}
theorem getD_mem {X : List Item} {i : Nat} (h : i < X.length) : X.getD i (0, []) ∈ X := by
  rw [List.getD_eq_getElem?_getD, List.getElem?_eq_getElem h]
  exact List.getElem_mem h
theorem used_at {i : Nat} (h : i < (usedTo often j).length) : sOf (usedTo often j) i < j ∧ often.getD (sOf (usedTo often j) i) 0 ≠ 0 ∧ wOf (usedTo often j) i = often.getD (sOf (usedTo often j) i) 0 ∧ (usedTo often j).getD i (0, []) = (wOf (usedTo often j) i, [sOf (usedTo often j) i]) := by
  obtain ⟨q, h1, h2, e⟩ := used_each (getD_mem h)
  unfold wOf sOf
  rw [e]
  exact ⟨h1, h2, rfl, rfl⟩
theorem used_leaves : usedTo often j = leaves (usedTo often j).length (wOf (usedTo often j)) (sOf (usedTo often j)) := by
  apply List.ext_getElem
  · rw [leaves_len]
  · intro i h1 h2
    have := (used_at h1).2.2.2
    rw [List.getD_eq_getElem?_getD, List.getElem?_eq_getElem h1] at this
    simp only [leaves, List.getElem_map, List.getElem_range]
    exact this
theorem used_rise {a b : Nat} (hab : a < b) (hb : b < (usedTo often j).length) : Lex ((usedTo often j).getD a (0, [])) ((usedTo often j).getD b (0, [])) := by
  have := List.pairwise_iff_getElem.1 (used_lex (often := often) j) a b (by omega) hb hab
  rw [List.getD_eq_getElem?_getD, List.getD_eq_getElem?_getD, List.getElem?_eq_getElem (by omega), List.getElem?_eq_getElem hb]
  exact this
theorem used_w : ∀ a b, a ≤ b → b < (usedTo often j).length → wOf (usedTo often j) a ≤ wOf (usedTo often j) b := fun a b hab hb => by
  rcases Nat.lt_or_eq_of_le hab with h | h
  · rcases used_rise h hb with h | ⟨h, _⟩
    · exact Nat.le_of_lt h
    · exact Nat.le_of_eq h
  · rw [h]
    exact Nat.le_refl _
theorem used_s : ∀ a b, a < (usedTo often j).length → b < (usedTo often j).length → sOf (usedTo often j) a = sOf (usedTo often j) b → a = b := fun a b ha hb e => by
  have wa := (used_at ha).2.2.1
  have wb := (used_at hb).2.2.1
  rcases Nat.lt_trichotomy a b with h | h | h
  · rcases used_rise h hb with h | ⟨_, h⟩
    · rw [e, ← wb] at wa
      exact absurd h (by unfold wOf at wa; omega)
    · unfold sOf at e; omega
  · exact h
  · rcases used_rise h ha with h | ⟨_, h⟩
    · rw [e, ← wb] at wa
      exact absurd h (by unfold wOf at wa; omega)
    · unfold sOf at e; omega
/-- Where a used symbol stands. -/
theorem used_place {q : Nat} (hq : q < j) (h0 : often.getD q 0 ≠ 0) : ∃ i, i < (usedTo often j).length ∧ sOf (usedTo often j) i = q := by
  obtain ⟨i, hi, e⟩ := List.mem_iff_getElem.1 (used_all hq h0)
  refine ⟨i, hi, ?_⟩
  unfold sOf
  rw [List.getD_eq_getElem?_getD, List.getElem?_eq_getElem hi]
  show symOf ((usedTo often j)[i]) = q
  rw [e]
  rfl
/-- A sum over all used symbols. -/
theorem sum_used (F : Nat → Nat) : (sumN j fun q => if often.getD q 0 = 0 then 0 else F q) = sumN (usedTo often j).length fun i => F (sOf (usedTo often j) i) := by
  rw [← used_sum, sum_at]
end
/-- The length of symbol q, for limit L. -/
def lenN (often : List Nat) (L q : Nat) : Nat :=
  if (usedTo often often.length).length < 2 then (syms (usedTo often often.length)).count q
  else (syms ((row (usedTo often often.length) (L - 1)).take (2 * (usedTo often often.length).length - 2))).count q
section
variable {often : List Nat} {L : Nat}
theorem used_fine (h2 : 2 ≤ (usedTo often often.length).length) (hL : 1 ≤ L) (hn : (usedTo often often.length).length ≤ 2 ^ L) :
    Fine (usedTo often often.length).length (L - 1) (wOf (usedTo often often.length)) (sOf (usedTo often often.length)) :=
  fine h2 (by rw [show L - 1 + 1 = L by omega]; exact hn) used_w (by
    obtain ⟨_, h, e, _⟩ := used_at (often := often) (j := often.length) (i := 0) (by omega)
    omega) used_s
theorem lenN_at (h2 : 2 ≤ (usedTo often often.length).length) (i : Nat) :
    lenN often L (sOf (usedTo often often.length) i) = says (usedTo often often.length).length (wOf (usedTo often often.length)) (sOf (usedTo often often.length)) (L - 1) i := by
  unfold lenN says
  rw [if_neg (by omega), ← used_leaves]
theorem lenN_one (h1 : (usedTo often often.length).length = 1) (q : Nat) : lenN often L q = if q = sOf (usedTo often often.length) 0 then 1 else 0 := by
  have hS : syms (usedTo often often.length) = [sOf (usedTo often often.length) 0] := by
    have := congrArg syms (used_leaves (often := often) (j := often.length))
    rw [h1] at this
    exact this
  unfold lenN
  rw [if_pos (by omega), hS]
  rw [List.count_singleton]
  by_cases e : q = sOf (usedTo often often.length) 0
  · rw [if_pos e, e]; simp
  · have hb : (sOf (usedTo often often.length) 0 == q) = false := beq_eq_false_iff_ne.2 fun h => e h.symm
    rw [if_neg e, hb]
    rfl
/-- Used symbols alone have one, from 1 to the limit. -/
theorem lenN_used {q : Nat} (hq : q < often.length) (h0 : often.getD q 0 ≠ 0) (hL : 1 ≤ L) (hn : (usedTo often often.length).length ≤ 2 ^ L) : 1 ≤ lenN often L q ∧ lenN often L q ≤ L := by
  obtain ⟨i, hi, rfl⟩ := used_place hq h0
  by_cases h2 : 2 ≤ (usedTo often often.length).length
  · have F := used_fine h2 hL hn
    rw [lenN_at h2]
    have := F.pos i hi
    have := F.top i hi
    omega
  · have h1 : (usedTo often often.length).length = 1 := by omega
    rw [lenN_one h1]
    obtain rfl : i = 0 := by omega
    rw [if_pos rfl]
    omega
theorem lenN_free {q : Nat} (h0 : often.getD q 0 = 0) (hL : 1 ≤ L) (hn : (usedTo often often.length).length ≤ 2 ^ L) : lenN often L q = 0 := by
  have hne : ∀ i, i < (usedTo often often.length).length → sOf (usedTo often often.length) i ≠ q := fun i hi e => (used_at hi).2.1 (by rw [e]; exact h0)
  by_cases h2 : 2 ≤ (usedTo often often.length).length
  · have := (used_fine h2 hL hn).none q hne
    rw [← used_leaves] at this
    unfold lenN
    rw [if_neg (by omega)]
    exact this
  · unfold lenN
    rw [if_pos (by omega), used_leaves]
    exact leaves_other hne
/-- What is less often isn't shorter. -/
theorem lenN_rare {a b : Nat} (ha : a < often.length) (hb : b < often.length) (a0 : often.getD a 0 ≠ 0) (b0 : often.getD b 0 ≠ 0) (hL : 1 ≤ L) (hn : (usedTo often often.length).length ≤ 2 ^ L)
    (h : often.getD a 0 < often.getD b 0 ∨ often.getD a 0 = often.getD b 0 ∧ a < b) : lenN often L b ≤ lenN often L a := by
  obtain ⟨i, hi, ei⟩ := used_place ha a0
  obtain ⟨k, hk, ek⟩ := used_place hb b0
  have hik : i ≤ k := by
    rcases Nat.lt_or_ge k i with hki | hki
    · exfalso
      have wi := (used_at hi).2.2.1
      have wk := (used_at hk).2.2.1
      rw [ei] at wi
      rw [ek] at wk
      rcases used_rise hki hi with h3 | ⟨h3, h4⟩
      · unfold wOf at wi wk; omega
      · unfold wOf at wi wk
        unfold sOf at ei ek
        omega
    · exact hki
  subst ei
  subst ek
  by_cases h2 : 2 ≤ (usedTo often often.length).length
  · rw [lenN_at h2, lenN_at h2]
    exact (used_fine h2 hL hn).anti i k hik hk
  · obtain rfl : i = k := by omega
    exact Nat.le_refl _
/-- The weight is full. -/
theorem lenN_full (hL : 1 ≤ L) (hL15 : L ≤ 15) (hn : (usedTo often often.length).length ≤ 2 ^ L) :
    (sumN often.length fun q => if often.getD q 0 = 0 then 0 else 2 ^ (15 - lenN often L q)) = if 2 ≤ (usedTo often often.length).length then 32768 else if (usedTo often often.length).length = 1 then 16384 else 0 := by
  rw [sum_used fun q => 2 ^ (15 - lenN often L q)]
  by_cases h2 : 2 ≤ (usedTo often often.length).length
  · rw [if_pos h2]
    have F := used_fine h2 hL hn
    have := F.full
    rw [show L - 1 + 1 = L by omega] at this
    rw [sumN_congr (g := fun i => 2 ^ (15 - L) * 2 ^ (L - says (usedTo often often.length).length (wOf (usedTo often often.length)) (sOf (usedTo often often.length)) (L - 1) i)) (fun i hi => by
      have := F.top i hi
      rw [lenN_at h2, ← Nat.pow_add]
      congr 1
      omega), sumN_mul, this, ← Nat.pow_add, show 15 - L + L = 15 by omega]
  · rw [if_neg h2]
    by_cases h1 : (usedTo often often.length).length = 1
    · rw [if_pos h1, h1]
      simp only [sumN]
      rw [lenN_one h1, if_pos rfl]
    · rw [if_neg h1, show (usedTo often often.length).length = 0 by omega]
      rfl
/-- Whatever lengths cost no less. -/
theorem lenN_best (hL : 1 ≤ L) (hL15 : L ≤ 15) (hn : (usedTo often often.length).length ≤ 2 ^ L) (l : Nat → Nat) (hl : ∀ q, q < often.length → l q ≤ L) (hu : ∀ q, q < often.length → often.getD q 0 ≠ 0 → 1 ≤ l q)
    (hK : (sumN often.length fun q => if often.getD q 0 = 0 then 0 else 2 ^ (15 - l q)) ≤ 32768) :
    (sumN often.length fun q => often.getD q 0 * lenN often L q) ≤ sumN often.length fun q => often.getD q 0 * l q := by
  have e : ∀ g : Nat → Nat, (sumN often.length fun q => often.getD q 0 * g q) = sumN (usedTo often often.length).length fun i => wOf (usedTo often often.length) i * g (sOf (usedTo often often.length) i) := fun g => by
    rw [sumN_congr (n := (usedTo often often.length).length) (g := fun i => (fun q => often.getD q 0 * g q) (sOf (usedTo often often.length) i)) (fun i hi => by rw [(used_at hi).2.2.1]), ← sum_used fun q => often.getD q 0 * g q]
    refine sumN_congr fun q _ => ?_
    split
    · rename_i h
      rw [h, Nat.zero_mul]
    · rfl
  rw [e, e]
  rw [sum_used fun q => 2 ^ (15 - l q)] at hK
  by_cases h2 : 2 ≤ (usedTo often often.length).length
  · have F := used_fine h2 hL hn
    have hb := F.best (fun i => l (sOf (usedTo often often.length) i)) (fun i hi => by
      rw [show L - 1 + 1 = L by omega]
      exact hl _ (used_at hi).1) (by
      rw [show L - 1 + 1 = L by omega]
      rw [sumN_congr (g := fun i => 2 ^ (15 - L) * 2 ^ (L - l (sOf (usedTo often often.length) i))) (fun i hi => by
        have := hl _ (used_at hi).1
        rw [← Nat.pow_add]
        congr 1
        omega), sumN_mul, show 32768 = 2 ^ (15 - L) * 2 ^ L by rw [← Nat.pow_add, show 15 - L + L = 15 by omega]] at hK
      exact Nat.le_of_mul_le_mul_left hK (Nat.pow_pos (by omega)))
    rw [sumN_congr (g := fun i => wOf (usedTo often often.length) i * says (usedTo often often.length).length (wOf (usedTo often often.length)) (sOf (usedTo often often.length)) (L - 1) i) (fun i _ => by rw [lenN_at h2])]
    exact hb
  · refine sumN_le fun i hi => Nat.mul_le_mul_left _ ?_
    obtain rfl : i = 0 := by omega
    rw [lenN_one (by omega), if_pos rfl]
    exact hu _ (used_at hi).1 (used_at hi).2.1
/-- A greater limit costs no more. -/
theorem lenN_more (hL : 1 ≤ L) (hL15 : L + 1 ≤ 15) (hn : (usedTo often often.length).length ≤ 2 ^ L) :
    (sumN often.length fun q => often.getD q 0 * lenN often (L + 1) q) ≤ sumN often.length fun q => often.getD q 0 * lenN often L q := by
  have hn' : (usedTo often often.length).length ≤ 2 ^ (L + 1) := by rw [Nat.pow_succ]; omega
  refine lenN_best (by omega) hL15 hn' (lenN often L) (fun q hq => ?_) (fun q hq h0 => (lenN_used hq h0 hL hn).1) ?_
  · by_cases h0 : often.getD q 0 = 0
    · rw [lenN_free h0 hL hn]
      omega
    · have := (lenN_used hq h0 hL hn).2
      omega
  · rw [lenN_full hL (by omega) hn]
    split
    · exact Nat.le_refl _
    · split <;> omega
end
/-- The lengths of all symbols, or why there are none. -/
def lensL (often : List Nat) (L : Nat) : List UInt8 := (List.range often.length).map fun q => UInt8.ofNat (lenN often L q)
def lensE (often : List Nat) (limit : Int) : List UInt8 × Int :=
  if 300 < often.length ∨ limit < 1 ∨ 15 < limit then ([], 13)
  else if 2 ^ limit.toNat < (usedTo often often.length).length then ([], 6)
  else (lensL often limit.toNat, 0)
def kraftOf (l : List UInt8) (n : Nat) : Nat := sumN n fun i => if (l.getD i 0).toNat = 0 then 0 else 2 ^ (15 - (l.getD i 0).toNat)
def kraftE (l : List UInt8) : Nat × Int := if l.length ≤ 300 ∧ ∀ i, i < l.length → (l.getD i 0).toNat ≤ 15 then (kraftOf l l.length, 0) else (0, 13)
def costOf (often : List Nat) (l : List UInt8) (n : Nat) : Nat := sumN n fun i => often.getD i 0 * (l.getD i 0).toNat
def costE (often : List Nat) (l : List UInt8) : Nat × Int := if often.length = l.length ∧ l.length ≤ 300 then (costOf often l l.length, 0) else (0, 13)
section
variable {often : List Nat} {L : Nat}
theorem lensL_len : (lensL often L).length = often.length := by simp [lensL]
theorem lenN_small {q : Nat} (hq : q < often.length) (hL : 1 ≤ L) (hL15 : L ≤ 15) (hn : (usedTo often often.length).length ≤ 2 ^ L) : lenN often L q ≤ L := by
  by_cases h0 : often.getD q 0 = 0
  · rw [lenN_free h0 hL hn]
    omega
  · exact (lenN_used hq h0 hL hn).2
theorem lensL_at {q : Nat} (hq : q < often.length) (hL : 1 ≤ L) (hL15 : L ≤ 15) (hn : (usedTo often often.length).length ≤ 2 ^ L) : ((lensL often L).getD q 0).toNat = lenN often L q := by
  have := lenN_small hq hL hL15 hn
  have e : (lensL often L).getD q 0 = UInt8.ofNat (lenN often L q) := by simp [lensL, List.getD_eq_getElem?_getD, hq]
  rw [e, UInt8.toNat_ofNat', Nat.mod_eq_of_lt (by omega)]
end
end Go.Proofs.Ytjpmabdnaooglaa.Len

namespace Go.Proofs.Ytjpmabdnaooglaa.Can
open Len

def lenAt (l : List UInt8) (i : Nat) : Nat := (l.getD i 0).toNat
def usedC (l : List UInt8) (n : Nat) : Nat := sumN n fun i => if lenAt l i = 0 then 0 else 1
def oneC (l : List UInt8) (n : Nat) : Nat := sumN n fun i => if lenAt l i = 1 then 1 else 0
/-- Are lengths right? -/
def right (l : List UInt8) : Bool := decide ((kraftE l).2 = 0 ∧ (usedC l l.length = 0 ∨ usedC l l.length = 1 ∧ oneC l l.length = 1 ∨ (kraftE l).1 = 32768))
def checkE (l : List UInt8) : Int := if right l then 0 else 7
theorem check_right {l : List UInt8} (h : right l = true) : checkE l = 0 := by unfold checkE; rw [if_pos h]
theorem check_wrong {l : List UInt8} (h : right l = false) : checkE l = 7 := by unfold checkE; rw [h]; rfl

theorem sumN_pt (s c : Nat) : ∀ n, (sumN n fun t => if t = s then c else 0) = if s < n then c else 0
  | 0 => rfl
  | n + 1 => by
    rw [sumN, sumN_pt s c n]
    by_cases h : s < n
    · rw [if_pos h, if_neg (by omega), if_pos (by omega)]
      omega
    · by_cases e : n = s
      · rw [if_neg h, if_pos e, if_pos (by omega)]
        omega
      · rw [if_neg h, if_neg e, if_neg (by omega)]
/-- What lies ahead of symbol s of length k, in parts of 2^15. -/
def ahead (l : List UInt8) (k s t : Nat) : Nat := if lenAt l t ≠ 0 ∧ (lenAt l t < k ∨ lenAt l t = k ∧ t < s) then 2 ^ (15 - lenAt l t) else 0
def acc (l : List UInt8) (k s : Nat) : Nat := sumN l.length (ahead l k s)
theorem acc_start (l : List UInt8) : acc l 1 0 = 0 := sumN_zero _ fun i _ => by
  unfold ahead
  rw [if_neg]
  omega
theorem acc_turn (l : List UInt8) (k : Nat) : acc l (k + 1) 0 = acc l k l.length := sumN_congr fun i hi => by
  unfold ahead
  by_cases h : lenAt l i ≠ 0 ∧ (lenAt l i < k ∨ lenAt l i = k ∧ i < l.length)
  · rw [if_pos h, if_pos ⟨h.1, by omega⟩]
  · rw [if_neg h, if_neg (by omega)]
theorem acc_step (l : List UInt8) {k s : Nat} (hk : 1 ≤ k) (hs : s < l.length) : acc l k (s + 1) = acc l k s + if lenAt l s = k then 2 ^ (15 - k) else 0 := by
  have h1 : (if lenAt l s = k then 2 ^ (15 - k) else 0) = sumN l.length fun t => if t = s then (if lenAt l s = k then 2 ^ (15 - k) else 0) else 0 := by rw [sumN_pt, if_pos hs]
  rw [h1]
  unfold acc
  rw [← sumN_add]
  refine sumN_congr fun i hi => ?_
  unfold ahead
  by_cases e : i = s
  · subst e
    rw [if_pos rfl]
    by_cases hl : lenAt l i = k
    · rw [if_pos hl, if_pos ⟨by omega, by omega⟩, if_neg (by omega), hl]
      omega
    · rw [if_neg hl]
      by_cases h : lenAt l i ≠ 0 ∧ (lenAt l i < k ∨ lenAt l i = k ∧ i < i)
      · rw [if_pos h, if_pos ⟨h.1, by omega⟩]
        rfl
      · rw [if_neg h, if_neg (by omega)]
  · rw [if_neg e]
    by_cases h : lenAt l i ≠ 0 ∧ (lenAt l i < k ∨ lenAt l i = k ∧ i < s)
    · rw [if_pos h, if_pos ⟨h.1, by omega⟩]
      rfl
    · rw [if_neg h, if_neg (by omega)]
theorem acc_le (l : List UInt8) (k s : Nat) : acc l k s ≤ kraftOf l l.length := sumN_le fun i _ => by
  unfold ahead lenAt
  split
  · rename_i h
    rw [if_neg h.1]
    exact Nat.le_refl _
  · omega
/-- The word of a symbol. -/
def word (l : List UInt8) (s : Nat) : Nat := if lenAt l s = 0 then 0 else acc l (lenAt l s) s / 2 ^ (15 - lenAt l s)
def codesL (l : List UInt8) : List Nat := (List.range l.length).map (word l)
def codesE (l : List UInt8) : List Nat × Int := if right l then (codesL l, 0) else ([], 7)
theorem kraft_ok {l : List UInt8} (h : (kraftE l).2 = 0) : l.length ≤ 300 ∧ (∀ i, i < l.length → lenAt l i ≤ 15) ∧ (kraftE l).1 = kraftOf l l.length := by
  unfold kraftE at *
  split at h
  · rename_i h2
    rw [if_pos h2]
    exact ⟨h2.1, h2.2, rfl⟩
  · simp at h
theorem used_kraft {l : List UInt8} : ∀ n, n ≤ l.length → kraftOf l n ≤ 16384 * usedC l n
  | 0, _ => by simp [kraftOf, usedC, sumN]
  | n + 1, h => by
    have := used_kraft (l := l) n (by omega)
    unfold kraftOf usedC at *
    rw [sumN, sumN]
    unfold lenAt at *
    by_cases h0 : (l.getD n 0).toNat = 0
    · rw [if_pos h0, if_pos h0]
      omega
    · rw [if_neg h0, if_neg h0]
      have : 2 ^ (15 - (l.getD n 0).toNat) ≤ 2 ^ 14 := Nat.pow_le_pow_right (by omega) (by omega)
      omega
theorem right_facts {l : List UInt8} (h : right l = true) : l.length ≤ 300 ∧ (∀ i, i < l.length → lenAt l i ≤ 15) ∧ kraftOf l l.length ≤ 32768 := by
  have h1 := of_decide_eq_true h
  obtain ⟨k1, k2, k3⟩ := kraft_ok h1.1
  refine ⟨k1, k2, ?_⟩
  have hu := used_kraft (l := l) l.length (Nat.le_refl _)
  rcases h1.2 with h2 | h2 | h2
  · rw [h2] at hu; omega
  · rw [h2.1] at hu; omega
  · omega
section
variable {l : List UInt8}
theorem sumN_dvd {n c : Nat} {f : Nat → Nat} (h : ∀ i, i < n → c ∣ f i) : c ∣ sumN n f := by
  induction n with
  | zero => exact ⟨0, by simp [sumN]⟩
  | succ n ih =>
    rw [sumN]
    exact Nat.dvd_add (ih fun i hi => h i (by omega)) (h n (by omega))
theorem acc_dvd (k s : Nat) : 2 ^ (15 - k) ∣ acc l k s := sumN_dvd fun i _ => by
  unfold ahead
  split
  · exact Nat.pow_dvd_pow 2 (by omega)
  · exact ⟨0, by simp⟩
theorem word_mul {s : Nat} (h0 : lenAt l s ≠ 0) : word l s * 2 ^ (15 - lenAt l s) = acc l (lenAt l s) s := by
  unfold word
  rw [if_neg h0]
  exact Nat.div_mul_cancel (acc_dvd _ _)
theorem word_lt (hr : right l = true) {s : Nat} (hs : s < l.length) : word l s < 2 ^ 15 := by
  by_cases h0 : lenAt l s = 0
  · unfold word
    rw [if_pos h0]
    decide
  · obtain ⟨_, h15, hk⟩ := right_facts hr
    have h1 := acc_le l (lenAt l s) (s + 1)
    rw [acc_step l (by omega) hs, if_pos rfl, ← word_mul h0] at h1
    have h2 : 0 < 2 ^ (15 - lenAt l s) := Nat.pow_pos (by omega)
    have h3 : word l s * 1 ≤ word l s * 2 ^ (15 - lenAt l s) := Nat.mul_le_mul_left _ h2
    omega
theorem acc_before {a b : Nat} (ha : a < l.length) (a0 : lenAt l a ≠ 0) (h : lenAt l a < lenAt l b ∨ lenAt l a = lenAt l b ∧ a < b) : acc l (lenAt l a) a + 2 ^ (15 - lenAt l a) ≤ acc l (lenAt l b) b := by
  have h1 := acc_step l (k := lenAt l a) (by omega) ha
  rw [if_pos rfl] at h1
  rw [← h1]
  refine sumN_le fun i _ => ?_
  unfold ahead
  by_cases h2 : lenAt l i ≠ 0 ∧ (lenAt l i < lenAt l a ∨ lenAt l i = lenAt l a ∧ i < a + 1)
  · rw [if_pos h2, if_pos ⟨h2.1, by omega⟩]
    exact Nat.le_refl _
  · rw [if_neg h2]
    omega
/-- The words ahead, made as long, are below. -/
theorem word_order {a b : Nat} (ha : a < l.length) (a0 : lenAt l a ≠ 0) (b0 : lenAt l b ≠ 0) (b15 : lenAt l b ≤ 15) (h : lenAt l a < lenAt l b ∨ lenAt l a = lenAt l b ∧ a < b) :
    (word l a + 1) * 2 ^ (lenAt l b - lenAt l a) ≤ word l b := by
  have h1 := acc_before ha a0 h
  rw [← word_mul a0, ← word_mul b0] at h1
  have e : 2 ^ (15 - lenAt l a) = 2 ^ (lenAt l b - lenAt l a) * 2 ^ (15 - lenAt l b) := by rw [← Nat.pow_add]; congr 1; omega
  rw [e, ← Nat.mul_assoc, ← Nat.add_mul] at h1
  have h3 : word l a * 2 ^ (lenAt l b - lenAt l a) + 2 ^ (lenAt l b - lenAt l a) ≤ word l b := Nat.le_of_mul_le_mul_right h1 (Nat.pow_pos (by omega))
  rw [Nat.add_mul, Nat.one_mul]
  exact h3
/-- No word begins another one. -/
theorem word_apart {a b : Nat} (ha : a < l.length) (hb : b < l.length) (hab : a ≠ b) (a0 : lenAt l a ≠ 0) (b0 : lenAt l b ≠ 0) (b15 : lenAt l b ≤ 15) (h : lenAt l a ≤ lenAt l b) :
    word l b / 2 ^ (lenAt l b - lenAt l a) ≠ word l a := by
  by_cases h2 : lenAt l a < lenAt l b ∨ lenAt l a = lenAt l b ∧ a < b
  · have h3 := word_order ha a0 b0 b15 h2
    have h4 := (Nat.le_div_iff_mul_le (Nat.pow_pos (n := lenAt l b - lenAt l a) (by omega : 0 < 2))).2 h3
    omega
  · have he : lenAt l b = lenAt l a := by omega
    have h3 := word_order hb b0 a0 (by omega) (.inr ⟨he, by omega⟩)
    rw [he, Nat.sub_self, Nat.pow_zero, Nat.mul_one] at h3
    rw [he, Nat.sub_self, Nat.pow_zero, Nat.div_one]
    omega
end
end Go.Proofs.Ytjpmabdnaooglaa.Can

namespace Go.Proofs.Ytjpmabdnaooglaa
open Go.RowKit

theorem hide {p : Prop} (h : p) : Hid p := h
theorem ret_bool {a b : Bool} (h : a = b) : Ending.returned (.bool a) = .returned (.bool b) := by rw [h]
theorem ret_u32 {a b : Int} (h : a = b) : Ending.returned (.int .u32 a) = .returned (.int .u32 b) := by rw [h]

/-- Everything that was there at w is there at W as it was. -/
def Ext (w W : World) : Prop := Below w.heap.size w W
theorem Ext.refl (w : World) : Ext w w := Below.refl _ _
theorem Ext.trans {a b c : World} (h : Ext a b) (k : Ext b c) : Ext a c := Below.trans h (Below.mono k h.size)
theorem Ext.drew {a b : World} (h : Ext a b) : Ext a b.drew := Below.drew h
theorem Ext.drewN {a b : World} (h : Ext a b) (n : Nat) : Ext a (b.drewN n) := ⟨h.os, h.tape, h.output, h.size, h.block⟩
theorem Ext.alloc {a b : World} (h : Ext a b) (o : Obj) : Ext a (b.alloc o) := Below.alloc h h.size o
theorem Ext.grown' {a b c : World} (h : Ext a b) (hg : b.grownBy c none) : Ext a c := Below.grown h hg h.size (fun k hk => by cases hk)
theorem Ext.setCell {a b : World} (h : Ext a b) {g i : Nat} (hg : a.heap.size ≤ g) (u : Value) : Ext a (b.setCell ⟨g, i, none⟩ u) := Below.setCell (p := ⟨g, i, none⟩) h hg u
theorem Ext.storeNew {a b c : World} (h : Ext a b) {o : Obj} (hG : (b.alloc o).grownBy c (some b.heap.size)) : Ext a c := Below.grown (h.alloc o) hG (h.alloc o).size (fun k hk => by cases hk; exact h.size)
theorem Ext.cell {a b : World} (h : Ext a b) {g i : Nat} (hp : g < a.heap.size) : b.cell? ⟨g, i, none⟩ = a.cell? ⟨g, i, none⟩ := Below.cell (p := ⟨g, i, none⟩) h hp
theorem Ext.le {a b : World} (h : Ext a b) : a.heap.size ≤ b.heap.size := h.size
theorem cellNew (w : World) (cs : Array Value) (t : TypeId) (fr : Nat × Nat) (i : Nat) : (w.alloc (.cells cs t fr)).cell? ⟨w.heap.size, i, none⟩ = cs[i]? := World.cell?_alloc_mark w cs t fr i
theorem belowNew (w : World) (o : Obj) : Below w.heap.size w (w.alloc o) := (Below.refl _ _).alloc (Nat.le_refl _) o
theorem extNew (w : World) (o : Obj) : Ext w (w.alloc o) := belowNew w o

/-- A slice that reads as these bytes, its memory below block B. -/
def Bytes (w : World) (B : Nat) (A : Option Addr) (n : Nat) (l : List UInt8) : Prop :=
  l.length = n ∧ (n = 0 ∨ ∃ b off, A = some ⟨b, off, none⟩ ∧ b < B ∧ ∀ i, i < n → w.cell? ⟨b, off + i, none⟩ = some (.int .u8 ((l.getD i 0).toNat : Int)))
theorem Bytes.below {w w' : World} {B C : Nat} {A : Option Addr} {n : Nat} {l : List UInt8} (h : Bytes w B A n l) (hb : Below C w w') (hC : B ≤ C) : Bytes w' B A n l := by
  refine ⟨h.1, ?_⟩
  rcases h.2 with h0 | ⟨b, off, hA, hB, hc⟩
  · exact .inl h0
  · exact .inr ⟨b, off, hA, hB, fun i hi => by rw [hb.cell (p := ⟨b, off + i, none⟩) (Nat.lt_of_lt_of_le hB hC)]; exact hc i hi⟩
theorem Bytes.mono {w : World} {B C : Nat} {A : Option Addr} {n : Nat} {l : List UInt8} (h : Bytes w B A n l) (hC : B ≤ C) : Bytes w C A n l := by
  refine ⟨h.1, ?_⟩
  rcases h.2 with h0 | ⟨b, off, hA, hB, hc⟩
  · exact .inl h0
  · exact .inr ⟨b, off, hA, Nat.lt_of_lt_of_le hB hC, hc⟩
theorem Ext.bytes {a b : World} (h : Ext a b) {A : Option Addr} {n : Nat} {l : List UInt8} (hb : Bytes a a.heap.size A n l) : Bytes b b.heap.size A n l := (hb.below h (Nat.le_refl _)).mono h.size
theorem Bytes.take {w : World} {B : Nat} {A : Option Addr} {n : Nat} {l : List UInt8} (h : Bytes w B A n l) {k : Nat} (hk : k ≤ n) : Bytes w B A k (l.take k) := by
  refine ⟨by rw [List.length_take, h.1]; omega, ?_⟩
  rcases h.2 with h0 | ⟨b, off, hA, hB, hc⟩
  · exact .inl (by omega)
  · refine .inr ⟨b, off, hA, hB, fun i hi => ?_⟩
    rw [hc i (by omega)]
    simp [List.getD_eq_getElem?_getD, hi]
theorem Bytes.none (w : World) (B : Nat) (A : Option Addr) : Bytes w B A 0 [] := ⟨rfl, .inl rfl⟩

/-- Where a slice begins that is cut at k: at the end of its room it stays where it was. -/
def cutAt (A : Option Addr) (c k : Nat) : Option Addr := if c = k then A else A.map (·.add k)
theorem Bytes.drop {w : World} {B : Nat} {A : Option Addr} {n : Nat} {l : List UInt8} (h : Bytes w B A n l) {k c : Nat} (hk : k ≤ n) (hc : n ≤ c) : Bytes w B (cutAt A c k) (n - k) (l.drop k) := by
  refine ⟨by rw [List.length_drop, h.1], ?_⟩
  by_cases hkn : k = n
  · exact .inl (by omega)
  rcases h.2 with h0 | ⟨b, off, rfl, hB, hcell⟩
  · exact .inl (by omega)
  · refine .inr ⟨b, off + k, ?_, hB, fun i hi => ?_⟩
    · simp [cutAt, show ¬ c = k by omega, Addr.add]
    · rw [Nat.add_assoc, hcell (k + i) (by omega)]
      simp [List.getD_eq_getElem?_getD]
/-- New bytes. -/
def byteCells (l : List UInt8) : Array Value := (l.map fun c => Value.int .u8 (c.toNat : Int)).toArray
theorem bytesNew (w : World) (l : List UInt8) (cs : Array Value) (t : TypeId) (fr : Nat × Nat) (h : cs = byteCells l) (n : Nat) (hn : l.length = n) :
    Bytes (w.alloc (.cells cs t fr)) (w.alloc (.cells cs t fr)).heap.size (some ⟨w.heap.size, 0, none⟩) n l := by
  subst h
  subst hn
  refine ⟨rfl, .inr ⟨w.heap.size, 0, rfl, by simp, fun i hi => ?_⟩⟩
  rw [Nat.zero_add, World.cell?_alloc_mark]
  simp [hi, byteCells]

theorem run_cut (W : World) (a : Option Addr) (n c : Nat) (k : IntKind) (l : Int) (h0 : 0 ≤ l) (h1 : l ≤ n) :
    (Instr.slice 22 (.slice a n c) (some (.int k l)) none none).run Try.prog W = .ok (.slice (cutAt a c l.toNat) (n - l.toNat) (c - l.toNat)) W := by
  rw [run_slice_l (P := Try.prog) (w := W) 22 a n c (by kernel_rfl) k l h0 h1]
  have hs : (sizeOf (Try.prog.elem 22)).run Try.prog W = .ok 1 W := by kernel_rfl
  rw [hs]
  simp [Result.andThen, sliced, cutAt]
end Go.Proofs.Ytjpmabdnaooglaa

namespace Go.Proofs.Ytjpmabdnaooglaa
open Go.RowKit

def byteV (c : UInt8) : Value := .int .u8 (c.toNat : Int)
/-- v is nil, or lies in a block of the call's own (from base on), and reads as these bytes. -/
def OwnB (w : World) (base : Nat) (v : Value) (l : List UInt8) : Prop := w.ownsRow base 5 1 v l.length (l.map byteV)
theorem byte_info : (Try.prog.info? 5).map (fun i => (i.zero, i.size, i.bytes)) = some (some (.int .u8 0), 1, 1) := by kernel_rfl

theorem OwnB.nil (w : World) (base : Nat) : OwnB w base (.slice none 0 0) [] := World.ownsRow_nil w base _ _
theorem Ext.grown {w w' : World} (h : Ext w w') (row : Option Nat) : w.grownBy w' row := ⟨h.os, h.tape, h.output, h.size, fun i hi _ => h.block i hi⟩
theorem OwnB.empty (w : World) {base : Nat} (h : base ≤ w.heap.size) : OwnB (w.alloc (.cells #[] 5)) base (.slice (some ⟨w.heap.size, 0, none⟩) 0 0) [] :=
  World.ownsRow_made (size := 1) w #[] 0 h (by unfold maxLen; omega) (by simp)
theorem OwnB.lit (w : World) (cs : Array Value) (l : List UInt8) (n : Nat) (hcs : cs = (l.map byteV).toArray) (hn : l.length = n) (hm : n ≤ 1000) {base : Nat} (h : base ≤ w.heap.size) :
    OwnB (w.alloc (.cells cs 5)) base (.slice (some ⟨w.heap.size, 0, none⟩) n n) l := by
  subst hcs
  subst hn
  have := World.ownsRow_lit (e := 5) (size := 1) w (l.map byteV).toArray l.length h (by unfold maxLen; omega) (by simp)
  simpa [OwnB] using this
theorem OwnB.ext {w w' : World} {base : Nat} {v : Value} {l : List UInt8} (h : OwnB w base v l) (hE : Ext w w') : OwnB w' base v l :=
  World.ownsRow.kept h (hE.grown none) (by cases hv : v.ownBlock <;> simp)
theorem OwnB.form {w : World} {base : Nat} {v : Value} {l : List UInt8} (h : OwnB w base v l) :
    ∃ A c, v = .slice A l.length c ∧ l.length ≤ c ∧ c ≤ maxLen ∧ Bytes w w.heap.size A l.length l := by
  have hl := h.lt
  rcases h.2 with ⟨rfl, h0⟩ | ⟨g, cap, cur, rfl, hb, hg, hn, hc, hs, ht⟩
  · exact ⟨none, 0, by rw [h0], by omega, by unfold maxLen; omega, rfl, .inl h0⟩
  · refine ⟨_, cap, rfl, hn, hc, rfl, .inr ⟨g, 0, rfl, (hl g rfl).2, fun i hi => ?_⟩⟩
    have hk := World.ownsRow.cellAt h i (by omega)
    rw [Nat.zero_add, hk]
    simp [byteV, hi]
theorem OwnB.form' {w : World} {base : Nat} {v : Value} {l : List UInt8} (h : OwnB w base v l) : ∃ A n c, v = .slice A n c ∧ n ≤ c ∧ n ≤ l.length ∧ Bytes w w.heap.size A n l := by
  obtain ⟨A, c, hv, hc, _, hb⟩ := h.form
  exact ⟨A, _, c, hv, hc, Nat.le_refl _, hb⟩
theorem OwnB.mono {w : World} {base base' : Nat} {v : Value} {l : List UInt8} (h : OwnB w base v l) (hb : base' ≤ base) : OwnB w base' v l :=
  ⟨h.1, h.2.elim Or.inl fun ⟨g, cap, cur, hv, hg, r⟩ => Or.inr ⟨g, cap, cur, hv, Nat.le_trans hb hg, r⟩⟩
/-- How long it may be. -/
theorem OwnB.len_le {w : World} {base : Nat} {v : Value} {l : List UInt8} (h : OwnB w base v l) : l.length ≤ maxLen := by
  obtain ⟨_, c, _, h1, h2, _⟩ := h.form
  omega

theorem run_append_zero (w : World) (ty : TypeId) (base : Nat) (v : Value) (l : List UInt8) (hown : OwnB w base v l) (A : Option Addr) (c : Nat) :
    (Builtin.append_ #[22, 22] ty #[v, .slice A 0 c]).run Try.prog w = .ok v w := by
  obtain ⟨i, hi, _, _, _⟩ := info_parts byte_info
  rcases hown.2 with ⟨rfl, _⟩ | ⟨g, cap, cur, rfl, _, _, hnc, _⟩
  · cases A <;> simp [Builtin.append_, run_underlying Try.underlying22, sizeOf, typeInfo, hi, Builtin.lenOf, Builtin.firstCells, loadCells, loadCellsFrom]
  · cases A <;> simp [Builtin.append_, run_underlying Try.underlying22, sizeOf, typeInfo, hi, Builtin.lenOf, Builtin.firstCells, loadCells, loadCellsFrom, hnc, storeCells]

/-- Where bytes of the call's own lie, if there are any. -/
theorem OwnB.formG {w : World} {base : Nat} {v : Value} {l : List UInt8} (h : OwnB w base v l) (hl : 0 < l.length) : ∃ g c, v = .slice (some ⟨g, 0, none⟩) l.length c ∧ base ≤ g ∧ l.length ≤ c := by
  rcases h.2 with ⟨_, h0⟩ | ⟨g, cap, _, rfl, hb, _, hn, _⟩
  · omega
  · exact ⟨g, cap, rfl, hb, hn⟩
theorem OwnB.cell {w : World} {base g n c : Nat} {l : List UInt8} (h : OwnB w base (.slice (some ⟨g, 0, none⟩) n c) l) {i : Nat} (hi : i < l.length) :
    w.cell? ⟨g, i, none⟩ = some (.int .u8 ((l.getD i 0).toNat : Int)) ∧ w.frozen? ⟨g, i, none⟩ = false := by
  have hn : n = l.length := by
    rcases h.2 with ⟨h', _⟩ | ⟨_, _, _, h', _⟩
    · simp at h'
    · simp only [Value.slice.injEq] at h'; exact h'.2.1
  subst hn
  refine ⟨?_, World.ownsRow.frozenAt h i⟩
  rw [World.ownsRow.cellAt h i (by omega)]
  simp [byteV, hi]
theorem OwnB.set {w : World} {base g n c : Nat} {l : List UInt8} (h : OwnB w base (.slice (some ⟨g, 0, none⟩) n c) l) (i : Nat) (x : UInt8) :
    OwnB (w.setCell ⟨g, i, none⟩ (.int .u8 (x.toNat : Int))) base (.slice (some ⟨g, 0, none⟩) n c) (l.set i x) := by
  have hn : n = l.length := by
    rcases h.2 with ⟨h', _⟩ | ⟨_, _, _, h', _⟩
    · simp at h'
    · simp only [Value.slice.injEq] at h'; exact h'.2.1
  subst hn
  have := (World.ownsRow.stored h i (byteV x)).1
  unfold OwnB
  rw [List.length_set, List.map_set]
  exact this
/-- append of bytes, wherever they lie. -/
theorem app_run {w : World} (ty : TypeId) {base : Nat} {v : Value} {l : List UInt8} (hown : OwnB w base v l) {A : Option Addr} {m : Nat} {k : List UInt8} (c : Nat) (hb : Bytes w w.heap.size A m k)
    (hlen : l.length + m ≤ 140737488355328) (hbase : base ≤ w.heap.size) :
    ∃ v' w', (Builtin.append_ #[22, 22] ty #[v, .slice A m c]).run Try.prog w = .ok v' w' ∧ OwnB w' base v' (l ++ k) ∧ w.grownBy w' v.ownBlock := by
  obtain ⟨hk, hb⟩ := hb
  rcases hb with rfl | ⟨b, off, rfl, hB, hc⟩
  · obtain rfl := List.eq_nil_of_length_eq_zero hk
    exact ⟨v, w, run_append_zero w ty base v l hown A c, by simpa using hown, World.grownBy.refl w _⟩
  · obtain ⟨i, hi, hz, hs, hby⟩ := info_parts byte_info
    obtain ⟨v', w', hr, h2, h3, _⟩ := run_append_own (P := Try.prog) w base 22 ty 5 i _ 1 1 Try.underlying22 hi hz hs hby rfl (by omega) v l.length (l.map byteV) hown
      ⟨b, off, none⟩ m c (k.map byteV) (by simpa using hk) (by
        intro j u hu
        have hj : j < m := by
          rcases Nat.lt_or_ge j m with h | h
          · exact h
          · rw [List.getElem?_eq_none (by simp; omega)] at hu; cases hu
        have hadd : (⟨b, off, none⟩ : Addr).add j = ⟨b, off + j, none⟩ := by unfold Addr.add; split <;> simp_all
        rw [hadd, hc j hj]
        rw [List.getElem?_map, List.getElem?_eq_getElem (by omega)] at hu
        rw [List.getD_eq_getElem?_getD, List.getElem?_eq_getElem (by omega)]
        simpa [byteV] using hu) (by
        intro u hu
        obtain ⟨x, _, rfl⟩ := List.mem_map.1 hu
        rfl) (by unfold maxLen; omega) (by omega) hbase
    refine ⟨v', w', hr, ?_, h3⟩
    unfold OwnB
    rw [List.length_append, hk, List.map_append]
    exact h2
/-- append of one byte: it is laid in a block of its own first. -/
theorem app_one {w : World} (ty : TypeId) {base : Nat} {v : Value} {l : List UInt8} (hown : OwnB w base v l) (x : UInt8) (hlen : l.length + 1 ≤ 140737488355328) (hbase : base ≤ w.heap.size) :
    ∃ v' w', (Builtin.append_ #[22, 22] ty #[v, .slice (some ⟨w.heap.size, 0, none⟩) 1 1]).run Try.prog (w.alloc (.cells #[.int .u8 (x.toNat : Int)] 5)) = .ok v' w' ∧ OwnB w' base v' (l ++ [x]) ∧
      (w.alloc (.cells #[.int .u8 (x.toNat : Int)] 5)).grownBy w' v.ownBlock :=
  app_run ty (hown.ext (extNew w _)) 1 (bytesNew w [x] _ _ _ rfl 1 rfl) hlen (by simp; omega)
/-- The same at the operation. -/
theorem wp_app {o : Oper} {a : Act} {K : Act → World → Prop} {Q : Exit → Act → World → Prop} {w : World} (s x : Operand)
    (ho : o.op = .call { callee := .builtin .append, args := #[s, x], argTypes := #[22, 22] }) {base : Nat} {v : Value} {l : List UInt8} (hs : a.eval s = v) (hown : OwnB w base v l)
    {A : Option Addr} {m c : Nat} {k : List UInt8} (hx : a.eval x = .slice A m c) (hb : Bytes w w.heap.size A m k) (hlen : l.length + m ≤ 140737488355328) (hbase : base ≤ w.heap.size)
    (h : ∀ v' w', OwnB w' base v' (l ++ k) → w.grownBy w' v.ownBlock → K (a.put o.dst v') w') : o.wp Try.prog a w K Q := by
  obtain ⟨v', w', hr, h2, h3⟩ := app_run o.type hown c hb hlen hbase
  unfold Oper.wp execOp
  simp only [ho, resolve, invoke, builtin, Sem.run_bind, Sem.run_pure, Result.andThen_ok, List.map_toArray, List.map_cons, List.map_nil, hs, hx, hr]
  exact h v' w' h2 h3
/-- The same for a walk of a plain region. -/
theorem wpList_app {ops : Array Oper} {rest : List Oper} {o : Oper} {a : Act} {Q : Exit → Act → World → Prop} {w : World} (hgd : o.guard = none) (s x : Operand)
    (ho : o.op = .call { callee := .builtin .append, args := #[s, x], argTypes := #[22, 22] }) {base : Nat} {v : Value} {l : List UInt8} (hs : a.eval s = v) (hown : OwnB w base v l)
    {A : Option Addr} {m c : Nat} {k : List UInt8} (hx : a.eval x = .slice A m c) (hb : Bytes w w.heap.size A m k) (hlen : l.length + m ≤ 140737488355328) (hbase : base ≤ w.heap.size)
    (h : ∀ v' w', OwnB w' base v' (l ++ k) → w.grownBy w' v.ownBlock → wpList Try.prog ops Q rest (a.put o.dst v') w') : wpList Try.prog ops Q (o :: rest) a w :=
  wpList_plain hgd fun _ hK => wp_app s x ho hs hown hx hb hlen hbase fun v' w' h2 h3 => hK _ _ (h v' w' h2 h3)
/-- The same for a region that draws its order. -/
theorem step_app {ops : Array Oper} {o : Oper} {a : Act} {K : Act → World → Prop} {Q : Exit → Act → World → Prop} {E : Prop} {w : World} (hgd : o.guard = none) (s x : Operand)
    (ho : o.op = .call { callee := .builtin .append, args := #[s, x], argTypes := #[22, 22] }) {base : Nat} {v : Value} {l : List UInt8} (hs : a.eval s = v) (hown : OwnB w base v l)
    {A : Option Addr} {m c : Nat} {k : List UInt8} (hx : a.eval x = .slice A m c) (hb : Bytes w w.heap.size A m k) (hlen : l.length + m ≤ 140737488355328) (hbase : base ≤ w.heap.size)
    (h : ∀ v' w', OwnB w' base v' (l ++ k) → w.grownBy w' v.ownBlock → K (a.put o.dst v') w') :
    if Region.wanted o (yielded ops a.tmps) = true then Oper.wp Try.prog o a w K Q else E := by
  have hw : Region.wanted o (yielded ops a.tmps) = true := by simp [Region.wanted, hgd]
  rw [if_pos hw]
  exact wp_app s x ho hs hown hx hb hlen hbase h
/-- Behind a call that makes bytes: they lie in new memory. -/
def MadeB (w : World) (l : List UInt8) (e : Ending) (w' : World) : Prop := ∃ v, e = .returned v ∧ OwnB w' w.heap.size v l ∧ Ext w w'
/-- What an append leaves of the memory below base. -/
theorem OwnB.below {w0 w w' : World} {base : Nat} {v : Value} {l : List UInt8} (h : OwnB w base v l) (hb : Below base w0 w) (hg : w.grownBy w' v.ownBlock) (hbase : base ≤ w.heap.size) : Below base w0 w' :=
  hb.grown hg hbase fun k hk => (h.lt k hk).1
end Go.Proofs.Ytjpmabdnaooglaa

namespace Go.Proofs.Ytjpmabdnaooglaa
open Go.RowKit

namespace Bit
/-- Bit i of bytes, of each byte the highest first. -/
def at_ (l : List UInt8) (i : Nat) : Bool := (l.getD (i / 8) 0).toNat.testBit (7 - i % 8)
/-- n bits as a number, the highest first. -/
def val (f : Nat → Bool) : Nat → Nat
  | 0 => 0
  | n + 1 => 2 * val f n + (f n).toNat
/-- x in n bits. -/
def num (x n : Nat) : List Bool := (List.range n).map fun i => x.testBit (n - 1 - i)
/-- How many bits 0 stand ahead of the first 1 of n bits. -/
def zeros : Nat → (Nat → Bool) → Nat
  | 0, _ => 0
  | n + 1, f => if f 0 then 0 else 1 + zeros n fun i => f (i + 1)

theorem val_lt (f : Nat → Bool) : ∀ n, val f n < 2 ^ n
  | 0 => by simp [val]
  | n + 1 => by
    have := val_lt f n
    have hb : (f n).toNat ≤ 1 := by cases f n <;> simp
    rw [val, Nat.pow_succ]
    omega
theorem val_congr {f g : Nat → Bool} : ∀ n, (∀ i, i < n → f i = g i) → val f n = val g n
  | 0, _ => rfl
  | n + 1, h => by rw [val, val, val_congr n fun i hi => h i (by omega), h n (by omega)]
theorem val_add (f : Nat → Bool) (k : Nat) : ∀ m, val f (k + m) = val f k * 2 ^ m + val (fun i => f (k + i)) m
  | 0 => by simp [val]
  | m + 1 => by
    rw [← Nat.add_assoc, val, val, val_add f k m, Nat.pow_succ, Nat.mul_add]
    have : 2 * (val f k * 2 ^ m) = val f k * (2 ^ m * 2) := by rw [Nat.mul_comm 2, Nat.mul_assoc]
    omega
theorem testBit_toNat (x i : Nat) : (x.testBit i).toNat = x / 2 ^ i % 2 := by
  rw [Nat.testBit_eq_decide_div_mod_eq]
  have : x / 2 ^ i % 2 < 2 := Nat.mod_lt _ (by omega)
  rcases (by omega : x / 2 ^ i % 2 = 0 ∨ x / 2 ^ i % 2 = 1) with h | h <;> simp [h]
/-- The m bits of c from the place p on downwards. -/
theorem val_down (c p : Nat) : ∀ m, m ≤ p → val (fun i => c.testBit (p - 1 - i)) m = c / 2 ^ (p - m) % 2 ^ m
  | 0, _ => by simp [val, Nat.mod_one]
  | m + 1, h => by
    rw [val, val_down c p m (by omega), testBit_toNat]
    obtain ⟨q, rfl⟩ : ∃ q, p = q + (m + 1) := ⟨p - (m + 1), by omega⟩
    rw [show q + (m + 1) - m = q + 1 by omega, show q + (m + 1) - 1 - m = q by omega, show q + (m + 1) - (m + 1) = q by omega]
    rw [Nat.pow_succ 2 q, ← Nat.div_div_eq_div_mul, Nat.pow_succ 2 m, Nat.mul_comm (2 ^ m) 2, Nat.mod_mul]
    omega
theorem val_num {x n : Nat} (h : x < 2 ^ n) : val (fun i => x.testBit (n - 1 - i)) n = x := by
  rw [val_down x n n (Nat.le_refl n), Nat.sub_self, Nat.pow_zero, Nat.div_one, Nat.mod_eq_of_lt h]
theorem val_zero : ∀ n, val (fun _ => false) n = 0
  | 0 => rfl
  | n + 1 => by rw [val, val_zero n]; rfl
theorem val_shift (f : Nat → Bool) (k m : Nat) (h : ∀ i, k ≤ i → i < k + m → f i = false) : val f (k + m) = val f k * 2 ^ m := by
  rw [val_add, val_congr (g := fun _ => false) m fun i hi => h (k + i) (by omega) (by omega), val_zero, Nat.add_zero]

theorem zeros_le : ∀ n f, zeros n f ≤ n
  | 0, _ => by simp [zeros]
  | n + 1, f => by
    have := zeros_le n fun i => f (i + 1)
    rw [zeros]
    split <;> omega
theorem zeros_false : ∀ n f i, i < zeros n f → f i = false
  | 0, _, i, h => by simp [zeros] at h
  | n + 1, f, i, h => by
    rw [zeros] at h
    split at h
    · omega
    · rename_i h0
      rcases i with _ | i
      · simpa using h0
      · exact zeros_false n (fun i => f (i + 1)) i (by omega)
theorem zeros_true : ∀ n f, zeros n f < n → f (zeros n f) = true
  | 0, _, h => by omega
  | n + 1, f, h => by
    by_cases h0 : f 0 = true
    · have hz : zeros (n + 1) f = 0 := by rw [zeros, if_pos h0]
      rw [hz]; exact h0
    · have hz : zeros (n + 1) f = zeros n (fun i => f (i + 1)) + 1 := by rw [zeros, if_neg h0]; omega
      rw [hz] at h ⊢
      exact zeros_true n (fun i => f (i + 1)) (by omega)
theorem zeros_eq {n z : Nat} {f : Nat → Bool} (h1 : z ≤ n) (h2 : ∀ i, i < z → f i = false) (h3 : z < n → f z = true) : zeros n f = z := by
  have hle := zeros_le n f
  rcases Nat.lt_trichotomy (zeros n f) z with h | h | h
  · have := zeros_true n f (by omega)
    rw [h2 _ h] at this
    cases this
  · exact h
  · have := zeros_false n f z h
    rw [h3 (by omega)] at this
    cases this
theorem zeros_congr {n : Nat} {f g : Nat → Bool} (h : ∀ i, i < n → f i = g i) : zeros n f = zeros n g := by
  have hle := zeros_le n g
  exact zeros_eq hle (fun i hi => by rw [h i (by omega)]; exact zeros_false n g i hi) (fun hz => by rw [h _ hz]; exact zeros_true n g hz)

theorem num_length (x n : Nat) : (num x n).length = n := by simp [num]
theorem num_getD (x n i : Nat) (h : i < n) : (num x n).getD i false = x.testBit (n - 1 - i) := by simp [num, List.getD_eq_getElem?_getD, h]
theorem testBit_high {x n i : Nat} (h : x < 2 ^ n) (hi : n ≤ i) : x.testBit i = false := Nat.testBit_lt_two_pow (Nat.lt_of_lt_of_le h (Nat.pow_le_pow_right (by omega) hi))

/-- These bytes are just these bits, with bits 0 behind the last one. -/
def Packs (l : List UInt8) (B : List Bool) : Prop := l.length = (B.length + 7) / 8 ∧ ∀ i, i < 8 * l.length → at_ l i = B.getD i false

theorem u8_ext {a b : UInt8} (h : ∀ j, j < 8 → a.toNat.testBit j = b.toNat.testBit j) : a = b := by
  apply UInt8.toNat_inj.1
  apply Nat.eq_of_testBit_eq
  intro j
  by_cases hj : j < 8
  · exact h j hj
  · rw [testBit_high (n := 8) a.toNat_lt (by omega), testBit_high (n := 8) b.toNat_lt (by omega)]
theorem getD_ext {a b : List UInt8} (h : a.length = b.length) (hx : ∀ i, i < a.length → a.getD i 0 = b.getD i 0) : a = b := by
  apply List.ext_getElem h
  intro i h1 h2
  have := hx i h1
  simpa [List.getD_eq_getElem?_getD, h1, h2] using this
theorem Packs.uniq {a b : List UInt8} {B : List Bool} (ha : Packs a B) (hb : Packs b B) : a = b := by
  have hl : a.length = b.length := ha.1.trans hb.1.symm
  refine getD_ext hl fun i hi => u8_ext fun j hj => ?_
  have h1 := ha.2 (8 * i + (7 - j)) (by omega)
  have h2 := hb.2 (8 * i + (7 - j)) (by omega)
  unfold at_ at h1 h2
  rw [show (8 * i + (7 - j)) / 8 = i by omega, show 7 - (8 * i + (7 - j)) % 8 = j by omega] at h1 h2
  rw [h1, h2]
theorem Packs.nil : Packs [] [] := ⟨by simp, fun i hi => by simp at hi⟩
theorem at_zeros (l : List UInt8) (k i : Nat) : at_ (l ++ List.replicate k 0) i = (if i < 8 * l.length then at_ l i else false) := by
  unfold at_
  by_cases h : i < 8 * l.length
  · have h1 : i / 8 < l.length := by omega
    rw [if_pos h, List.getD_eq_getElem?_getD, List.getElem?_append_left h1, List.getD_eq_getElem?_getD]
  · have h1 : l.length ≤ i / 8 := by omega
    rw [if_neg h, List.getD_eq_getElem?_getD, List.getElem?_append_right h1, List.getElem?_replicate]
    split <;> simp
theorem getD_app_right (B C : List Bool) (i : Nat) (h : B.length ≤ i) : (B ++ C).getD i false = C.getD (i - B.length) false := by
  simp only [List.getD_eq_getElem?_getD]
  rw [List.getElem?_append_right h]
theorem getD_app_left (B C : List Bool) (i : Nat) (h : i < B.length) : (B ++ C).getD i false = B.getD i false := by
  simp only [List.getD_eq_getElem?_getD]
  rw [List.getElem?_append_left h]
theorem getD_far (B : List Bool) (i : Nat) (h : B.length ≤ i) : B.getD i false = false := by
  simp only [List.getD_eq_getElem?_getD]
  rw [List.getElem?_eq_none h]; rfl
theorem getD_falses (B : List Bool) (n i : Nat) : (B ++ List.replicate n false).getD i false = B.getD i false := by
  by_cases h : i < B.length
  · exact getD_app_left _ _ _ h
  · rw [getD_app_right _ _ _ (by omega), getD_far B i (by omega), List.getD_eq_getElem?_getD, List.getElem?_replicate]
    split <;> rfl
/-- What widening leaves. -/
theorem Packs.widen {l : List UInt8} {B : List Bool} (h : Packs l B) (n : Nat) : Packs (l ++ List.replicate ((B.length + n + 7) / 8 - l.length) 0) (B ++ List.replicate n false) := by
  have h1 := h.1
  refine ⟨by simp; omega, fun i hi => ?_⟩
  rw [at_zeros, getD_falses]
  by_cases hx : i < 8 * l.length
  · rw [if_pos hx]; exact h.2 i hx
  · rw [if_neg hx, getD_far B i (by omega)]

/-- While x is laid behind the bits B, in n bits, up to the place 'p'. -/
def Adds (B : List Bool) (x n : Nat) (l : List UInt8) (p : Nat) : Prop :=
  l.length = (B.length + n + 7) / 8 ∧ B.length ≤ p ∧ p ≤ B.length + n ∧ (p = B.length ∨ p % 8 = 0 ∨ p = B.length + n) ∧
  ∀ i, i < 8 * l.length → at_ l i = (if i < B.length then B.getD i false else (decide (i < p) && x.testBit (B.length + n - 1 - i)))
theorem Adds.start {l : List UInt8} {B : List Bool} (h : Packs l B) (x n : Nat) : Adds B x n (l ++ List.replicate ((B.length + n + 7) / 8 - l.length) 0) B.length := by
  have h2 := h.widen n
  have h1 := h.1
  refine ⟨by simp; omega, Nat.le_refl _, by omega, .inl rfl, fun i hi => ?_⟩
  rw [h2.2 i hi, getD_falses]
  by_cases hx : i < B.length
  · rw [if_pos hx]
  · rw [if_neg hx, getD_far B i (by omega), decide_eq_false hx]; rfl
theorem Adds.done {l : List UInt8} {B : List Bool} {x n : Nat} (h : Adds B x n l (B.length + n)) : Packs l (B ++ num x n) := by
  refine ⟨by rw [h.1, List.length_append, num_length], fun i hi => ?_⟩
  rw [h.2.2.2.2 i hi]
  by_cases h1 : i < B.length
  · rw [if_pos h1, getD_app_left _ _ _ h1]
  · rw [if_neg h1, getD_app_right _ _ _ (by omega)]
    by_cases h2 : i < B.length + n
    · rw [decide_eq_true h2, Bool.true_and, num_getD _ _ _ (by omega)]
      congr 1
      omega
    · rw [decide_eq_false h2, getD_far _ _ (by rw [num_length]; omega)]; rfl
theorem at_set (l : List UInt8) (j i : Nat) (c : UInt8) (hj : j < l.length) : at_ (l.set j c) i = (if i / 8 = j then c.toNat.testBit (7 - i % 8) else at_ l i) := by
  unfold at_
  simp only [List.getD_eq_getElem?_getD, List.getElem?_set]
  by_cases h : i / 8 = j
  · rw [if_pos h, if_pos h.symm, if_pos hj]; rfl
  · rw [if_neg h, if_neg (fun e => h e.symm)]
/-- The byte that a piece of x makes of an old one. -/
def mix (c : UInt8) (x s t : Nat) : UInt8 := c ||| UInt8.ofNat ((x >>> s) % 256 * 2 ^ t)
theorem mix_bit (c : UInt8) (x s t j : Nat) (hj : j < 8) : (mix c x s t).toNat.testBit j = (c.toNat.testBit j || (decide (t ≤ j) && x.testBit (s + (j - t)))) := by
  unfold mix
  rw [UInt8.toNat_or, Nat.testBit_or, UInt8.toNat_ofNat', Nat.testBit_mod_two_pow, decide_eq_true hj, Bool.true_and, Nat.testBit_mul_two_pow]
  by_cases h : t ≤ j
  · rw [decide_eq_true h, Bool.true_and, Bool.true_and, show (256 : Nat) = 2 ^ 8 from rfl, Nat.testBit_mod_two_pow, decide_eq_true (show j - t < 8 by omega), Bool.true_and, Nat.testBit_shiftRight]
  · rw [decide_eq_false h]
    simp
theorem Adds.step {l : List UInt8} {B : List Bool} {x n p k : Nat} (h : Adds B x n l p) (hx : x < 2 ^ n) (hk : k = min (B.length + n - p) (8 - p % 8)) (hp : p < B.length + n) :
    Adds B x n (l.set (p / 8) (mix (l.getD (p / 8) 0) x (B.length + n - p - k) (8 - p % 8 - k))) (p + k) := by
  obtain ⟨h1, h2, h3, h4, h5⟩ := h
  have hj : p / 8 < l.length := by omega
  refine ⟨by rw [List.length_set]; exact h1, by omega, by omega, by omega, fun i hi => ?_⟩
  rw [List.length_set] at hi
  have h5i := h5 i hi
  rw [at_set _ _ _ _ hj]
  by_cases hb : i / 8 = p / 8
  · rw [if_pos hb, mix_bit _ _ _ _ _ (by omega)]
    have hat : (l.getD (p / 8) 0).toNat.testBit (7 - i % 8) = at_ l i := by unfold at_; rw [hb]
    rw [hat, h5i]
    by_cases hi1 : i < B.length
    · rw [if_pos hi1, if_pos hi1]
      by_cases ht : 8 - p % 8 - k ≤ 7 - i % 8
      · rw [testBit_high hx (by omega)]; simp
      · simp [ht]
    · rw [if_neg hi1, if_neg hi1]
      by_cases hip : i < p
      · rw [decide_eq_true hip, decide_eq_true (show i < p + k by omega)]
        omega
      · rw [decide_eq_false hip, Bool.false_and, Bool.false_or]
        by_cases hik : i < p + k
        · rw [decide_eq_true hik, decide_eq_true (show 8 - p % 8 - k ≤ 7 - i % 8 by omega)]
          congr 2
          omega
        · rw [decide_eq_false hik, decide_eq_false (show ¬ 8 - p % 8 - k ≤ 7 - i % 8 by omega)]
          rfl
  · rw [if_neg hb, h5i]
    by_cases hi1 : i < B.length
    · rw [if_pos hi1, if_pos hi1]
    · rw [if_neg hi1, if_neg hi1]
      by_cases hip : i < p
      · rw [decide_eq_true hip, decide_eq_true (show i < p + k by omega)]
      · rw [decide_eq_false hip, decide_eq_false (show ¬ i < p + k by omega)]
/-- A piece of a byte that is read. -/
theorem val_byte (l : List UInt8) (p m : Nat) (h : p % 8 + m ≤ 8) : val (fun i => at_ l (p + i)) m = (l.getD (p / 8) 0).toNat / 2 ^ (8 - p % 8 - m) % 2 ^ m := by
  rw [← val_down _ (8 - p % 8) m (by omega)]
  refine val_congr m fun i hi => ?_
  unfold at_
  rw [show (p + i) / 8 = p / 8 by omega, show 7 - (p + i) % 8 = 8 - p % 8 - 1 - i by omega]
end Bit
end Go.Proofs.Ytjpmabdnaooglaa

namespace Go.Proofs.Ytjpmabdnaooglaa
open Go.RowKit

/-- Block g is just these cells, none of them frozen. -/
def Whole (w : World) (g : Nat) (t : TypeId) (cs : Array Value) : Prop := w.heap[g]? = some (.cells cs t (0, 0))
section
variable {w W : World} {g : Nat} {t : TypeId} {cs : Array Value}
theorem Whole.lt (h : Whole w g t cs) : g < w.heap.size := (Array.getElem?_eq_some_iff.1 h).1
theorem Whole.cell (h : Whole w g t cs) (i : Nat) : w.cell? ⟨g, i, none⟩ = cs[i]? := cell_of_row w g i cs t (0, 0) h
theorem Whole.frozen (h : Whole w g t cs) (i : Nat) : w.frozen? ⟨g, i, none⟩ = false := frozen_of_row w g i cs t h
theorem Whole.new (w : World) (t : TypeId) (cs : Array Value) : Whole (w.alloc (.cells cs t)) w.heap.size t cs := heap_alloc_new w _
theorem Whole.alloc (h : Whole w g t cs) (o : Obj) : Whole (w.alloc o) g t cs := (Below.heap_alloc w o g h.lt).trans h
theorem Whole.set (h : Whole w g t cs) (i : Nat) (u : Value) : Whole (w.setCell ⟨g, i, none⟩ u) g t (cs.setIfInBounds i u) := heap_setCell_same w g i cs t u h
theorem Whole.far (h : Whole w g t cs) {b : Nat} (hb : g ≠ b) (i : Nat) (u : Value) : Whole (w.setCell ⟨b, i, none⟩ u) g t cs := (Below.heap_setCell w ⟨b, i, none⟩ u g hb).trans h
theorem Whole.ext (h : Whole w g t cs) (hE : Ext w W) : Whole W g t cs := (hE.block g h.lt).trans h
theorem Whole.below {B : Nat} (h : Whole w g t cs) (hE : Below B w W) (hg : g < B) : Whole W g t cs := (hE.block g hg).trans h
theorem Whole.grown (h : Whole w g t cs) {b : Nat} (hE : w.grownBy W (some b)) (hb : g ≠ b) : Whole W g t cs := (hE.block g h.lt (by simpa using hb)).trans h
end
theorem setCells_grown (g : Nat) : ∀ (vs : List Value) (o : Nat) (w : World), w.grownBy (w.setCells g o vs) (some g) ∧ (w.setCells g o vs).heap.size = w.heap.size
  | [], _, w => ⟨World.grownBy.refl w _, rfl⟩
  | v :: r, o, w => by
    have h1 : w.grownBy (w.setCell ⟨g, o, none⟩ v) (some g) := ⟨rfl, rfl, rfl, by simp, fun k _ hk => Below.heap_setCell w ⟨g, o, none⟩ v k (fun e => hk (by rw [e]))⟩
    obtain ⟨h2, h3⟩ := setCells_grown g r (o + 1) (w.setCell ⟨g, o, none⟩ v)
    exact ⟨h1.trans h2, by show ((w.setCell ⟨g, o, none⟩ v).setCells g (o + 1) r).heap.size = _; rw [h3]; simp⟩
theorem Whole.setCells {g : Nat} {t : TypeId} : ∀ (vs : List Value) (o : Nat) (w : World) (cs : Array Value), Whole w g t cs → o + vs.length ≤ cs.size →
    ∃ cs', Whole (w.setCells g o vs) g t cs' ∧ cs'.size = cs.size ∧ (∀ i, i < o → cs'[i]? = cs[i]?) ∧ ∀ j, j < vs.length → cs'[o + j]? = vs[j]?
  | [], _, _, cs, h, _ => ⟨cs, h, rfl, fun _ _ => rfl, fun j hj => by simp at hj⟩
  | v :: r, o, w, cs, h, hl => by
    simp only [List.length_cons] at hl
    obtain ⟨cs', h1, h2, h3, h4⟩ := Whole.setCells r (o + 1) (w.setCell ⟨g, o, none⟩ v) _ (h.set o v) (by simp; omega)
    refine ⟨cs', h1, by simpa using h2, fun i hi => by rw [h3 i (by omega), Array.getElem?_setIfInBounds_ne (by omega)], fun j hj => ?_⟩
    rcases j with _ | j
    · rw [Nat.add_zero, h3 o (by omega), Array.getElem?_setIfInBounds_self_of_lt (by omega)]
      rfl
    · rw [show o + (j + 1) = o + 1 + j by omega, h4 j (by simpa using hj)]
      rfl
theorem Whole.storeAll {w : World} {g : Nat} {t : TypeId} {cs cells : Array Value} (h : Whole w g t cs) (hs : cells.size = cs.size) : Whole (w.setCells g 0 cells.toList) g t cells := by
  obtain ⟨cs', h1, h2, _, h4⟩ := Whole.setCells cells.toList 0 w cs h (by simp [hs])
  have : cs' = cells := by
    apply Array.ext_getElem?
    intro i
    by_cases hi : i < cells.size
    · have := h4 i (by simpa using hi)
      rw [Nat.zero_add] at this
      rw [this]; simp
    · rw [Array.getElem?_eq_none (by omega), Array.getElem?_eq_none (by omega)]
  rwa [this] at h1
/-- An element of an array as a value. -/
theorem run_indexArr {P : Program} (t e : TypeId) (n : Nat) (cs : Array Value) (k : IntKind) (i : Nat) (v : Value) (W : World) (ht : P.underlying t = some (.array n e)) (hn : i < n) (hs : ∀ W, (sizeOf e).run P W = .ok 1 W) (ha : ∀ W, (isAgg e).run P W = .ok false W) (hv : cs[i]? = some v) :
    (Instr.index t (.agg cs) (.int k (i : Int))).run P W = .ok v W := by
  have h1 : (0 : Int) ≤ (i : Int) ∧ (i : Int) < (n : Int) := by omega
  simp [Instr.index, asIntOf, run_underlying ht, h1, hs, part, ha, hv]
  exact fun h => absurd hn (by omega)
/-- A whole array stored into a block that is known whole. -/
theorem wpList_storeW {P : Program} {ops : Array Oper} {rest : List Oper} {op : Oper} {a : Act} {w : World} {Q : Exit → Act → World → Prop} (hgd : op.guard = none) (ty : TypeId) (x y : Operand) (ho : op.op = .store ty x y)
    {g : Nat} {t : TypeId} {cs cells : Array Value} (hx : a.eval x = .pointer (some ⟨g, 0, none⟩)) (hy : a.eval y = .agg cells) (hw : Whole w g t cs) (hs : cells.size = cs.size)
    (hi : (P.info? ty).map (·.size) = some cells.size) (h1 : cells.all (·.oneCell') = true)
    (h : ∀ w', Whole w' g t cells → w.grownBy w' (some g) → w'.heap.size = w.heap.size → wpList P ops Q rest (a.put op.dst undef) w') : wpList P ops Q (op :: rest) a w := by
  refine wpList_store_mid hgd ty x y ho g 0 cells hx hy (fun j hj => ?_) hi h1 (h _ (hw.storeAll hs) (setCells_grown g _ _ _).1 (setCells_grown g _ _ _).2)
  rw [Nat.zero_add]
  refine ⟨?_, hw.frozen j⟩
  rw [hw.cell j, Array.getElem?_eq_getElem (by omega)]
  rfl
end Go.Proofs.Ytjpmabdnaooglaa

namespace Go.Proofs.Ytjpmabdnaooglaa
open Go.RowKit

theorem ret_i64 {a b : Int} (h : a = b) : Ending.returned (.int .i64 a) = .returned (.int .i64 b) := by rw [h]
/-- Everything that was there is there as it was, but block g and block ob. -/
structure Mod (w w' : World) (g : Nat) (ob : Option Nat) : Prop where
  os : w'.os = w.os
  tape : w'.tape = w.tape
  output : w'.output = w.output
  size : w.heap.size ≤ w'.heap.size
  block : ∀ k, k < w.heap.size → k ≠ g → some k ≠ ob → w'.heap[k]? = w.heap[k]?
/-- The own block is the one that it was, or was made since. -/
def NewOb (w : World) (ob ob' : Option Nat) : Prop := ob' = ob ∨ ∃ n, ob' = some n ∧ w.heap.size ≤ n
theorem NewOb.same (w : World) (ob : Option Nat) : NewOb w ob ob := .inl rfl
theorem NewOb.trans {a b : World} {o1 o2 o3 : Option Nat} (h : NewOb a o1 o2) (hs : a.heap.size ≤ b.heap.size) (k : NewOb b o2 o3) : NewOb a o1 o3 := by
  rcases k with rfl | ⟨n, rfl, hn⟩
  · exact h
  · exact .inr ⟨n, rfl, by omega⟩
theorem NewOb.ne {w : World} {ob ob' : Option Nat} (h : NewOb w ob ob') {g : Nat} (hg : g < w.heap.size) (ho : ob ≠ some g) : ob' ≠ some g := by
  rcases h with rfl | ⟨n, rfl, hn⟩
  · exact ho
  · intro e
    injection e with e
    omega
theorem NewOb.le {w : World} {ob ob' : Option Nat} (h : NewOb w ob ob') {b : Nat} (hb : b ≤ w.heap.size) (ho : ∀ k, ob = some k → b ≤ k) : ∀ k, ob' = some k → b ≤ k := by
  rcases h with rfl | ⟨n, rfl, hn⟩
  · exact ho
  · intro k e
    injection e with e
    omega
section
variable {a b c w w' : World} {g : Nat} {ob ob' : Option Nat}
theorem Mod.refl (w : World) (g : Nat) (ob : Option Nat) : Mod w w g ob := ⟨rfl, rfl, rfl, Nat.le_refl _, fun _ _ _ _ => rfl⟩
theorem Mod.trans (h : Mod a b g ob) (k : Mod b c g ob') (ho : NewOb a ob ob') : Mod a c g ob :=
  ⟨k.os.trans h.os, k.tape.trans h.tape, k.output.trans h.output, Nat.le_trans h.size k.size, fun i hi hg hb =>
    (k.block i (Nat.lt_of_lt_of_le hi h.size) hg (fun e => ho.ne hi (fun e' => hb e'.symm) e.symm)).trans (h.block i hi hg hb)⟩
theorem Mod.ofRow (h : w.grownBy w' (some g)) : Mod w w' g ob := ⟨h.os, h.tape, h.output, h.size, fun k hk hg _ => h.block k hk (fun e => hg (by injection e))⟩
theorem Mod.ofOwn (h : w.grownBy w' ob) : Mod w w' g ob := ⟨h.os, h.tape, h.output, h.size, fun k hk _ ho => h.block k hk ho⟩
theorem Mod.ofExt (h : Ext w w') : Mod w w' g ob := ⟨h.os, h.tape, h.output, h.size, fun k hk _ _ => h.block k hk⟩
theorem Mod.drew (w : World) : Mod w w.drew g ob := Mod.ofExt (Ext.refl w).drew
theorem Mod.below (h : Mod a b g ob) {B : Nat} (hB : B ≤ a.heap.size) (hg : B ≤ g) (ho : ∀ k, ob = some k → B ≤ k) : Below B a b :=
  ⟨h.os, h.tape, h.output, h.size, fun k hk => h.block k (by omega) (by omega) (fun e => by have := ho k e.symm; omega)⟩
theorem Mod.whole (h : Mod w w' g ob) {x : Nat} {t : TypeId} {cs : Array Value} (hw : Whole w x t cs) (hg : x ≠ g) (ho : ob ≠ some x) : Whole w' x t cs := (h.block x hw.lt hg (fun e => ho e.symm)).trans hw
theorem Mod.own (h : Mod w w' g ob) {base : Nat} {v : Value} {l : List UInt8} (hv : OwnB w base v l) (hg : v.ownBlock ≠ some g) (ho : v.ownBlock = none ∨ v.ownBlock ≠ ob) : OwnB w' base v l := by
  refine ⟨hv.1, ?_⟩
  rcases hv.2 with hn | ⟨x, cap, cur, rfl, hb, hgg, rest⟩
  · exact .inl hn
  · refine .inr ⟨x, cap, cur, rfl, hb, ?_, rest⟩
    rw [h.block x (Array.getElem?_eq_some_iff.1 hgg).1 (by intro e; subst e; simp [Value.ownBlock] at hg) (by
      intro e
      rcases ho with ho | ho
      · simp [Value.ownBlock] at ho
      · exact ho (by simpa [Value.ownBlock] using e))]
    exact hgg
theorem Mod.cell (h : Mod w w' g ob) {x i : Nat} (hx : x < w.heap.size) (hg : x ≠ g) (ho : ob ≠ some x) : w'.cell? ⟨x, i, none⟩ = w.cell? ⟨x, i, none⟩ :=
  World.cell?_of_block (a := ⟨x, i, none⟩) (h.block x hx hg (fun e => ho e.symm))
end
theorem OwnB.newOb {w : World} {base : Nat} {v : Value} {l : List UInt8} (h : OwnB w base v l) : ∀ k, v.ownBlock = some k → base ≤ k := fun k hk => (h.lt k hk).1
theorem OwnB.ltOb {w : World} {base : Nat} {v : Value} {l : List UInt8} (h : OwnB w base v l) : ∀ k, v.ownBlock = some k → k < w.heap.size := fun k hk => (h.lt k hk).2
theorem OwnB.far {w : World} {base g : Nat} {v : Value} {l : List UInt8} (h : OwnB w base v l) (hg : v.ownBlock ≠ some g) (i : Nat) (u : Value) : OwnB (w.setCell ⟨g, i, none⟩ u) base v l :=
  (Mod.ofRow (ob := none) (show w.grownBy (w.setCell ⟨g, i, none⟩ u) (some g) from ⟨rfl, rfl, rfl, by simp, fun k _ hk => Below.heap_setCell w ⟨g, i, none⟩ u k (fun e => hk (by rw [e]))⟩)).own h hg (by cases v.ownBlock <;> simp)
theorem grown_setCell (w : World) (g i : Nat) (u : Value) : w.grownBy (w.setCell ⟨g, i, none⟩ u) (some g) := ⟨rfl, rfl, rfl, by simp, fun k _ hk => Below.heap_setCell w ⟨g, i, none⟩ u k (fun e => hk (by rw [e]))⟩

/-- append of bytes, wherever they lie; where what comes back lies. -/
theorem app_run_at {w : World} (ty : TypeId) {base : Nat} {v : Value} {l : List UInt8} (hown : OwnB w base v l) {A : Option Addr} {m : Nat} {k : List UInt8} (c : Nat) (hb : Bytes w w.heap.size A m k)
    (hlen : l.length + m ≤ 140737488355328) (hbase : base ≤ w.heap.size) :
    ∃ v' w', (Builtin.append_ #[22, 22] ty #[v, .slice A m c]).run Try.prog w = .ok v' w' ∧ OwnB w' base v' (l ++ k) ∧ w.grownBy w' v.ownBlock ∧ NewOb w v.ownBlock v'.ownBlock := by
  obtain ⟨hk, hb⟩ := hb
  rcases hb with rfl | ⟨b, off, rfl, hB, hc⟩
  · obtain rfl := List.eq_nil_of_length_eq_zero hk
    exact ⟨v, w, run_append_zero w ty base v l hown A c, by simpa using hown, World.grownBy.refl w _, .inl rfl⟩
  · obtain ⟨i, hi, hz, hs, hby⟩ := info_parts byte_info
    obtain ⟨v', w', hr, h2, h3, _, h5⟩ := run_append_own_at (P := Try.prog) w base 22 ty 5 i _ 1 1 Try.underlying22 hi hz hs hby rfl (by omega) v l.length (l.map byteV) hown
      ⟨b, off, none⟩ m c (k.map byteV) (by simpa using hk) (by
        intro j u hu
        have hj : j < m := by
          rcases Nat.lt_or_ge j m with h | h
          · exact h
          · rw [List.getElem?_eq_none (by simp; omega)] at hu; cases hu
        have hadd : (⟨b, off, none⟩ : Addr).add j = ⟨b, off + j, none⟩ := by unfold Addr.add; split <;> simp_all
        rw [hadd, hc j hj]
        rw [List.getElem?_map, List.getElem?_eq_getElem (by omega)] at hu
        rw [List.getD_eq_getElem?_getD, List.getElem?_eq_getElem (by omega)]
        simpa [byteV] using hu) (by
        intro u hu
        obtain ⟨x, _, rfl⟩ := List.mem_map.1 hu
        rfl) (by unfold maxLen; omega) (by omega) hbase
    refine ⟨v', w', hr, ?_, h3, h5.imp id fun h => ⟨_, h, Nat.le_refl _⟩⟩
    unfold OwnB
    rw [List.length_append, hk, List.map_append]
    exact h2
theorem zeroCells_byte (n : Nat) : Builtin.zeroCells (Value.int .u8 0).cells n = ((List.replicate n (0 : UInt8)).map byteV).toArray := by
  apply Array.ext
  · rw [size_zeroCells]; simp [Value.cells]
  · intro i h1 h2
    simp [Builtin.zeroCells, Value.cells, byteV, Nat.mod_one]
/-- append of n bytes 0. -/
theorem app_zero_run {w : World} (ty : TypeId) {base : Nat} {v : Value} {l : List UInt8} (hown : OwnB w base v l) (n : Nat) (hlen : l.length + n ≤ 140737488355328) (hbase : base ≤ w.heap.size) :
    ∃ v' w', (Builtin.append_ #[22, 3] ty #[v, .int .i64 n]).run Try.prog w = .ok v' w' ∧ OwnB w' base v' (l ++ List.replicate n 0) ∧ w.grownBy w' v.ownBlock ∧ NewOb w v.ownBlock v'.ownBlock := by
  obtain ⟨i, hi, hz, hs, hby⟩ := info_parts byte_info
  have hw : IntKind.i64.wrap (n : Int) = n := by rw [IntKind.wrap_i64]; omega
  have hneg : ¬ ((n : Int) < 0) := by omega
  have hw0 : IntKind.i64.wrap 0 = 0 := by rw [IntKind.wrap_i64]; omega
  have h48i : ¬ (281474976710656 < (n : Int)) := by omega
  have hsz : Try.prog.info? 5 = some i := hi
  -- what the growing arm leaves
  have grown : ∀ (old : Nat), old < l.length + n → ∀ (row : Option Nat),
      OwnB (w.drew.alloc (.cells ((l.map byteV).toArray ++ Builtin.zeroCells (Value.int .u8 0).cells n ++ Builtin.zeroCells (Value.int .u8 0).cells (grownCap w (l.length + n) old 5 - (l.length + n))) 5)) base
        (.slice (some ⟨w.heap.size, 0, none⟩) (l.length + n) (grownCap w (l.length + n) old 5)) (l ++ List.replicate n 0) ∧
      w.grownBy (w.drew.alloc (.cells ((l.map byteV).toArray ++ Builtin.zeroCells (Value.int .u8 0).cells n ++ Builtin.zeroCells (Value.int .u8 0).cells (grownCap w (l.length + n) old 5 - (l.length + n))) 5)) row := by
    intro old ho row
    have hge := grownCap_ge w (l.length + n) old 5
    have hcm : grownCap w (l.length + n) old 5 ≤ maxLen := grownCap_le_maxLen w (l.length + n) old 5 (by unfold maxLen; omega)
    refine ⟨?_, ⟨rfl, rfl, rfl, by simp, fun k hk _ => Below.heap_alloc w.drew _ k hk⟩⟩
    unfold OwnB
    rw [List.length_append, List.length_replicate]
    refine ⟨by simp, .inr ⟨w.heap.size, _, _, rfl, hbase, heap_alloc_new w.drew _, hge, hcm, ?_, ?_⟩⟩
    · simp only [Array.size_append, size_zeroCells]
      simp [Value.cells]
      omega
    · rw [zeroCells_byte n, List.map_append]
      simp only [Array.toList_append, Nat.mul_one]
      rw [List.take_append_of_le_length (by simp), List.take_of_length_le (by simp)]
  rcases hown.2 with ⟨rfl, h0⟩ | ⟨g, cap, cur, rfl, hbg, hg, hnc, hcm, hcs, htake⟩
  · have hl : l = [] := List.eq_nil_of_length_eq_zero h0
    subst hl
    by_cases hn : n = 0
    · subst hn
      refine ⟨.slice none 0 0, w, ?_, by simpa using hown, World.grownBy.refl w _, .inl rfl⟩
      simp [Builtin.append_, run_underlying Try.underlying22, run_underlying Try.underlying3, sizeOf, typeInfo, hsz, asInt, asIntOf, hby, hw0]
    · have h48' : ¬ (281474976710656 < Builtin.nextslicecap n 0) := by rw [nextslicecap_zero (by omega)]; omega
      have h63' : ¬ (9223372036854775807 < (n : Int)) := by omega
      have hgr := grown 0 (by simp; omega) (Value.ownBlock (.slice none 0 0))
      simp only [List.length_nil, Nat.zero_add, List.map_nil, List.nil_append, Array.empty_append] at hgr ⊢
      refine ⟨_, _, ?_, hgr.1, hgr.2, .inr ⟨_, rfl, Nat.le_refl _⟩⟩
      simp [Builtin.append_, run_underlying Try.underlying22, run_underlying Try.underlying3, sizeOf, typeInfo, zeroValue, hsz, hz, asInt, asIntOf, hs, hby, hw, hneg, h48i, hn, h48', h63', Question.forced, run_firstCells_none, newRow, grownCap]
  · by_cases hroom : l.length + n ≤ cap
    · by_cases hn : n = 0
      · subst hn
        refine ⟨_, w, ?_, by simpa using hown, World.grownBy.refl w _, .inl rfl⟩
        simp [Builtin.append_, run_underlying Try.underlying22, run_underlying Try.underlying3, sizeOf, typeInfo, hsz, asInt, asIntOf, hw0, hnc, storeCells]
      have hst := run_storeCells_at Try.prog g l.length 5 ((List.replicate n (0 : UInt8)).map byteV) 0 cur w hg (by simp; omega) (by
        intro u hu
        obtain ⟨x, _, rfl⟩ := List.mem_map.1 hu
        rfl)
      have hsr := setRow_heap w g cur ((cur.toList.take (l.length + 0) ++ (List.replicate n (0 : UInt8)).map byteV ++ cur.toList.drop (l.length + 0 + ((List.replicate n (0 : UInt8)).map byteV).length)).toArray) _ _ hg
      have hzc : (Builtin.zeroCells (Value.int .u8 0).cells n).toList = (List.replicate n (0 : UInt8)).map byteV := by rw [zeroCells_byte]
      refine ⟨.slice (some ⟨g, 0, none⟩) (l.length + n) cap, w.setRow g ((cur.toList.take (l.length + 0) ++ (List.replicate n (0 : UInt8)).map byteV ++ cur.toList.drop (l.length + 0 + ((List.replicate n (0 : UInt8)).map byteV).length)).toArray), ?_, ?_,
        ⟨rfl, rfl, rfl, by simp, fun k _ hk => setRow_other w g k _ (fun e => hk (by simp [Value.ownBlock, e]))⟩, .inl rfl⟩
      · simp [Builtin.append_, run_underlying Try.underlying22, run_underlying Try.underlying3, sizeOf, typeInfo, zeroValue, hsz, hz, asInt, asIntOf, hs, hby, hw, hneg, h48i, hn, hroom, Addr.add_lit, hzc, -List.map_replicate]
        rw [hst]
        simp [-List.map_replicate]
      · unfold OwnB
        rw [List.length_append, List.length_replicate]
        refine ⟨by simp, .inr ⟨g, cap, _, rfl, hbg, hsr, hroom, hcm, ?_, ?_⟩⟩
        · simp; omega
        · rw [Nat.mul_one] at htake
          rw [Nat.add_zero, htake, List.map_append, Nat.mul_one]
          rw [List.take_append_of_le_length (by simp), List.take_of_length_le (by simp)]
    · have hlo : (l.map byteV).length = l.length * i.size := by rw [hs]; simp
      have hfo := run_firstCells_some (P := Try.prog) w.drew i.size l.length ⟨g, 0, none⟩ l.length cap (l.map byteV) hlo (by simpa using hown.cells (g := g) rfl)
      have hgr := grown cap (by omega) (Value.ownBlock (.slice (some ⟨g, 0, none⟩) l.length cap))
      have hn : n ≠ 0 := by omega
      have h63' : ¬ (9223372036854775807 < ((l.length : Int) + (n : Int))) := by omega
      have h48' : ¬ (281474976710656 < Builtin.nextslicecap (l.length + n) cap) := by
        have := growslice_fits (need := l.length + n) (old := cap) (bytes := 1) (by omega) (by omega)
        omega
      refine ⟨_, _, ?_, hgr.1, hgr.2, .inr ⟨_, rfl, Nat.le_refl _⟩⟩
      simp [Builtin.append_, run_underlying Try.underlying22, run_underlying Try.underlying3, sizeOf, typeInfo, zeroValue, hsz, hz, asInt, asIntOf, hs, hby, hw, hneg, h48i, hn, hroom, h63', h48', Question.forced, newRow, grownCap]
      rw [hs] at hfo
      simp [hfo]
section
variable {o : Oper} {a : Act} {K : Act → World → Prop} {Q : Exit → Act → World → Prop} {w : World} {base : Nat} {v : Value} {l : List UInt8}
theorem wp_appAt (s x : Operand) (ho : o.op = .call { callee := .builtin .append, args := #[s, x], argTypes := #[22, 22] }) (hs : a.eval s = v) (hown : OwnB w base v l)
    {A : Option Addr} {m c : Nat} {k : List UInt8} (hx : a.eval x = .slice A m c) (hb : Bytes w w.heap.size A m k) (hlen : l.length + m ≤ 140737488355328) (hbase : base ≤ w.heap.size)
    (h : ∀ v' w', OwnB w' base v' (l ++ k) → w.grownBy w' v.ownBlock → NewOb w v.ownBlock v'.ownBlock → K (a.put o.dst v') w') : o.wp Try.prog a w K Q := by
  obtain ⟨v', w', hr, h2, h3, h4⟩ := app_run_at o.type hown c hb hlen hbase
  unfold Oper.wp execOp
  simp only [ho, resolve, invoke, builtin, Sem.run_bind, Sem.run_pure, Result.andThen_ok, List.map_toArray, List.map_cons, List.map_nil, hs, hx, hr]
  exact h v' w' h2 h3 h4
theorem wp_zerosAt (s x : Operand) (ho : o.op = .call { callee := .builtin .append, args := #[s, x], argTypes := #[22, 3] }) (hs : a.eval s = v) (hown : OwnB w base v l)
    (n : Nat) (hx : a.eval x = .int .i64 n) (hlen : l.length + n ≤ 140737488355328) (hbase : base ≤ w.heap.size)
    (h : ∀ v' w', OwnB w' base v' (l ++ List.replicate n 0) → w.grownBy w' v.ownBlock → NewOb w v.ownBlock v'.ownBlock → K (a.put o.dst v') w') : o.wp Try.prog a w K Q := by
  obtain ⟨v', w', hr, h2, h3, h4⟩ := app_zero_run o.type hown n hlen hbase
  unfold Oper.wp execOp
  simp only [ho, resolve, invoke, builtin, Sem.run_bind, Sem.run_pure, Result.andThen_ok, List.map_toArray, List.map_cons, List.map_nil, hs, hx, hr]
  exact h v' w' h2 h3 h4
theorem wpList_appAt {ops : Array Oper} {rest : List Oper} (hgd : o.guard = none) (s x : Operand) (ho : o.op = .call { callee := .builtin .append, args := #[s, x], argTypes := #[22, 22] }) (hs : a.eval s = v) (hown : OwnB w base v l)
    {A : Option Addr} {m c : Nat} {k : List UInt8} (hx : a.eval x = .slice A m c) (hb : Bytes w w.heap.size A m k) (hlen : l.length + m ≤ 140737488355328) (hbase : base ≤ w.heap.size)
    (h : ∀ v' w', OwnB w' base v' (l ++ k) → w.grownBy w' v.ownBlock → NewOb w v.ownBlock v'.ownBlock → wpList Try.prog ops Q rest (a.put o.dst v') w') : wpList Try.prog ops Q (o :: rest) a w :=
  wpList_plain hgd fun _ hK => wp_appAt s x ho hs hown hx hb hlen hbase fun v' w' h2 h3 h4 => hK _ _ (h v' w' h2 h3 h4)
theorem step_appAt {ops : Array Oper} {E : Prop} (hgd : o.guard = none) (s x : Operand) (ho : o.op = .call { callee := .builtin .append, args := #[s, x], argTypes := #[22, 22] }) (hs : a.eval s = v) (hown : OwnB w base v l)
    {A : Option Addr} {m c : Nat} {k : List UInt8} (hx : a.eval x = .slice A m c) (hb : Bytes w w.heap.size A m k) (hlen : l.length + m ≤ 140737488355328) (hbase : base ≤ w.heap.size)
    (h : ∀ v' w', OwnB w' base v' (l ++ k) → w.grownBy w' v.ownBlock → NewOb w v.ownBlock v'.ownBlock → K (a.put o.dst v') w') :
    if Region.wanted o (yielded ops a.tmps) = true then Oper.wp Try.prog o a w K Q else E := by
  have hw : Region.wanted o (yielded ops a.tmps) = true := by simp [Region.wanted, hgd]
  rw [if_pos hw]
  exact wp_appAt s x ho hs hown hx hb hlen hbase h
theorem step_zerosAt {ops : Array Oper} {E : Prop} (hgd : o.guard = none) (s x : Operand) (ho : o.op = .call { callee := .builtin .append, args := #[s, x], argTypes := #[22, 3] }) (hs : a.eval s = v) (hown : OwnB w base v l)
    (n : Nat) (hx : a.eval x = .int .i64 n) (hlen : l.length + n ≤ 140737488355328) (hbase : base ≤ w.heap.size)
    (h : ∀ v' w', OwnB w' base v' (l ++ List.replicate n 0) → w.grownBy w' v.ownBlock → NewOb w v.ownBlock v'.ownBlock → K (a.put o.dst v') w') :
    if Region.wanted o (yielded ops a.tmps) = true then Oper.wp Try.prog o a w K Q else E := by
  have hw : Region.wanted o (yielded ops a.tmps) = true := by simp [Region.wanted, hgd]
  rw [if_pos hw]
  exact wp_zerosAt s x ho hs hown n hx hlen hbase h
end
theorem Whole.at {w : World} {g : Nat} {t : TypeId} {cs : Array Value} (h : Whole w g t cs) (i : Nat) {u : Value} (hu : cs[i]? = some u) : w.cell? ⟨g, i, none⟩ = some u := (h.cell i).trans hu
theorem Whole.ownGrown {w w' : World} {g : Nat} {t : TypeId} {cs : Array Value} {ob : Option Nat} (h : Whole w g t cs) (hG : w.grownBy w' ob) (ho : ob ≠ some g) : Whole w' g t cs := (hG.block g h.lt (fun e => ho e.symm)).trans h
/-- A value of one cell stored into a block that is known whole. -/
theorem wpList_storeC {ops : Array Oper} {rest : List Oper} {o : Oper} {a : Act} {w : World} {Q : Exit → Act → World → Prop} (hgd : o.guard = none) (ty : TypeId) (x y : Operand) (ho : o.op = .store ty x y)
    {g i : Nat} {t : TypeId} {cs : Array Value} (cs' : Array Value) {u : Value} (hx : a.eval x = .pointer (some ⟨g, i, none⟩)) (hy : a.eval y = u) (hw : Whole w g t cs) (hi : i < cs.size)
    (hs : (Try.prog.info? ty).map (·.size) = some 1) (h1 : u.oneCell' = true) (hcells : u.cells = #[u]) (hcs : cs.setIfInBounds i u = cs')
    (h : ∀ w', Whole w' g t cs' → w.grownBy w' (some g) → wpList Try.prog ops Q rest (a.put o.dst undef) w') : wpList Try.prog ops Q (o :: rest) a w := by
  subst hcs
  refine wpList_plain hgd fun _ hK => ?_
  have hst := run_storeCells_at Try.prog g i t [u] 0 cs w hw (by simp; omega) (fun x hx => by simp at hx; subst hx; exact h1)
  unfold Oper.wp execOp
  cases hq : Try.prog.info? ty with
  | none => simp [hq] at hs
  | some d =>
    have hs' : d.size = 1 := by simpa [hq] using hs
    have hr : (storeVar ty ⟨g, i, none⟩ u).run Try.prog w = .ok () (w.setRow g (cs.toList.take (i + 0) ++ [u] ++ cs.toList.drop (i + 0 + [u].length)).toArray) := by
      simp only [storeVar, sizeOf, typeInfo, hcells]
      simpa [hq, hs'] using hst
    simp only [ho, hx, hy, Instr.storeAt, Instr.sureAddr, Sem.run_bind, Sem.run_pure, Result.andThen_ok, hr]
    refine hK _ _ (h _ ?_ ⟨rfl, rfl, rfl, by simp, fun k _ hk => setRow_other w g k _ (fun e => hk (by simp [e]))⟩)
    have e : (cs.toList.take (i + 0) ++ [u] ++ cs.toList.drop (i + 0 + [u].length)).toArray = cs.setIfInBounds i u := by
      apply Array.ext'
      rw [Array.toList_setIfInBounds, List.set_eq_take_append_cons_drop, if_pos (by simpa using hi)]
      simp
    rw [e]
    exact setRow_heap w g cs _ _ _ hw
/-- 'min' of two numbers, with its value named. -/
theorem wpList_min {ops : Array Oper} {rest : List Oper} {o : Oper} {a : Act} {w : World} {Q : Exit → Act → World → Prop} (hgd : o.guard = none) (x y : Operand) {ts : Array TypeId} (ho : o.op = .call { callee := .builtin .min, args := #[x, y], argTypes := ts })
    {p q r : Int} {k : IntKind} (hx : a.eval x = .int k p) (hy : a.eval y = .int k q) (hr : (if q < p then q else p) = r) (h : wpList Try.prog ops Q rest (a.put o.dst (.int k r)) w) : wpList Try.prog ops Q (o :: rest) a w := by
  subst hr
  refine wpList_plain hgd fun _ hK => ?_
  unfold Oper.wp execOp
  simp only [ho, resolve, invoke, builtin, Sem.run_bind, Sem.run_pure, Result.andThen_ok, List.map_toArray, List.map_cons, List.map_nil, hx, hy, run_min_int2]
  exact hK _ _ h
/-- The world is as it was, but for what was drawn. -/
def Qt (w w' : World) : Prop := ∃ m, w' = w.drewN m
theorem Qt.refl (w : World) : Qt w w := ⟨0, rfl⟩
theorem Qt.drewN {a b : World} (h : Qt a b) (n : Nat) : Qt a (b.drewN n) := by
  obtain ⟨m, rfl⟩ := h
  exact ⟨m + n, World.drewN_drewN a m n⟩
theorem Qt.ext {a b : World} (h : Qt a b) : Ext a b := by
  obtain ⟨m, rfl⟩ := h
  exact (Ext.refl a).drewN m
theorem Qt.trans {a b c : World} (h : Qt a b) (k : Qt b c) : Qt a c := by
  obtain ⟨m, rfl⟩ := k
  exact h.drewN m
/-- 'b[l:h]'. -/
theorem run_mid (W : World) (a : Option Addr) (n c : Nat) (k k' : IntKind) (l h : Int) (h0 : 0 ≤ l) (h1 : l ≤ h) (h2 : h ≤ c) :
    (Instr.slice 22 (.slice a n c) (some (.int k l)) (some (.int k' h)) none).run Try.prog W = .ok (.slice (cutAt a c l.toNat) (h.toNat - l.toNat) (c - l.toNat)) W := by
  rw [run_slice_lh (P := Try.prog) (w := W) 22 a n c (by kernel_rfl) k k' l h h0 h1 h2]
  have hs : (sizeOf (Try.prog.elem 22)).run Try.prog W = .ok 1 W := by kernel_rfl
  rw [hs]
  simp [Result.andThen, sliced, cutAt]
end Go.Proofs.Ytjpmabdnaooglaa

