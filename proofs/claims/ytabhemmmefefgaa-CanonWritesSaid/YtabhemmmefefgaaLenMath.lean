/- Packages that are merged: why the lengths that they say cost least. Plain mathematics of chapter 7. -/
import Derived.Test.YtabhemmmefefgaaRows
namespace Go.Proofs.Ytabhemmmefefgaa.Len

/-- The sum of n numbers. -/
def sumN : Nat → (Nat → Nat) → Nat
  | 0, _ => 0
  | n + 1, f => sumN n f + f n
theorem sumN_congr : ∀ {n : Nat} {f g : Nat → Nat}, (∀ i, i < n → f i = g i) → sumN n f = sumN n g
  | 0, _, _, _ => rfl
  | n + 1, f, g, h => by rw [sumN, sumN, sumN_congr (fun i hi => h i (by omega)), h n (by omega)]
theorem sumN_le : ∀ {n : Nat} {f g : Nat → Nat}, (∀ i, i < n → f i ≤ g i) → sumN n f ≤ sumN n g
  | 0, _, _, _ => Nat.le_refl _
  | n + 1, f, g, h => by
    rw [sumN, sumN]
    have := sumN_le (n := n) (f := f) (g := g) (fun i hi => h i (by omega))
    have := h n (by omega)
    omega
theorem sumN_add : ∀ (n : Nat) (f g : Nat → Nat), sumN n (fun i => f i + g i) = sumN n f + sumN n g
  | 0, _, _ => rfl
  | n + 1, f, g => by rw [sumN, sumN, sumN, sumN_add n f g]; omega
theorem sumN_mul (c : Nat) : ∀ (n : Nat) (f : Nat → Nat), sumN n (fun i => c * f i) = c * sumN n f
  | 0, _ => rfl
  | n + 1, f => by rw [sumN, sumN, sumN_mul c n f, Nat.mul_add]
theorem sumN_zero : ∀ (n : Nat) {f : Nat → Nat}, (∀ i, i < n → f i = 0) → sumN n f = 0
  | 0, _, _ => rfl
  | n + 1, f, h => by rw [sumN, sumN_zero n (fun i hi => h i (by omega)), h n (by omega)]
theorem sumN_const (c : Nat) : ∀ n : Nat, sumN n (fun _ => c) = n * c
  | 0 => by simp [sumN]
  | n + 1 => by rw [sumN, sumN_const c n, Nat.add_mul, Nat.one_mul]
/-- The first a of n. -/
theorem sumN_first (f : Nat → Nat) (a : Nat) : ∀ n : Nat, a ≤ n → sumN n (fun i => if i < a then f i else 0) = sumN a f
  | 0, h => by
    obtain rfl : a = 0 := by omega
    rfl
  | n + 1, h => by
    rw [sumN]
    by_cases e : a = n + 1
    · subst e
      rw [if_pos (by omega), sumN]
      congr 1
      exact sumN_congr fun i hi => if_pos (by omega)
    · rw [sumN_first f a n (by omega), if_neg (by omega), Nat.add_zero]
/-- How many there are. -/
def cntN (p : Nat → Bool) : Nat → Nat
  | 0 => 0
  | n + 1 => cntN p n + (if p n then 1 else 0)
theorem cntN_le (p : Nat → Bool) : ∀ n, cntN p n ≤ n
  | 0 => Nat.le_refl _
  | n + 1 => by
    rw [cntN]
    have := cntN_le p n
    split <;> omega
theorem sumN_mono {f : Nat → Nat} : ∀ {m n : Nat}, m ≤ n → sumN m f ≤ sumN n f
  | m, 0, h => by
    obtain rfl : m = 0 := by omega
    exact Nat.le_refl _
  | m, n + 1, h => by
    by_cases e : m = n + 1
    · rw [e]; exact Nat.le_refl _
    · have := sumN_mono (f := f) (m := m) (n := n) (by omega)
      rw [sumN]
      omega
/-- Of sorted weights none as many are less than the first ones. -/
theorem firsts_le {w : Nat → Nat} (p : Nat → Bool) : ∀ n : Nat, (∀ i j, i ≤ j → j < n → w i ≤ w j) → sumN (cntN p n) w ≤ sumN n fun i => if p i then w i else 0
  | 0, _ => Nat.le_refl _
  | n + 1, hs => by
    have IH := firsts_le p n fun i j hij hj => hs i j hij (by omega)
    rw [cntN, sumN]
    by_cases h : p n = true
    · rw [if_pos h, if_pos h, sumN]
      have := hs (cntN p n) n (cntN_le p n) (by omega)
      omega
    · rw [if_neg h, if_neg h]
      omega

/-- An item of a row: its weight, its symbols. -/
abbrev Item := Nat × List Nat
def wts (l : List Item) : Nat := (l.map Prod.fst).sum
def syms (l : List Item) : List Nat := l.flatMap Prod.snd
def Sorted (l : List Item) : Prop := l.Pairwise fun a b => a.1 ≤ b.1
def pairsOf : List Item → List Item
  | a :: b :: r => (a.1 + b.1, a.2 ++ b.2) :: pairsOf r
  | _ => []
def mergeI : List Item → List Item → List Item
  | [], ps => ps
  | ls, [] => ls
  | a :: ls, b :: ps => if a.1 ≤ b.1 then a :: mergeI ls (b :: ps) else b :: mergeI (a :: ls) ps
termination_by ls ps => ls.length + ps.length
theorem mergeI_nil (l : List Item) : mergeI l [] = l := by
  cases l <;> simp [mergeI]
theorem nil_mergeI (l : List Item) : mergeI [] l = l := by simp [mergeI]
theorem mergeI_cons (a b : Item) (ls ps : List Item) : mergeI (a :: ls) (b :: ps) = if a.1 ≤ b.1 then a :: mergeI ls (b :: ps) else b :: mergeI (a :: ls) ps := by rw [mergeI]
theorem mergeI_len : ∀ (ls ps : List Item), (mergeI ls ps).length = ls.length + ps.length
  | [], ps => by rw [nil_mergeI]; simp
  | a :: ls, [] => by rw [mergeI_nil]; simp
  | a :: ls, b :: ps => by
    rw [mergeI_cons]
    split
    · rw [List.length_cons, mergeI_len ls (b :: ps)]; simp; omega
    · rw [List.length_cons, mergeI_len (a :: ls) ps]; simp; omega
termination_by ls ps => ls.length + ps.length
theorem pairsOf_len : ∀ l : List Item, (pairsOf l).length = l.length / 2
  | [] => rfl
  | [_] => by simp [pairsOf]
  | a :: b :: r => by rw [pairsOf, List.length_cons, pairsOf_len r]; simp; omega
theorem wts_nil : wts [] = 0 := rfl
theorem wts_cons (a : Item) (l : List Item) : wts (a :: l) = a.1 + wts l := by simp [wts]
theorem wts_append (a b : List Item) : wts (a ++ b) = wts a + wts b := by simp [wts]
theorem syms_cons (a : Item) (l : List Item) : syms (a :: l) = a.2 ++ syms l := by simp [syms]
/-- The first of a merged row: the first of both. -/
theorem merge_take : ∀ (ls ps : List Item) (m : Nat), m ≤ ls.length + ps.length → ∃ a, a ≤ m ∧ a ≤ ls.length ∧ m - a ≤ ps.length ∧ wts ((mergeI ls ps).take m) = wts (ls.take a) + wts (ps.take (m - a)) ∧
    ∀ s, (syms ((mergeI ls ps).take m)).count s = (syms (ls.take a)).count s + (syms (ps.take (m - a))).count s
  | ls, ps, 0, _ => ⟨0, by omega, by omega, by omega, by simp [wts], fun s => by simp [syms]⟩
  | [], ps, m + 1, h => ⟨0, by omega, by omega, by simpa using h, by rw [nil_mergeI]; simp [wts], fun s => by rw [nil_mergeI]; simp [syms]⟩
  | a :: ls, [], m + 1, h => ⟨m + 1, by omega, by simpa using h, by omega, by rw [mergeI_nil]; simp [wts], fun s => by rw [mergeI_nil]; simp [syms]⟩
  | a :: ls, b :: ps, m + 1, h => by
    rw [mergeI_cons]
    by_cases hab : a.1 ≤ b.1
    · rw [if_pos hab]
      obtain ⟨k, h1, h2, h3, h4, h5⟩ := merge_take ls (b :: ps) m (by simp at h ⊢; omega)
      refine ⟨k + 1, by omega, by simpa using h2, by rw [show m + 1 - (k + 1) = m - k by omega]; exact h3, ?_, fun s => ?_⟩
      · rw [List.take_succ_cons, List.take_succ_cons, wts_cons, wts_cons, h4, show m + 1 - (k + 1) = m - k by omega]
        omega
      · rw [List.take_succ_cons, List.take_succ_cons, syms_cons, syms_cons, List.count_append, List.count_append, h5 s, show m + 1 - (k + 1) = m - k by omega]
        omega
    · rw [if_neg hab]
      obtain ⟨k, h1, h2, h3, h4, h5⟩ := merge_take (a :: ls) ps m (by simp at h ⊢; omega)
      refine ⟨k, by omega, h2, by simp; omega, ?_, fun s => ?_⟩
      · rw [show m + 1 - k = (m - k) + 1 by omega, List.take_succ_cons, List.take_succ_cons, wts_cons, wts_cons, h4]
        omega
      · rw [show m + 1 - k = (m - k) + 1 by omega, List.take_succ_cons, List.take_succ_cons, syms_cons, syms_cons, List.count_append, List.count_append, h5 s]
        omega
termination_by ls ps => ls.length + ps.length
theorem wts_take_le (a : Item) (l : List Item) (h : ∀ x ∈ l, a.1 ≤ x.1) : ∀ {m : Nat}, m + 1 ≤ l.length → a.1 + wts (l.take m) ≤ wts (l.take (m + 1)) := by
  intro m hm
  have e : l.take (m + 1) = l.take m ++ [l[m]'(by omega)] := by rw [List.take_add_one, List.getElem?_eq_getElem (by omega)]; rfl
  rw [e, wts_append, wts_cons, wts_nil]
  have := h (l[m]'(by omega)) (List.getElem_mem _)
  omega
theorem wts_take_mono (l : List Item) : ∀ {m n : Nat}, m ≤ n → wts (l.take m) ≤ wts (l.take n) := by
  intro m n h
  induction l generalizing m n with
  | nil => simp [wts]
  | cons a l ih =>
    cases m with
    | zero => simp [wts]
    | succ m =>
      cases n with
      | zero => omega
      | succ n =>
        rw [List.take_succ_cons, List.take_succ_cons, wts_cons, wts_cons]
        have := ih (m := m) (n := n) (by omega)
        omega
/-- No c of the one with m - c of the other weigh less than the first m of the merged row. -/
theorem merge_least : ∀ (ls ps : List Item) (m c : Nat), Sorted ls → Sorted ps → c ≤ m → c ≤ ls.length → m - c ≤ ps.length → wts ((mergeI ls ps).take m) ≤ wts (ls.take c) + wts (ps.take (m - c))
  | ls, ps, 0, _, _, _, _, _, _ => by simp [wts]
  | [], ps, m + 1, c, _, _, h1, h2, _ => by
    obtain rfl : c = 0 := by simpa using h2
    rw [nil_mergeI]
    simp [wts]
  | a :: ls, [], m + 1, c, _, _, h1, h2, h3 => by
    obtain rfl : c = m + 1 := by simp at h3; omega
    rw [mergeI_nil]
    simp [wts]
  | a :: ls, b :: ps, m + 1, c, hl, hp, h1, h2, h3 => by
    have hl1 := (List.pairwise_cons.1 hl).1
    have hl2 := (List.pairwise_cons.1 hl).2
    have hp1 := (List.pairwise_cons.1 hp).1
    have hp2 := (List.pairwise_cons.1 hp).2
    rw [mergeI_cons]
    simp only [List.length_cons] at h2 h3
    by_cases hab : a.1 ≤ b.1
    · rw [if_pos hab, List.take_succ_cons, wts_cons]
      cases c with
      | succ c =>
        have IH := merge_least ls (b :: ps) m c hl2 hp (by omega) (by omega) (by simp; omega)
        rw [List.take_succ_cons, wts_cons, show m + 1 - (c + 1) = m - c by omega]
        omega
      | zero =>
        have IH := merge_least ls (b :: ps) m 0 hl2 hp (by omega) (by omega) (by simp; omega)
        have h4 : a.1 + wts ((b :: ps).take m) ≤ wts ((b :: ps).take (m + 1)) := wts_take_le a (b :: ps) (fun x hx => by
          rcases List.mem_cons.1 hx with e | e
          · rw [e]; exact hab
          · have := hp1 x e; omega) (by simp; omega)
        rw [List.take_zero] at IH ⊢
        rw [Nat.sub_zero] at IH ⊢
        rw [wts_nil] at IH ⊢
        omega
    · rw [if_neg hab, List.take_succ_cons, wts_cons]
      by_cases hc : c = m + 1
      · subst hc
        have IH := merge_least (a :: ls) ps m m hl hp2 (by omega) (by simp; omega) (by omega)
        have h4 : b.1 + wts ((a :: ls).take m) ≤ wts ((a :: ls).take (m + 1)) := wts_take_le b (a :: ls) (fun x hx => by
          rcases List.mem_cons.1 hx with e | e
          · rw [e]; omega
          · have := hl1 x e; omega) (by simp; omega)
        rw [Nat.sub_self, List.take_zero, wts_nil] at IH ⊢
        omega
      · have IH := merge_least (a :: ls) ps m c hl hp2 (by omega) (by simp; omega) (by omega)
        rw [show m + 1 - c = (m - c) + 1 by omega, List.take_succ_cons, wts_cons]
        omega
termination_by ls ps => ls.length + ps.length
theorem merge_mem {ls ps : List Item} {x : Item} : x ∈ mergeI ls ps → x ∈ ls ∨ x ∈ ps := by
  match ls, ps with
  | [], ps => rw [nil_mergeI]; exact .inr
  | a :: ls, [] => rw [mergeI_nil]; exact .inl
  | a :: ls, b :: ps =>
    rw [mergeI_cons]
    split
    · intro h
      rcases List.mem_cons.1 h with e | e
      · exact .inl (by rw [e]; exact List.mem_cons_self)
      · rcases merge_mem e with h | h
        · exact .inl (List.mem_cons_of_mem _ h)
        · exact .inr h
    · intro h
      rcases List.mem_cons.1 h with e | e
      · exact .inr (by rw [e]; exact List.mem_cons_self)
      · rcases merge_mem e with h | h
        · exact .inl h
        · exact .inr (List.mem_cons_of_mem _ h)
termination_by ls.length + ps.length
theorem merge_sorted : ∀ {ls ps : List Item}, Sorted ls → Sorted ps → Sorted (mergeI ls ps)
  | [], ps, _, h => by rw [nil_mergeI]; exact h
  | a :: ls, [], h, _ => by rw [mergeI_nil]; exact h
  | a :: ls, b :: ps, hl, hp => by
    have hl1 := (List.pairwise_cons.1 hl).1
    have hp1 := (List.pairwise_cons.1 hp).1
    rw [mergeI_cons]
    by_cases hab : a.1 ≤ b.1
    · rw [if_pos hab]
      refine List.pairwise_cons.2 ⟨fun x hx => ?_, merge_sorted (List.pairwise_cons.1 hl).2 hp⟩
      rcases merge_mem hx with h | h
      · exact hl1 x h
      · rcases List.mem_cons.1 h with e | e
        · rw [e]; exact hab
        · have := hp1 x e; omega
    · rw [if_neg hab]
      refine List.pairwise_cons.2 ⟨fun x hx => ?_, merge_sorted hl (List.pairwise_cons.1 hp).2⟩
      rcases merge_mem hx with h | h
      · rcases List.mem_cons.1 h with e | e
        · rw [e]; omega
        · have := hl1 x e; omega
      · exact hp1 x h
termination_by ls ps => ls.length + ps.length
theorem pairs_ge : ∀ {l : List Item} {c : Nat}, (∀ x ∈ l, c ≤ x.1) → ∀ x ∈ pairsOf l, 2 * c ≤ x.1
  | [], _, _, x, h => by simp [pairsOf] at h
  | [_], _, _, x, h => by simp [pairsOf] at h
  | a :: b :: r, c, hl, x, h => by
    rw [pairsOf] at h
    rcases List.mem_cons.1 h with e | e
    · rw [e]
      have := hl a (by simp)
      have := hl b (by simp)
      simp only
      omega
    · exact pairs_ge (fun y hy => hl y (by simp [hy])) x e
theorem pairs_sorted : ∀ {l : List Item}, Sorted l → Sorted (pairsOf l)
  | [], _ => by simp [pairsOf, Sorted]
  | [_], _ => by simp [pairsOf, Sorted]
  | a :: b :: r, h => by
    have h1 := List.pairwise_cons.1 h
    have h2 := List.pairwise_cons.1 h1.2
    rw [pairsOf]
    refine List.pairwise_cons.2 ⟨fun x hx => ?_, pairs_sorted h2.2⟩
    have := pairs_ge (c := b.1) (fun y hy => h2.1 y hy) x hx
    have := h1.1 b (by simp)
    simp only
    omega
theorem pairs_take : ∀ (l : List Item) (k : Nat), 2 * k ≤ l.length → wts ((pairsOf l).take k) = wts (l.take (2 * k)) ∧ ∀ s, (syms ((pairsOf l).take k)).count s = (syms (l.take (2 * k))).count s
  | _, 0, _ => by simp [wts, syms]
  | [], k + 1, h => by simp at h
  | [_], k + 1, h => by simp at h; omega
  | a :: b :: r, k + 1, h => by
    obtain ⟨i1, i2⟩ := pairs_take r k (by simp at h; omega)
    rw [pairsOf, List.take_succ_cons, show 2 * (k + 1) = 2 * k + 1 + 1 by omega, List.take_succ_cons, List.take_succ_cons]
    refine ⟨?_, fun s => ?_⟩
    · rw [wts_cons, wts_cons, wts_cons, i1]
      simp only
      omega
    · rw [syms_cons, syms_cons, syms_cons, List.count_append, List.count_append, List.count_append, i2 s]
      simp only [List.count_append]
      omega

/-- The leaves: of each place its weight and its symbol. -/
def leaves (n : Nat) (w s : Nat → Nat) : List Item := (List.range n).map fun i => (w i, [s i])
/-- The rows, from the leaves on. -/
def row (lv : List Item) : Nat → List Item
  | 0 => lv
  | r + 1 => mergeI lv (pairsOf (row lv r))
section
variable {n : Nat} {w s : Nat → Nat}
theorem leaves_len : (leaves n w s).length = n := by simp [leaves]
theorem leaves_succ : leaves (n + 1) w s = leaves n w s ++ [(w n, [s n])] := by simp [leaves, List.range_succ]
theorem leaves_take {a : Nat} (h : a ≤ n) : (leaves n w s).take a = leaves a w s := by
  unfold leaves
  rw [← List.map_take, List.take_range, Nat.min_eq_left h]
theorem leaves_wts : ∀ n, wts (leaves n w s) = sumN n w
  | 0 => rfl
  | n + 1 => by rw [leaves_succ, sumN, ← leaves_wts n]; simp [wts]
theorem leaves_count (hs : ∀ i j, i < n → j < n → s i = s j → i = j) {i : Nat} (hi : i < n) : ∀ a, a ≤ n → (syms (leaves a w s)).count (s i) = if i < a then 1 else 0
  | 0, _ => by simp [leaves, syms]
  | a + 1, h => by
    have IH := leaves_count hs hi a (by omega)
    have e : syms (leaves (a + 1) w s) = syms (leaves a w s) ++ [s a] := by rw [leaves_succ]; simp [syms]
    rw [e, List.count_append, IH]
    by_cases hia : i = a
    · subst hia
      simp
    · have hne : s a ≠ s i := fun h2 => hia (hs a i (by omega) hi h2).symm
      have hb : (s a == s i) = false := beq_eq_false_iff_ne.2 hne
      rw [List.count_singleton, hb, if_neg Bool.false_ne_true, Nat.add_zero]
      by_cases h3 : i < a
      · rw [if_pos h3, if_pos (by omega)]
      · rw [if_neg h3, if_neg (by omega)]
theorem leaves_other {x : Nat} : ∀ {a : Nat}, (∀ i, i < a → s i ≠ x) → (syms (leaves a w s)).count x = 0
  | 0, _ => by simp [leaves, syms]
  | a + 1, h => by
    have e : syms (leaves (a + 1) w s) = syms (leaves a w s) ++ [s a] := by rw [leaves_succ]; simp [syms]
    rw [e, List.count_append, leaves_other (fun i hi => h i (by omega)), List.count_singleton, beq_eq_false_iff_ne.2 (h a (by omega)), if_neg Bool.false_ne_true]
theorem leaves_sorted (hw : ∀ i j, i ≤ j → j < n → w i ≤ w j) : Sorted (leaves n w s) := by
  unfold leaves Sorted
  rw [List.pairwise_map]
  exact (List.pairwise_lt_range (n := n)).imp_of_mem fun {a b} ha hb h => hw a b (Nat.le_of_lt h) (List.mem_range.1 hb)
theorem row_sorted {lv : List Item} (h : Sorted lv) : ∀ r, Sorted (row lv r)
  | 0 => h
  | r + 1 => merge_sorted h (pairs_sorted (row_sorted h r))
theorem row_len (lv : List Item) (r : Nat) : (row lv (r + 1)).length = lv.length + (row lv r).length / 2 := by rw [row, mergeI_len, pairsOf_len]
/-- What the first m items of a row say: how often each place's symbol stands there. -/
theorem row_says (hs : ∀ i j, i < n → j < n → s i = s j → i = j) : ∀ (r m : Nat), m ≤ (row (leaves n w s) r).length →
    ∃ c wd : Nat → Nat, (∀ i, i < n → (syms ((row (leaves n w s) r).take m)).count (s i) = c i) ∧ (∀ x, (∀ i, i < n → s i ≠ x) → (syms ((row (leaves n w s) r).take m)).count x = 0) ∧
      (∀ i, i < n → c i ≤ r + 1 ∧ wd i + 2 ^ (r + 1 - c i) ≤ 2 ^ (r + 1)) ∧ (∀ i j, i ≤ j → j < n → c j ≤ c i) ∧ sumN n wd = m * 2 ^ r ∧ wts ((row (leaves n w s) r).take m) = sumN n fun i => w i * c i
  | 0, m, h => by
    have hmn : m ≤ n := by rw [row, leaves_len] at h; exact h
    refine ⟨fun i => if i < m then 1 else 0, fun i => if i < m then 1 else 0, fun i hi => ?_, fun x hx => ?_, fun i _ => ?_, fun i j hij _ => ?_, ?_, ?_⟩
    · rw [row, leaves_take hmn, leaves_count hs hi m hmn]
    · rw [row, leaves_take hmn]
      exact leaves_other fun i hi => hx i (by omega)
    · dsimp only
      by_cases e : i < m
      · rw [if_pos e]; simp
      · rw [if_neg e]; simp
    · dsimp only
      by_cases e : j < m
      · rw [if_pos e, if_pos (by omega)]; exact Nat.le_refl _
      · rw [if_neg e]; omega
    · rw [sumN_first (fun _ => 1) m n hmn, sumN_const, Nat.pow_zero]
    · rw [row, leaves_take hmn, leaves_wts]
      rw [← sumN_first w m n hmn]
      refine sumN_congr fun i _ => ?_
      dsimp only
      by_cases e : i < m
      · rw [if_pos e, if_pos e, Nat.mul_one]
      · rw [if_neg e, if_neg e, Nat.mul_zero]
  | r + 1, m, h => by
    rw [row_len, leaves_len] at h
    obtain ⟨a, a1, a2, a3, a4, a5⟩ := merge_take (leaves n w s) (pairsOf (row (leaves n w s) r)) m (by rw [leaves_len, pairsOf_len]; exact h)
    rw [leaves_len] at a2
    rw [pairsOf_len] at a3
    obtain ⟨c, wd, h1, h2, h3, h4, h5, h6⟩ := row_says hs r (2 * (m - a)) (by omega)
    obtain ⟨p1, p2⟩ := pairs_take (row (leaves n w s) r) (m - a) (by omega)
    refine ⟨fun i => (if i < a then 1 else 0) + c i, fun i => (if i < a then 2 ^ (r + 1) else 0) + wd i, fun i hi => ?_, fun x hx => ?_, fun i hi => ?_, fun i j hij hj => ?_, ?_, ?_⟩
    · rw [row, a5 (s i), leaves_take a2, leaves_count hs hi a a2, p2 (s i), h1 i hi]
    · rw [row, a5 x, leaves_take a2, leaves_other (fun i hi => hx i (by omega)), p2 x, h2 x hx]
    · dsimp only
      obtain ⟨k1, k2⟩ := h3 i hi
      have e2 : 2 ^ (r + 1 + 1) = 2 * 2 ^ (r + 1) := by rw [Nat.pow_succ, Nat.mul_comm]
      by_cases e : i < a
      · rw [if_pos e, if_pos e, show r + 1 + 1 - (1 + c i) = r + 1 - c i by omega, e2]
        exact ⟨by omega, by omega⟩
      · rw [if_neg e, if_neg e, Nat.zero_add, Nat.zero_add, show r + 1 + 1 - c i = (r + 1 - c i) + 1 by omega, Nat.pow_succ, e2]
        have : 2 ^ (r + 1 - c i) ≤ 2 ^ (r + 1) := Nat.pow_le_pow_right (by omega) (by omega)
        exact ⟨by omega, by omega⟩
    · dsimp only
      have := h4 i j hij hj
      by_cases e : j < a
      · rw [if_pos e, if_pos (by omega)]; omega
      · rw [if_neg e]; split <;> omega
    · rw [sumN_add, sumN_first (fun _ => 2 ^ (r + 1)) a n a2, sumN_const, h5, Nat.pow_succ, Nat.mul_comm 2 (m - a), Nat.mul_assoc, ← Nat.mul_comm (2 ^ r) 2, ← Nat.add_mul]
      rw [show a + (m - a) = m by omega]
    · rw [row, a4, leaves_take a2, leaves_wts, p1, h6, ← sumN_first w a n a2, ← sumN_add]
      refine sumN_congr fun i _ => ?_
      dsimp only
      by_cases e : i < a
      · rw [if_pos e, if_pos e, Nat.mul_add, Nat.mul_one]
      · rw [if_neg e, if_neg e, Nat.mul_add, Nat.mul_zero]
/-- No lengths whose width is enough cost less than the first m items of a row weigh. -/
theorem row_least (hw : ∀ i j, i ≤ j → j < n → w i ≤ w j) : ∀ (r m : Nat) (l : Nat → Nat), (∀ i, i < n → l i ≤ r + 1) → m * 2 ^ r ≤ sumN n (fun i => 2 ^ (r + 1) - 2 ^ (r + 1 - l i)) →
    m ≤ (row (leaves n w s) r).length ∧ wts ((row (leaves n w s) r).take m) ≤ sumN n fun i => w i * l i
  | 0, m, l, hl, h => by
    have e : sumN n (fun i => 2 ^ (0 + 1) - 2 ^ (0 + 1 - l i)) = cntN (fun i => decide (0 < l i)) n := by
      clear h hw
      induction n with
      | zero => rfl
      | succ n ih =>
        rw [sumN, cntN, ih fun i hi => hl i (by omega)]
        have := hl n (by omega)
        rcases Nat.eq_zero_or_pos (l n) with h0 | h0
        · rw [h0]; simp
        · have h1 : l n = 1 := by omega
          rw [h1]; simp
    rw [e, Nat.pow_zero, Nat.mul_one] at h
    have hcn := cntN_le (fun i => decide (0 < l i)) n
    refine ⟨by rw [row, leaves_len]; omega, ?_⟩
    rw [row, leaves_take (by omega), leaves_wts]
    refine Nat.le_trans (sumN_mono h) (Nat.le_trans (firsts_le _ n hw) (sumN_le fun i _ => ?_))
    by_cases h0 : 0 < l i
    · rw [if_pos (by simpa using h0)]
      exact Nat.le_mul_of_pos_right _ h0
    · rw [if_neg (by simpa using h0)]
      omega
  | r + 1, m, l, hl, h => by
    have hP : 0 < 2 ^ (r + 1) := Nat.pow_pos (by omega)
    have e : sumN n (fun i => 2 ^ (r + 1 + 1) - 2 ^ (r + 1 + 1 - l i)) = cntN (fun i => decide (0 < l i)) n * 2 ^ (r + 1) + sumN n (fun i => 2 ^ (r + 1) - 2 ^ (r + 1 - (l i - 1))) := by
      clear h hw
      induction n with
      | zero => rw [sumN, sumN, cntN]; omega
      | succ n ih =>
        rw [sumN, sumN, cntN, ih fun i hi => hl i (by omega), Nat.add_mul]
        have := hl n (by omega)
        have e2 : 2 ^ (r + 1 + 1) = 2 ^ (r + 1) + 2 ^ (r + 1) := by rw [Nat.pow_succ]; omega
        rcases Nat.eq_zero_or_pos (l n) with h0 | h0
        · rw [h0]
          simp
        · rw [if_pos (by simpa using h0), show r + 1 + 1 - l n = r + 1 - (l n - 1) by omega, Nat.one_mul, e2]
          have : 2 ^ (r + 1 - (l n - 1)) ≤ 2 ^ (r + 1) := Nat.pow_le_pow_right (by omega) (by omega)
          omega
    rw [e] at h
    have hcn := cntN_le (fun i => decide (0 < l i)) n
    have hcost : sumN n (fun i => w i * l i) = sumN n (fun i => if decide (0 < l i) then w i else 0) + sumN n fun i => w i * (l i - 1) := by
      rw [← sumN_add]
      refine sumN_congr fun i _ => ?_
      rcases Nat.eq_zero_or_pos (l i) with h0 | h0
      · rw [h0]; simp
      · rw [if_pos (by simpa using h0)]
        have : l i = (l i - 1) + 1 := by omega
        rw [show w i * l i = w i * ((l i - 1) + 1) by rw [← this], Nat.mul_add, Nat.mul_one]
        omega
    have hfl := firsts_le (w := w) (fun i => decide (0 < l i)) n hw
    have hls := leaves_sorted (s := s) hw
    have hps := pairs_sorted (row_sorted hls r)
    generalize cntN (fun i => decide (0 < l i)) n = c at *
    rw [row_len, leaves_len]
    by_cases hmc : m ≤ c
    · refine ⟨by omega, ?_⟩
      have := merge_least (leaves n w s) (pairsOf (row (leaves n w s) r)) m m hls hps (Nat.le_refl _) (by rw [leaves_len]; omega) (by omega)
      rw [Nat.sub_self, List.take_zero, wts_nil, leaves_take (by omega), leaves_wts] at this
      have := sumN_mono (f := w) hmc
      rw [row]
      omega
    · have hm2 : (m - c) * 2 ^ (r + 1) = m * 2 ^ (r + 1) - c * 2 ^ (r + 1) := Nat.sub_mul _ _ _
      have IH := row_least hw r (2 * (m - c)) (fun i => l i - 1) (fun i hi => by have := hl i hi; omega) (by
        rw [Nat.mul_comm 2 (m - c), Nat.mul_assoc, Nat.mul_comm 2 (2 ^ r), ← Nat.pow_succ, Nat.succ_eq_add_one, hm2]
        omega)
      obtain ⟨i1, i2⟩ := IH
      refine ⟨by omega, ?_⟩
      have h1 := merge_least (leaves n w s) (pairsOf (row (leaves n w s) r)) m c hls hps (by omega) (by rw [leaves_len]; exact hcn) (by rw [pairsOf_len]; omega)
      rw [leaves_take hcn, leaves_wts, (pairs_take (row (leaves n w s) r) (m - c) (by omega)).1] at h1
      rw [row]
      omega
end
end Go.Proofs.Ytabhemmmefefgaa.Len
