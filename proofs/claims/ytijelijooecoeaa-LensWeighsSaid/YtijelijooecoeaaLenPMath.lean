/- The program's rows: what is put together bears no symbols; what is counted from the last row back is what lists of symbols would say. Plain mathematics of chapter 7. -/
import Derived.Test.YtijelijooecoeaaLenDoc
namespace Go.Proofs.Ytijelijooecoeaa.Len

/-- An item of the program's: its weight, its symbol; 300: put together. -/
abbrev PI := Nat × Nat
def pSym : List Nat → Nat
  | [s] => s
  | _ => 300
def pOf (x : Item) : PI := (x.1, pSym x.2)
def pairsP : List PI → List PI
  | a :: b :: r => (a.1 + b.1, 300) :: pairsP r
  | _ => []
def mergeP : List PI → List PI → List PI
  | [], ps => ps
  | ls, [] => ls
  | a :: ls, b :: ps => if a.1 ≤ b.1 then a :: mergeP ls (b :: ps) else b :: mergeP (a :: ls) ps
termination_by ls ps => ls.length + ps.length
theorem mergeP_nil (l : List PI) : mergeP l [] = l := by cases l <;> simp [mergeP]
theorem nil_mergeP (l : List PI) : mergeP [] l = l := by simp [mergeP]
theorem mergeP_cons (a b : PI) (ls ps : List PI) : mergeP (a :: ls) (b :: ps) = if a.1 ≤ b.1 then a :: mergeP ls (b :: ps) else b :: mergeP (a :: ls) ps := by rw [mergeP]
def rowP (lv : List PI) : Nat → List PI
  | 0 => lv
  | r + 1 => mergeP lv (pairsP (rowP lv r))
theorem mergeP_len : ∀ (ls ps : List PI), (mergeP ls ps).length = ls.length + ps.length
  | [], ps => by rw [nil_mergeP]; simp
  | a :: ls, [] => by rw [mergeP_nil]; simp
  | a :: ls, b :: ps => by
    rw [mergeP_cons]
    split
    · rw [List.length_cons, mergeP_len ls (b :: ps)]; simp; omega
    · rw [List.length_cons, mergeP_len (a :: ls) ps]; simp; omega
termination_by ls ps => ls.length + ps.length
theorem pairsP_len : ∀ l : List PI, (pairsP l).length = l.length / 2
  | [] => rfl
  | [_] => by simp [pairsP]
  | a :: b :: r => by rw [pairsP, List.length_cons, pairsP_len r]; simp; omega
theorem pairsP_get : ∀ (l : List PI) (k : Nat), 2 * k + 1 < l.length → (pairsP l).getD k (0, 0) = ((l.getD (2 * k) (0, 0)).1 + (l.getD (2 * k + 1) (0, 0)).1, 300)
  | [], k, h => by simp at h
  | [_], k, h => by simp at h
  | a :: b :: r, 0, _ => by simp [pairsP]
  | a :: b :: r, k + 1, h => by
    have := pairsP_get r k (by simp at h; omega)
    rw [pairsP]
    simp only [List.getD_cons_succ, show 2 * (k + 1) = 2 * k + 1 + 1 by omega]
    exact this
theorem pairsP_eq (l : List PI) : pairsP l = (List.range (l.length / 2)).map fun k => ((l.getD (2 * k) (0, 0)).1 + (l.getD (2 * k + 1) (0, 0)).1, 300) := by
  apply List.ext_getElem
  · rw [pairsP_len]; simp
  · intro i h1 h2
    rw [pairsP_len] at h1
    have := pairsP_get l i (by omega)
    rw [List.getD_eq_getElem?_getD, List.getElem?_eq_getElem (by rw [pairsP_len]; exact h1)] at this
    simp only [Option.getD_some] at this
    rw [this]
    simp

/-! Both sorts of rows. -/
/-- The lists of a row's items aren't empty. -/
def Full (l : List Item) : Prop := ∀ x ∈ l, 1 ≤ x.2.length
theorem merge_map (f : Item → PI) (hf : ∀ x, (f x).1 = x.1) : ∀ (ls ps : List Item), (mergeI ls ps).map f = mergeP (ls.map f) (ps.map f)
  | [], ps => by rw [nil_mergeI, List.map_nil, nil_mergeP]
  | a :: ls, [] => by rw [mergeI_nil, List.map_nil, mergeP_nil]
  | a :: ls, b :: ps => by
    rw [mergeI_cons, List.map_cons, List.map_cons, mergeP_cons, hf, hf]
    by_cases h : a.1 ≤ b.1
    · rw [if_pos h, if_pos h, List.map_cons, merge_map f hf ls (b :: ps), List.map_cons]
    · rw [if_neg h, if_neg h, List.map_cons, merge_map f hf (a :: ls) ps, List.map_cons]
termination_by ls ps => ls.length + ps.length
theorem pSym_two {a b : List Nat} (ha : 1 ≤ a.length) (hb : 1 ≤ b.length) : pSym (a ++ b) = 300 := by
  match a, b, ha, hb with
  | x :: a, y :: b, _, _ =>
    cases a <;> rfl
theorem pairs_map : ∀ {l : List Item}, Full l → (pairsOf l).map pOf = pairsP (l.map pOf)
  | [], _ => rfl
  | [_], _ => by simp [pairsOf, pairsP]
  | a :: b :: r, h => by
    rw [pairsOf, List.map_cons, List.map_cons, List.map_cons, pairsP, pairs_map (l := r) fun x hx => h x (by simp [hx])]
    congr 1
    unfold pOf
    simp only
    rw [pSym_two (h a (by simp)) (h b (by simp))]
theorem pairs_full : ∀ {l : List Item}, Full l → Full (pairsOf l)
  | [], _ => by simp [pairsOf, Full]
  | [_], _ => by simp [pairsOf, Full]
  | a :: b :: r, h => by
    intro x hx
    rw [pairsOf] at hx
    rcases List.mem_cons.1 hx with e | e
    · rw [e]
      have := h a (by simp)
      simp only [List.length_append]
      omega
    · exact pairs_full (l := r) (fun y hy => h y (by simp [hy])) x e
theorem pairs_two : ∀ {l : List Item}, Full l → ∀ x ∈ pairsOf l, pSym x.2 = 300
  | [], _, x, hx => by simp [pairsOf] at hx
  | [_], _, x, hx => by simp [pairsOf] at hx
  | a :: b :: r, h, x, hx => by
    rw [pairsOf] at hx
    rcases List.mem_cons.1 hx with e | e
    · rw [e]
      exact pSym_two (h a (by simp)) (h b (by simp))
    · exact pairs_two (l := r) (fun y hy => h y (by simp [hy])) x e
theorem row_full {lv : List Item} (h : Full lv) : ∀ r, Full (row lv r)
  | 0 => h
  | r + 1 => fun x hx => by
    rw [row] at hx
    rcases merge_mem hx with e | e
    · exact h x e
    · exact pairs_full (row_full h r) x e
theorem row_map {lv : List Item} (h : Full lv) : ∀ r, (row lv r).map pOf = rowP (lv.map pOf) r
  | 0 => rfl
  | r + 1 => by rw [row, rowP, merge_map pOf (fun _ => rfl), pairs_map (row_full h r), row_map h r]
theorem sum_map_append (F : Item → Nat) (a b : List Item) : ((a ++ b).map F).sum = (a.map F).sum + (b.map F).sum := by simp
/-- The first of a merged row, whatever is summed up of them. -/
theorem merge_takeF : ∀ (ls ps : List Item) (m : Nat), m ≤ ls.length + ps.length → ∃ a, a ≤ m ∧ a ≤ ls.length ∧ m - a ≤ ps.length ∧
    ∀ F : Item → Nat, (((mergeI ls ps).take m).map F).sum = ((ls.take a).map F).sum + ((ps.take (m - a)).map F).sum
  | ls, ps, 0, _ => ⟨0, by omega, by omega, by omega, fun F => by simp⟩
  | [], ps, m + 1, h => ⟨0, by omega, by omega, by simpa using h, fun F => by rw [nil_mergeI]; simp⟩
  | a :: ls, [], m + 1, h => ⟨m + 1, by omega, by simpa using h, by omega, fun F => by rw [mergeI_nil]; simp⟩
  | a :: ls, b :: ps, m + 1, h => by
    rw [mergeI_cons]
    by_cases hab : a.1 ≤ b.1
    · rw [if_pos hab]
      obtain ⟨k, h1, h2, h3, h4⟩ := merge_takeF ls (b :: ps) m (by simp at h ⊢; omega)
      refine ⟨k + 1, by omega, by simpa using h2, by rw [show m + 1 - (k + 1) = m - k by omega]; exact h3, fun F => ?_⟩
      rw [List.take_succ_cons, List.take_succ_cons, List.map_cons, List.map_cons, List.sum_cons, List.sum_cons, h4 F, show m + 1 - (k + 1) = m - k by omega]
      omega
    · rw [if_neg hab]
      obtain ⟨k, h1, h2, h3, h4⟩ := merge_takeF (a :: ls) ps m (by simp at h ⊢; omega)
      refine ⟨k, by omega, h2, by simp; omega, fun F => ?_⟩
      rw [show m + 1 - k = (m - k) + 1 by omega, List.take_succ_cons, List.take_succ_cons, List.map_cons, List.map_cons, List.sum_cons, List.sum_cons, h4 F]
      omega
termination_by ls ps => ls.length + ps.length
/-- How often a symbol stands in items. -/
theorem count_syms (q : Nat) : ∀ l : List Item, (syms l).count q = (l.map fun x => x.2.count q).sum
  | [] => rfl
  | a :: l => by rw [syms_cons, List.count_append, count_syms q l, List.map_cons, List.sum_cons]
theorem countP_map (p : PI → Bool) (f : Item → PI) : ∀ l : List Item, ((l.map f).countP p) = (l.map fun x => if p (f x) then 1 else 0).sum
  | [] => rfl
  | a :: l => by rw [List.map_cons, List.countP_cons, countP_map p f l, List.map_cons, List.sum_cons]; omega
/-- Those that are put together, of items. -/
def packs (l : List PI) : Nat := l.countP fun x => x.2 == 300
/-- What is counted of a symbol from row r back to the first one, m items being taken of row r. -/
def cntP (lv : List PI) (q : Nat) : Nat → Nat → Nat
  | 0, m => ((rowP lv 0).take m).countP fun x => x.2 == q
  | r + 1, m => (((rowP lv (r + 1)).take m).countP fun x => x.2 == q) + cntP lv q r (2 * packs ((rowP lv (r + 1)).take m))
/-- Leaves: one symbol each, below 300. -/
def Single (l : List Item) : Prop := ∀ x ∈ l, ∃ s, x.2 = [s] ∧ s < 300
theorem Single.full {l : List Item} (h : Single l) : Full l := fun x hx => by obtain ⟨s, e, _⟩ := h x hx; rw [e]; simp
theorem sum_congr_mem (F G : Item → Nat) : ∀ {l : List Item}, (∀ x ∈ l, F x = G x) → (l.map F).sum = (l.map G).sum
  | [], _ => rfl
  | a :: l, h => by rw [List.map_cons, List.map_cons, List.sum_cons, List.sum_cons, h a (by simp), sum_congr_mem F G fun x hx => h x (by simp [hx])]
theorem sum_zero_mem (F : Item → Nat) {l : List Item} (h : ∀ x ∈ l, F x = 0) : (l.map F).sum = 0 := by
  rw [sum_congr_mem F (fun _ => 0) h]
  induction l with
  | nil => rfl
  | cons a l ih => rw [List.map_cons, List.sum_cons, ih fun x hx => h x (by simp [hx])]
theorem sum_one_mem (F : Item → Nat) {l : List Item} (h : ∀ x ∈ l, F x = 1) : (l.map F).sum = l.length := by
  induction l with
  | nil => rfl
  | cons a l ih => rw [List.map_cons, List.sum_cons, ih fun x hx => h x (by simp [hx]), h a (by simp), List.length_cons]; omega
section
variable {lv : List Item}
theorem single_count (q s : Nat) : [s].count q = if s == q then 1 else 0 := by rw [List.count_singleton]
/-- Of a row but the first one: those that are put together, and what the others say. -/
theorem row_parts (h : Single lv) (r m : Nat) (hm : m ≤ (row lv (r + 1)).length) : ∃ k, k ≤ m ∧ 2 * k ≤ (row lv r).length ∧ packs ((rowP (lv.map pOf) (r + 1)).take m) = k ∧
    ∀ q, q < 300 → (syms ((row lv (r + 1)).take m)).count q = (((rowP (lv.map pOf) (r + 1)).take m).countP fun x => x.2 == q) + (syms ((row lv r).take (2 * k))).count q := by
  rw [row_len] at hm
  obtain ⟨a, h1, h2, h3, h4⟩ := merge_takeF lv (pairsOf (row lv r)) m (by rw [pairsOf_len]; exact hm)
  rw [pairsOf_len] at h3
  have hF := row_full h.full r
  refine ⟨m - a, by omega, by omega, ?_, fun q hq => ?_⟩
  · unfold packs
    rw [← row_map h.full, ← List.map_take, countP_map, row, h4, sum_zero_mem _ fun x hx => ?_, sum_one_mem _ fun x hx => ?_, List.length_take, pairsOf_len]
    · omega
    · have := pairs_two hF x (List.mem_of_mem_take hx)
      simp [pOf, this]
    · obtain ⟨s, e, hs⟩ := h x (List.mem_of_mem_take hx)
      simp only [pOf, e, pSym, beq_iff_eq]
      rw [if_neg (by omega)]
  · rw [count_syms, ← row_map h.full, ← List.map_take, countP_map, row, h4, h4]
    have e1 : (((pairsOf (row lv r)).take (m - a)).map fun x => x.2.count q).sum = (syms ((row lv r).take (2 * (m - a)))).count q := by
      rw [← count_syms]
      exact (pairs_take (row lv r) (m - a) (by omega)).2 q
    have e2 : (((pairsOf (row lv r)).take (m - a)).map fun x => if (pOf x).2 == q then 1 else 0).sum = 0 := sum_zero_mem _ fun x hx => by
      have := pairs_two hF x (List.mem_of_mem_take hx)
      simp only [pOf, this, beq_iff_eq]
      rw [if_neg (by omega)]
    have e3 : ((lv.take a).map fun x => x.2.count q).sum = ((lv.take a).map fun x => if (pOf x).2 == q then 1 else 0).sum := sum_congr_mem _ _ fun x hx => by
      obtain ⟨s, e, hs⟩ := h x (List.mem_of_mem_take hx)
      simp only [pOf, e, pSym]
      exact single_count q s
    rw [e1, e2, e3, Nat.add_zero]
/-- What is counted is what the lists of symbols say. -/
theorem cntP_eq (h : Single lv) (q : Nat) (hq : q < 300) : ∀ (r m : Nat), m ≤ (row lv r).length → cntP (lv.map pOf) q r m = (syms ((row lv r).take m)).count q
  | 0, m, _ => by
    rw [cntP, rowP, ← List.map_take, countP_map, count_syms, row]
    refine sum_congr_mem _ _ fun x hx => ?_
    obtain ⟨s, e, hs⟩ := h x (List.mem_of_mem_take hx)
    simp only [pOf, e, pSym]
    exact (single_count q s).symm
  | r + 1, m, hm => by
    obtain ⟨k, _, h2, h3, h4⟩ := row_parts h r m hm
    rw [cntP, h3, cntP_eq h q hq r (2 * k) h2, h4 q hq]
/-- How many are taken of the row ahead. -/
theorem packs_le (h : Single lv) (r m : Nat) (hm : m ≤ (row lv (r + 1)).length) : 2 * packs ((rowP (lv.map pOf) (r + 1)).take m) ≤ (row lv r).length := by
  obtain ⟨k, _, h2, h3, _⟩ := row_parts h r m hm
  rw [h3]
  exact h2
theorem packs_zero (h : Single lv) (m : Nat) : packs ((rowP (lv.map pOf) 0).take m) = 0 := by
  unfold packs
  rw [rowP, ← List.map_take, countP_map]
  refine sum_zero_mem _ fun x hx => ?_
  obtain ⟨s, e, hs⟩ := h x (List.mem_of_mem_take hx)
  simp only [pOf, e, pSym, beq_iff_eq]
  rw [if_neg (by omega)]
end
/-! The leaves in order. -/
/-- The leaves as they are met. -/
def metTo (often : List Nat) : Nat → List PI
  | 0 => []
  | j + 1 => if often.getD j 0 = 0 then metTo often j else metTo often j ++ [(often.getD j 0, j)]
theorem insI_perm (x : Item) : ∀ l : List Item, (insI x l).Perm (x :: l)
  | [] => .refl _
  | a :: l => by
    rw [insI]
    split
    · exact ((insI_perm x l).cons a).trans (.swap x a l)
    · exact .refl _
theorem met_perm (often : List Nat) : ∀ j, (metTo often j).Perm ((usedTo often j).map pOf)
  | 0 => .refl _
  | j + 1 => by
    rw [metTo, usedTo]
    split
    · exact met_perm often j
    · refine .trans ?_ ((insI_perm _ _).map pOf).symm
      rw [List.map_cons]
      exact (List.perm_append_singleton _ _).trans ((met_perm often j).cons _)
theorem met_len (often : List Nat) (j : Nat) : (metTo often j).length = (usedTo often j).length := by rw [(met_perm often j).length_eq, List.length_map]
theorem used_single {often : List Nat} {j : Nat} (hj : j ≤ 300) : Single (usedTo often j) := fun x hx => by
  obtain ⟨q, h1, _, e⟩ := used_each hx
  rw [e]
  exact ⟨q, rfl, by omega⟩
/-- Lesser weights ahead, of equal ones lesser symbols. -/
def LexP (a b : PI) : Prop := a.1 < b.1 ∨ a.1 = b.1 ∧ a.2 < b.2
theorem used_lexP (often : List Nat) (j : Nat) : ((usedTo often j).map pOf).Pairwise LexP := by
  rw [List.pairwise_map]
  refine (used_lex j).imp_of_mem fun {a b} ha hb hl => ?_
  obtain ⟨q, _, _, rfl⟩ := used_each ha
  obtain ⟨p, _, _, rfl⟩ := used_each hb
  exact hl
/-- Whatever has the same items in that order is the leaves. -/
theorem met_sorted {often : List Nat} {j : Nat} {l : List PI} (hp : l.Perm (metTo often j)) (hs : l.Pairwise fun a b => LexP a b ∨ a = b) : l = (usedTo often j).map pOf :=
  (hp.trans (met_perm often j)).eq_of_pairwise (le := fun a b => LexP a b ∨ a = b) (fun a b _ _ h1 h2 => by
    rcases h1 with h1 | h1
    · rcases h2 with h2 | h2
      · unfold LexP at h1 h2
        omega
      · exact h2.symm
    · exact h1) hs ((used_lexP often j).imp fun h => .inl h)
end Go.Proofs.Ytijelijooecoeaa.Len
