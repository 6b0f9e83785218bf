/- What the program of chapter 15 reckons, as plain mathematics: how many letters a text begins with, the words one row of letters after the other, terms as a sorted row of keys. -/
import Derived.Test.YtcphapdjimeoaaaGreatB01
import Derived.Sort.KeysCollected
namespace Go.Proofs.YtcphapdjimeoaaaGreat
namespace Wrd

/-- How many letters a text begins with. -/
def letN : List UInt8 → Nat
  | [] => 0
  | c :: t => if isL c = true then letN t + 1 else 0
theorem letN_le : ∀ l : List UInt8, letN l ≤ l.length
  | [] => by simp [letN]
  | c :: t => by have := letN_le t; rw [letN]; split <;> simp <;> omega
theorem letN_yes : ∀ (l : List UInt8) (i : Nat), i < letN l → isL (l.getD i 0) = true
  | [], i, h => by simp [letN] at h
  | c :: t, 0, h => by
    rw [letN] at h
    split at h
    · simpa
    · omega
  | c :: t, i + 1, h => by
    rw [letN] at h
    split at h
    · simpa using letN_yes t i (by omega)
    · omega
theorem letN_is : ∀ (l : List UInt8) (i : Nat), i ≤ l.length → (∀ j, j < i → isL (l.getD j 0) = true) → (i < l.length → isL (l.getD i 0) = false) → letN l = i
  | [], i, h, _, _ => by simp at h; rw [h]; simp [letN]
  | c :: t, 0, _, _, h2 => by
    have := h2 (by simp)
    rw [letN, if_neg (by simpa using this)]
  | c :: t, i + 1, h, h1, h2 => by
    have h0 := h1 0 (by omega)
    rw [letN, if_pos (by simpa using h0), letN_is t i (by simpa using h) (fun j hj => by simpa using h1 (j + 1) (by omega)) (fun hi => by simpa using h2 (by simpa using hi))]
theorem letN_all : ∀ (l : List UInt8), letN l = l.length ↔ l.all isL = true
  | [] => by simp [letN]
  | c :: t => by
    have := letN_all t
    rw [letN]
    by_cases h : isL c = true
    · rw [if_pos h, List.all_cons, h, Bool.true_and, ← this, List.length_cons]
      omega
    · rw [if_neg h, List.all_cons, List.length_cons]
      simp [h]
theorem wordR_take : ∀ (m : Nat) (l : List UInt8), wordR m l = (l.take (min (letN l) m)).map small
  | 0, l => by simp [wordR]
  | _ + 1, [] => by simp [wordR]
  | m + 1, c :: t => by
    rw [wordR, letN, wordR_take m t]
    split
    · rw [show min (letN t + 1) (m + 1) = min (letN t) m + 1 by omega]
      simp
    · simp
theorem wordsF_row : ∀ (l : List UInt8), wordsF true l = wordsE (l.drop (min (letN l + 1) l.length))
  | [] => by simp [wordsF, wordsE]
  | c :: t => by
    rw [wordsF, if_neg (by simp), List.nil_append, letN]
    by_cases h : isL c = true
    · rw [if_pos h, h, wordsF_row t, show min (letN t + 1 + 1) (c :: t).length = min (letN t + 1) t.length + 1 by first | (simp; done) | (simp; omega), List.drop_succ_cons]
    · have h' : isL c = false := by simpa using h
      rw [if_neg h, h', show min (0 + 1) (c :: t).length = 1 by simp]
      rfl
/-- The words of a text: that of the row of letters that it begins with, if there is one; then those behind it. -/
theorem words_row (l : List UInt8) (hl : 0 < l.length) : wordsE l = (if 0 < letN l then [(l.take (min (letN l) 24)).map small] else []) ++ wordsE (l.drop (min (letN l + 1) l.length)) := by
  cases l with
  | nil => simp at hl
  | cons c t =>
    unfold wordsE
    by_cases h : isL c = true
    · have hp : 0 < letN (c :: t) := by rw [letN, if_pos h]; omega
      rw [if_pos hp, wordsF, if_pos ⟨h, rfl⟩, wordR_take, h, wordsF_row t]
      congr 1
      rw [letN, if_pos h, show min (letN t + 1 + 1) (c :: t).length = min (letN t + 1) t.length + 1 by first | (simp; done) | (simp; omega), List.drop_succ_cons]
      rfl
    · have h' : isL c = false := by simpa using h
      have hp : letN (c :: t) = 0 := by rw [letN, if_neg h]
      rw [hp, wordsF, h', show min (0 + 1) (c :: t).length = 1 by simp]
      simp
theorem one_is (l : List UInt8) : oneE l = if l.length = 0 ∨ 24 < l.length ∨ letN l < l.length then ([], false) else (l.map small, true) := by
  unfold oneE
  have h1 := letN_all l
  have h2 := letN_le l
  by_cases h : l.all isL = true
  · have := h1.2 h
    by_cases h3 : 1 ≤ l.length ∧ l.length ≤ 24
    · rw [if_pos ⟨h3, h⟩, if_neg (by omega)]
    · rw [if_neg (fun e => h3 e.1), if_pos (by omega)]
  · have : letN l ≠ l.length := fun e => h (h1.1 e)
    rw [if_neg (fun e => h e.2), if_pos (by omega)]

theorem less_le : ∀ (a b : List UInt8), Op.bytesLess a b = true → a < b
  | a, [], h => by cases a <;> simp [Op.bytesLess] at h
  | [], _ :: _, _ => List.Lex.nil
  | x :: a, y :: b, h => by
    simp only [Op.bytesLess, Bool.or_eq_true, Bool.and_eq_true, decide_eq_true_eq, beq_iff_eq] at h
    rcases h with h | ⟨rfl, h⟩
    · exact List.Lex.rel h
    · exact List.Lex.cons (less_le a b h)
theorem Rising.nodup {l : List (List UInt8)} (h : Rising l) : l.Nodup := h.imp fun {a b} hab e => by subst e; rw [less_self] at hab; cases hab
/-- A row of keys, each once, that has just the texts of a rising list, sorted, is this list. -/
theorem sort_is {ss l : List (List UInt8)} (hn : ss.Nodup) (hr : Rising l) (hm : ∀ x, x ∈ ss ↔ x ∈ l) : ss.mergeSort (fun x y => decide (x ≤ y)) = l := by
  have tr : ∀ a b c : List UInt8, decide (a ≤ b) = true → decide (b ≤ c) = true → decide (a ≤ c) = true := fun a b c h1 h2 => by simp only [decide_eq_true_eq] at *; exact List.le_trans h1 h2
  have to : ∀ a b : List UInt8, (decide (a ≤ b) || decide (b ≤ a)) = true := fun a b => by simp only [Bool.or_eq_true, decide_eq_true_eq]; exact List.le_total a b
  have hp : ss.Perm l := (List.perm_ext_iff_of_nodup hn hr.nodup).2 hm
  refine List.Perm.eq_of_pairwise (le := fun a b => decide (a ≤ b) = true) (fun a b _ _ h1 h2 => ?_) (List.pairwise_mergeSort tr to ss) (hr.imp fun {a b} h => ?_) ((List.mergeSort_perm ss _).trans hp)
  · simp only [decide_eq_true_eq] at h1 h2
    exact List.le_antisymm h1 h2
  · simp only [decide_eq_true_eq]
    exact List.le_of_lt (less_le a b h)
end Wrd
end Go.Proofs.YtcphapdjimeoaaaGreat

