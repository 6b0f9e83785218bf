/- Words of texts, as plain mathematics: letters, words, terms; texts in the order of their bytes. -/
import Derived.Test.YtnkiopfpcddliaaBase
namespace Go.Proofs.Ytnkiopfpcddliaa
namespace Wrd

/-- A letter, small; 0, if it is none. -/
def small (c : UInt8) : UInt8 := if (97 ≤ c.toNat ∧ c.toNat ≤ 122) ∨ (48 ≤ c.toNat ∧ c.toNat ≤ 57) then c else if 65 ≤ c.toNat ∧ c.toNat ≤ 90 then c + 32 else 0
def isL (c : UInt8) : Bool := !(small c == 0)
/-- The word that begins here, of at most m letters. -/
def wordR : Nat → List UInt8 → List UInt8
  | 0, _ => []
  | _ + 1, [] => []
  | m + 1, c :: t => if isL c = true then small c :: wordR m t else []
/-- The words of what is left, behind a letter or not. -/
def wordsF : Bool → List UInt8 → List (List UInt8)
  | _, [] => []
  | p, c :: t => (if isL c = true ∧ p = false then [wordR 24 (c :: t)] else []) ++ wordsF (isL c) t
def wordsE (l : List UInt8) : List (List UInt8) := wordsF false l
def oneE (l : List UInt8) : List UInt8 × Bool := if (1 ≤ l.length ∧ l.length ≤ 24) ∧ l.all isL = true then (l.map small, true) else ([], false)
def bareE (l : List UInt8) : List UInt8 := if l.head? = some 64 then l.tail else l
def termE (l : List UInt8) : Bool := (oneE (bareE l)).2 && decide ((oneE (bareE l)).1 = bareE l)
/-- A text put into a rising list. -/
def putT : List (List UInt8) → List UInt8 → List (List UInt8)
  | [], s => [s]
  | a :: t, s => if Op.bytesLess a s = true then a :: putT t s else if a = s then a :: t else s :: a :: t
def termsE (txt src : List UInt8) : List (List UInt8) := ((wordsE src).map fun w => 64 :: w).foldl putT ((wordsE txt).foldl putT [])

theorem all256 (p : UInt8 → Bool) (h : ∀ i : Fin 256, p (UInt8.ofFin i) = true) (c : UInt8) : p c = true := by
  have := h c.toFin
  simpa using this
theorem small_small (c : UInt8) : small (small c) = small c := by
  have := all256 (fun c => small (small c) == small c) (by decide +kernel) c
  simpa using this
theorem isL_small (c : UInt8) : isL (small c) = isL c := by unfold isL; rw [small_small]
theorem small_down (c : UInt8) (h1 : 97 ≤ c.toNat) (h2 : c.toNat ≤ 122) : small (c - 32) = small c := by
  have := all256 (fun c => !(decide (97 ≤ c.toNat) && decide (c.toNat ≤ 122)) || small (c - 32) == small c) (by decide +kernel) c
  simpa [h1, h2] using this
theorem small_up (c : UInt8) (h1 : 65 ≤ c.toNat) (h2 : c.toNat ≤ 90) : small (c + 32) = small c := by
  have := all256 (fun c => !(decide (65 ≤ c.toNat) && decide (c.toNat ≤ 90)) || small (c + 32) == small c) (by decide +kernel) c
  simpa [h1, h2] using this
theorem isL_at : isL 64 = false := by decide
theorem isL_iff {c : UInt8} : isL c = true ↔ small c ≠ 0 := by unfold isL; simp
theorem isL_no {c : UInt8} : isL c = false ↔ small c = 0 := by unfold isL; simp

theorem wordR_len : ∀ (m : Nat) (l : List UInt8), (wordR m l).length ≤ m
  | 0, _ => by simp [wordR]
  | _ + 1, [] => by simp [wordR]
  | m + 1, c :: t => by
    rw [wordR]
    split
    · have := wordR_len m t; simp; omega
    · simp
theorem wordR_small : ∀ (m : Nat) (l : List UInt8) (c : UInt8), c ∈ wordR m l → isL c = true ∧ small c = c
  | 0, _, c, h => by simp [wordR] at h
  | _ + 1, [], c, h => by simp [wordR] at h
  | m + 1, x :: t, c, h => by
    rw [wordR] at h
    split at h
    · rename_i hx
      rcases List.mem_cons.1 h with rfl | h
      · exact ⟨by rw [isL_small]; exact hx, small_small x⟩
      · exact wordR_small m t c h
    · simp at h
theorem wordR_map : ∀ (m : Nat) (l : List UInt8), wordR m (l.map small) = wordR m l
  | 0, _ => by simp [wordR]
  | _ + 1, [] => by simp [wordR]
  | m + 1, x :: t => by rw [List.map_cons, wordR, wordR, isL_small, small_small, wordR_map m t]
theorem wordR_stop {c : UInt8} (hc : isL c = false) (b : List UInt8) : ∀ (m : Nat) (a : List UInt8), wordR m (a ++ c :: b) = wordR m a
  | 0, _ => by simp [wordR]
  | _ + 1, [] => by simp [wordR, hc]
  | m + 1, x :: t => by rw [List.cons_append, wordR, wordR, wordR_stop hc b m t]
/-- Of a row of letters that are small. -/
theorem wordR_self : ∀ (m : Nat) (l : List UInt8), (∀ c, c ∈ l → isL c = true ∧ small c = c) → l.length ≤ m → wordR m l = l
  | 0, l, _, h => by obtain rfl := List.eq_nil_of_length_eq_zero (by omega : l.length = 0); simp [wordR]
  | _ + 1, [], _, _ => by simp [wordR]
  | m + 1, x :: t, h, hl => by
    have hx := h x (by simp)
    rw [wordR, if_pos hx.1, hx.2, wordR_self m t (fun c hc => h c (by simp [hc])) (by simpa using hl)]
theorem wordsF_map : ∀ (p : Bool) (l : List UInt8), wordsF p (l.map small) = wordsF p l
  | _, [] => by simp [wordsF]
  | p, x :: t => by
    rw [List.map_cons, wordsF, wordsF, isL_small, wordsF_map (isL x) t, ← List.map_cons, wordR_map]
theorem words_case {a b : List UInt8} (h : a.map small = b.map small) : wordsE a = wordsE b := by
  unfold wordsE
  rw [← wordsF_map false a, h, wordsF_map]
theorem wordsF_join {c : UInt8} (hc : isL c = false) (b : List UInt8) : ∀ (p : Bool) (a : List UInt8), wordsF p (a ++ c :: b) = wordsF p a ++ wordsF false b
  | p, [] => by rw [List.nil_append, wordsF, wordsF, hc]; simp
  | p, x :: t => by
    rw [List.cons_append, wordsF, wordsF, wordsF_join hc b (isL x) t, ← List.cons_append, wordR_stop hc b 24 (x :: t), List.append_assoc]
theorem words_join {c : UInt8} (hc : isL c = false) (a b : List UInt8) : wordsE (a ++ c :: b) = wordsE a ++ wordsE b := wordsF_join hc b false a
theorem wordsF_len : ∀ (p : Bool) (l : List UInt8), (wordsF p l).length ≤ l.length
  | _, [] => by simp [wordsF]
  | p, x :: t => by
    have := wordsF_len (isL x) t
    rw [wordsF]
    split <;> simp <;> omega
theorem words_len (l : List UInt8) : (wordsE l).length ≤ l.length := wordsF_len false l
/-- What a word is. -/
def Word (w : List UInt8) : Prop := (1 ≤ w.length ∧ w.length ≤ 24) ∧ ∀ c, c ∈ w → isL c = true ∧ small c = c
theorem wordsF_each : ∀ (p : Bool) (l : List UInt8) (w : List UInt8), w ∈ wordsF p l → Word w
  | _, [], w, h => by simp [wordsF] at h
  | p, x :: t, w, h => by
    rw [wordsF, List.mem_append] at h
    rcases h with h | h
    · split at h
      · rename_i hx
        rw [List.mem_singleton] at h
        subst h
        refine ⟨⟨?_, wordR_len 24 _⟩, fun c hc => wordR_small 24 _ c hc⟩
        rw [wordR, if_pos hx.1]
        simp
      · simp at h
    · exact wordsF_each _ t w h
theorem words_each {l w : List UInt8} (h : w ∈ wordsE l) : Word w := wordsF_each false l w h
theorem Word.all {w : List UInt8} (h : Word w) : w.all isL = true := List.all_eq_true.2 fun c hc => (h.2 c hc).1
theorem Word.one {w : List UInt8} (h : Word w) : oneE w = (w, true) := by
  unfold oneE
  rw [if_pos ⟨h.1, h.all⟩]
  have : w.map small = w := by
    conv => rhs; rw [← List.map_id w]
    exact List.map_congr_left fun c hc => (h.2 c hc).2
  rw [this]
theorem wordsF_letters : ∀ (l : List UInt8), (∀ c, c ∈ l → isL c = true) → wordsF true l = []
  | [], _ => by simp [wordsF]
  | x :: t, h => by
    rw [wordsF, if_neg (by simp), h x (by simp), wordsF_letters t (fun c hc => h c (by simp [hc]))]
    rfl
theorem Word.words {w : List UInt8} (h : Word w) : wordsE w = [w] := by
  cases w with
  | nil => have := h.1.1; simp at this
  | cons x t =>
    unfold wordsE
    rw [wordsF, if_pos ⟨(h.2 x (by simp)).1, rfl⟩, wordR_self 24 _ h.2 h.1.2, (h.2 x (by simp)).1, wordsF_letters t (fun c hc => (h.2 c (by simp [hc])).1), List.append_nil]
theorem Word.bare {w : List UInt8} (h : Word w) : bareE w = w := by
  unfold bareE
  cases w with
  | nil => simp
  | cons x t =>
    rw [if_neg]
    intro e
    simp at e
    have := (h.2 x (by simp)).1
    rw [e, isL_at] at this
    cases this
theorem Word.term {w : List UInt8} (h : Word w) : termE w = true := by unfold termE; rw [h.bare, h.one]; simp
theorem Word.termAt {w : List UInt8} (h : Word w) : termE (64 :: w) = true := by
  have : bareE (64 :: w) = w := by simp [bareE]
  unfold termE; rw [this, h.one]; simp

theorem less_self : ∀ (a : List UInt8), Op.bytesLess a a = false
  | [] => by simp [Op.bytesLess]
  | x :: t => by simp [Op.bytesLess, less_self t]
theorem less_trans : ∀ (a b c : List UInt8), Op.bytesLess a b = true → Op.bytesLess b c = true → Op.bytesLess a c = true
  | a, [], c, h, _ => by cases a <;> simp [Op.bytesLess] at h
  | a, _ :: _, [], _, h => by simp [Op.bytesLess] at h
  | [], _ :: _, _ :: _, _, _ => by simp [Op.bytesLess]
  | x :: a, y :: b, z :: c, h1, h2 => by
    simp only [Op.bytesLess, Bool.or_eq_true, Bool.and_eq_true, decide_eq_true_eq, beq_iff_eq] at h1 h2 ⊢
    rcases h1 with h1 | ⟨rfl, h1⟩
    · rcases h2 with h2 | ⟨rfl, h2⟩
      · exact .inl (UInt8.lt_trans h1 h2)
      · exact .inl h1
    · rcases h2 with h2 | ⟨rfl, h2⟩
      · exact .inl h2
      · exact .inr ⟨rfl, less_trans a b c h1 h2⟩
theorem less_total : ∀ (a b : List UInt8), Op.bytesLess a b = false → a ≠ b → Op.bytesLess b a = true
  | [], [], _, h => absurd rfl h
  | [], _ :: _, h, _ => by simp [Op.bytesLess] at h
  | _ :: _, [], _, _ => by simp [Op.bytesLess]
  | x :: a, y :: b, h1, h2 => by
    simp only [Op.bytesLess, Bool.or_eq_false_iff, Bool.and_eq_false_iff, decide_eq_false_iff_not, beq_eq_false_iff_ne] at h1
    simp only [Op.bytesLess, Bool.or_eq_true, Bool.and_eq_true, decide_eq_true_eq, beq_iff_eq]
    rcases UInt8.lt_or_eq_of_le (UInt8.not_lt.1 h1.1) with h | h
    · exact .inl h
    · subst h
      exact .inr ⟨rfl, less_total a b (h1.2.resolve_left (fun h => h rfl)) (fun e => h2 (by rw [e]))⟩
theorem mem_putT {s z : List UInt8} : ∀ {l : List (List UInt8)}, z ∈ putT l s ↔ z ∈ l ∨ z = s
  | [] => by simp [putT]
  | a :: t => by
    rw [putT]
    split
    · rw [List.mem_cons, mem_putT, List.mem_cons, or_assoc]
    · split
      · rename_i h; subst h; simp only [List.mem_cons]; constructor
        · exact .inl
        · rintro (h | h)
          · exact h
          · exact .inl h
      · simp only [List.mem_cons]; constructor
        · rintro (h | h | h)
          · exact .inr h
          · exact .inl (.inl h)
          · exact .inl (.inr h)
        · rintro ((h | h) | h)
          · exact .inr (.inl h)
          · exact .inr (.inr h)
          · exact .inl h
def Rising (l : List (List UInt8)) : Prop := l.Pairwise fun a b => Op.bytesLess a b = true
theorem rising_putT {s : List UInt8} : ∀ {l : List (List UInt8)}, Rising l → Rising (putT l s)
  | [], _ => by simp [putT, Rising]
  | a :: t, h => by
    have h' := List.pairwise_cons.1 h
    rw [putT]
    split
    · rename_i ha
      refine List.pairwise_cons.2 ⟨fun z hz => ?_, rising_putT h'.2⟩
      rcases mem_putT.1 hz with hz | rfl
      · exact h'.1 z hz
      · exact ha
    · split
      · exact h
      · rename_i ha hne
        have hs := less_total a s (by simpa using ha) hne
        refine List.pairwise_cons.2 ⟨fun z hz => ?_, h⟩
        rcases List.mem_cons.1 hz with rfl | hz
        · exact hs
        · exact less_trans s a z hs (h'.1 z hz)
theorem fold_facts : ∀ (l out : List (List UInt8)), Rising out → Rising (l.foldl putT out) ∧ ∀ z, z ∈ l.foldl putT out ↔ z ∈ out ∨ z ∈ l
  | [], out, h => ⟨h, fun z => by simp⟩
  | s :: l, out, h => by
    obtain ⟨h1, h2⟩ := fold_facts l (putT out s) (rising_putT h)
    refine ⟨h1, fun z => ?_⟩
    rw [List.foldl_cons, h2 z, mem_putT, List.mem_cons, or_assoc]
theorem putT_len (s : List UInt8) : ∀ (l : List (List UInt8)), (putT l s).length ≤ l.length + 1
  | [] => by simp [putT]
  | a :: t => by
    have := putT_len s t
    rw [putT]
    split
    · simp; omega
    · split <;> simp
theorem terms_rising (txt src : List UInt8) : Rising (termsE txt src) := (fold_facts _ _ (fold_facts _ [] List.Pairwise.nil).1).1
theorem mem_terms {txt src z : List UInt8} : z ∈ termsE txt src ↔ z ∈ wordsE txt ∨ ∃ w, w ∈ wordsE src ∧ z = 64 :: w := by
  unfold termsE
  rw [(fold_facts _ _ (fold_facts _ [] List.Pairwise.nil).1).2, (fold_facts _ [] List.Pairwise.nil).2, List.mem_map]
  simp only [List.not_mem_nil, false_or]
  constructor
  · rintro (h | ⟨w, h1, h2⟩)
    · exact .inl h
    · exact .inr ⟨w, h1, h2.symm⟩
  · rintro (h | ⟨w, h1, h2⟩)
    · exact .inl h
    · exact .inr ⟨w, h1, h2.symm⟩
theorem terms_term {txt src z : List UInt8} (h : z ∈ termsE txt src) : termE z = true := by
  rcases mem_terms.1 h with h | ⟨w, h2, rfl⟩
  · exact (words_each h).term
  · exact (words_each h2).termAt
theorem example15 : wordsE [71, 69, 84, 32, 47, 97, 45, 98, 32, 72, 84, 84, 80, 32, 50, 48, 48] = [[103, 101, 116], [97], [98], [104, 116, 116, 112], [50, 48, 48]] := by decide +kernel
end Wrd
end Go.Proofs.Ytnkiopfpcddliaa
