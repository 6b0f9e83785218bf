/- Tokens of bytes, and bytes of tokens, as values: the longest, the nearest; there and back. Plain mathematics of chapter 10. -/
import Derived.Test.YtklofjgfecpkiaaTokVal
namespace Go.Proofs.Ytklofjgfecpkiaa.Lz

/-- How many bytes from place p on are the same as those d ahead: f more at most. -/
def runF (b : List UInt8) (p d : Nat) : Nat → Nat → Nat
  | 0, k => k
  | f + 1, k => if p + k < b.length ∧ b.getD (p + k - d) 0 = b.getD (p + k) 0 then runF b p d f (k + 1) else k
def run (b : List UInt8) (p d : Nat) : Nat := runF b p d 257 0
theorem runF_ge (b : List UInt8) (p d : Nat) : ∀ f k, k ≤ runF b p d f k ∧ runF b p d f k ≤ k + f
  | 0, k => by rw [runF]; omega
  | f + 1, k => by
    have := runF_ge b p d f (k + 1)
    rw [runF]
    split <;> omega
theorem runF_same (b : List UInt8) (p d : Nat) : ∀ f k j, k ≤ j → j < runF b p d f k → p + j < b.length ∧ b.getD (p + j - d) 0 = b.getD (p + j) 0
  | 0, k, j, h1, h2 => by rw [runF] at h2; omega
  | f + 1, k, j, h1, h2 => by
    rw [runF] at h2
    split at h2
    · rename_i h
      by_cases e : j = k
      · rw [e]; exact h
      · exact runF_same b p d f (k + 1) j (by omega) h2
    · omega
theorem runF_stop (b : List UInt8) (p d : Nat) : ∀ f k, runF b p d f k < k + f → ¬ (p + runF b p d f k < b.length ∧ b.getD (p + runF b p d f k - d) 0 = b.getD (p + runF b p d f k) 0)
  | 0, k, h => by rw [runF] at h; omega
  | f + 1, k, h => by
    rw [runF] at h ⊢
    split at h
    · rename_i hc
      rw [if_pos hc]
      exact runF_stop b p d f (k + 1) (by omega)
    · rename_i hc
      rw [if_neg hc]
      exact hc
section
variable {b : List UInt8} {p d : Nat}
theorem run_le : run b p d ≤ 257 := by have := runF_ge b p d 257 0; unfold run; omega
theorem run_same {j : Nat} (h : j < run b p d) : p + j < b.length ∧ b.getD (p + j - d) 0 = b.getD (p + j) 0 := runF_same b p d 257 0 j (by omega) h
theorem run_end (h : 0 < run b p d) : p + run b p d ≤ b.length := by
  have := (run_same (b := b) (p := p) (d := d) (j := run b p d - 1) (by omega)).1
  omega
theorem run_all {n : Nat} (hn : n ≤ 257) (h : ∀ j, j < n → p + j < b.length ∧ b.getD (p + j - d) 0 = b.getD (p + j) 0) : n ≤ run b p d := by
  refine Classical.byContradiction fun hc => ?_
  have := runF_stop b p d 257 0 (by have : run b p d < n := by omega
                                    unfold run at this; omega)
  exact this (h (runF b p d 257 0) (by have : run b p d < n := by omega
                                       exact this))
end
/-- The longest of the places from 1 to m ahead; of several the nearest. -/
def best (b : List UInt8) (p : Nat) : Nat → Nat × Nat
  | 0 => (0, 0)
  | m + 1 => if (best b p m).1 < run b p (m + 1) then (run b p (m + 1), m + 1) else best b p m
theorem best_top (b : List UInt8) (p : Nat) : ∀ m d, 1 ≤ d → d ≤ m → run b p d ≤ (best b p m).1
  | 0, d, h1, h2 => by omega
  | m + 1, d, h1, h2 => by
    rw [best]
    split
    · rename_i h
      by_cases e : d = m + 1
      · rw [e]; exact Nat.le_refl _
      · have := best_top b p m d h1 (by omega)
        dsimp only
        omega
    · by_cases e : d = m + 1
      · rw [e]; omega
      · exact best_top b p m d h1 (by omega)
theorem best_near (b : List UInt8) (p : Nat) : ∀ m d, 1 ≤ d → d < (best b p m).2 → run b p d < (best b p m).1
  | 0, d, h1, h2 => by rw [best] at h2; simp at h2
  | m + 1, d, h1, h2 => by
    rw [best] at h2 ⊢
    split at h2
    · rename_i h
      rw [if_pos h]
      have := best_top b p m d h1 (by omega)
      dsimp only
      omega
    · rename_i h
      rw [if_neg h]
      exact best_near b p m d h1 h2
theorem best_is (b : List UInt8) (p : Nat) : ∀ m, 0 < (best b p m).1 → 1 ≤ (best b p m).2 ∧ (best b p m).2 ≤ m ∧ (best b p m).1 = run b p (best b p m).2
  | 0, h => by rw [best] at h; simp at h
  | m + 1, h => by
    rw [best] at h ⊢
    split
    · exact ⟨by dsimp only; omega, by dsimp only; omega, rfl⟩
    · rename_i hc
      rw [if_neg hc] at h
      obtain ⟨h1, h2, h3⟩ := best_is b p m h
      exact ⟨h1, by omega, h3⟩
theorem best_le (b : List UInt8) (p m : Nat) : (best b p m).1 ≤ 257 ∧ (best b p m).2 ≤ m := by
  by_cases h : 0 < (best b p m).1
  · obtain ⟨_, h2, h3⟩ := best_is b p m h
    exact ⟨by rw [h3]; exact run_le, h2⟩
  · refine ⟨by omega, ?_⟩
    clear h
    induction m with
    | zero => rw [best]; simp
    | succ m ih =>
      rw [best]
      split
      · simp
      · omega
def bestAt (b : List UInt8) (p : Nat) : Nat × Nat := best b p (min 4095 p)
def tokAt (b : List UInt8) (p : Nat) : TokV := if 3 ≤ (bestAt b p).1 then ⟨0, (bestAt b p).1, (bestAt b p).2⟩ else ⟨b.getD p 0, 0, 0⟩
def stepAt (b : List UInt8) (p : Nat) : Nat := if 3 ≤ (bestAt b p).1 then (bestAt b p).1 else 1
theorem step_pos (b : List UInt8) (p : Nat) : 1 ≤ stepAt b p := by unfold stepAt; split <;> omega
/-- The tokens from place p on. -/
def toks (b : List UInt8) (p : Nat) : List TokV := if p < b.length then tokAt b p :: toks b (p + stepAt b p) else []
termination_by b.length - p
decreasing_by have := step_pos b p; omega
theorem toks_end {b : List UInt8} {p : Nat} (h : ¬ p < b.length) : toks b p = [] := by rw [toks, if_neg h]
theorem toks_next {b : List UInt8} {p : Nat} (h : p < b.length) : toks b p = tokAt b p :: toks b (p + stepAt b p) := by rw [toks, if_pos h]
theorem step_in {b : List UInt8} {p : Nat} (h : p < b.length) : p + stepAt b p ≤ b.length := by
  unfold stepAt
  split
  · rename_i h3
    obtain ⟨_, _, e⟩ := best_is b p (min 4095 p) (by unfold bestAt at h3; omega)
    unfold bestAt at h3 ⊢
    rw [e] at h3 ⊢
    exact run_end (by omega)
  · omega

/-- May the token be? -/
def may (t : TokV) : Bool := if t.len = 0 then decide (t.dist = 0) else decide (t.lit = 0 ∧ 3 ≤ t.len ∧ t.len ≤ 257 ∧ 1 ≤ t.dist ∧ t.dist ≤ 4095)
theorem tok_may (b : List UInt8) (p : Nat) : may (tokAt b p) = true := by
  unfold tokAt
  split
  · rename_i h3
    have h := best_is b p (min 4095 p) (by unfold bestAt at h3; omega)
    have h2 := best_le b p (min 4095 p)
    unfold bestAt at h3 ⊢
    unfold may
    rw [if_neg (by dsimp only; omega)]
    exact decide_eq_true ⟨rfl, by dsimp only; omega, by dsimp only; omega, by dsimp only; omega, by dsimp only; omega⟩
  · unfold may
    rw [if_pos rfl]
    exact decide_eq_true rfl
theorem toks_may (b : List UInt8) (p : Nat) : ∀ t, t ∈ toks b p → may t = true := by
  intro t ht
  by_cases h : p < b.length
  · rw [toks_next h] at ht
    rcases List.mem_cons.1 ht with rfl | ht
    · exact tok_may b p
    · exact toks_may b (p + stepAt b p) t ht
  · rw [toks_end h] at ht
    cases ht
termination_by b.length - p
decreasing_by have := step_pos b p; omega
theorem toks_len (b : List UInt8) (p : Nat) : (toks b p).length ≤ b.length - p := by
  by_cases h : p < b.length
  · have h1 := toks_len b (p + stepAt b p)
    have h2 := step_pos b p
    rw [toks_next h, List.length_cons]
    have := step_in h
    omega
  · rw [toks_end h]
    exact Nat.zero_le _
termination_by b.length - p
decreasing_by have := step_pos b p; omega

/-- k bytes, each as it stands d ahead. -/
def copy (d : Nat) : Nat → List UInt8 → List UInt8
  | 0, out => out
  | k + 1, out => copy d k (out ++ [out.getD (out.length - d) 0])
def sizeT (t : TokV) : Nat := if t.len = 0 then 1 else t.len.toNat
def playT (out : List UInt8) (t : TokV) : List UInt8 := if t.len = 0 then out ++ [t.lit] else copy t.dist.toNat t.len.toNat out
def playR (most : Int) : List TokV → List UInt8 → List UInt8 × Int
  | [], out => (out, 0)
  | t :: r, out => if may t = false then ([], 7) else if (out.length : Int) < t.dist then ([], 8) else if most < (out.length : Int) + sizeT t then ([], 6) else playR most r (playT out t)
def playE (L : List TokV) (most : Int) : List UInt8 × Int := if most < 0 then ([], 13) else playR most L []
theorem copy_len (d : Nat) : ∀ k out, (copy d k out).length = out.length + k
  | 0, out => rfl
  | k + 1, out => by rw [copy, copy_len d k, List.length_append]; simp; omega
theorem take_snoc {b : List UInt8} {p : Nat} (h : p < b.length) : b.take p ++ [b.getD p 0] = b.take (p + 1) := by
  rw [List.take_add_one, List.getD_eq_getElem?_getD, List.getElem?_eq_getElem h]
  rfl
theorem copy_take {b : List UInt8} {d : Nat} (hd : 1 ≤ d) : ∀ (k p : Nat), d ≤ p → p + k ≤ b.length → (∀ j, j < k → b.getD (p + j - d) 0 = b.getD (p + j) 0) → copy d k (b.take p) = b.take (p + k)
  | 0, p, _, _, _ => rfl
  | k + 1, p, h1, h2, h3 => by
    have hl : (b.take p).length = p := by rw [List.length_take]; omega
    have e : (b.take p).getD ((b.take p).length - d) 0 = b.getD p 0 := by
      have := h3 0 (by omega)
      rw [Nat.add_zero] at this
      rw [hl, ← this]
      simp only [List.getD_eq_getElem?_getD]
      rw [List.getElem?_take, if_pos (by omega)]
    rw [copy, e, take_snoc (by omega), copy_take hd k (p + 1) (by omega) (by omega) (fun j hj => by
      have := h3 (j + 1) (by omega)
      rwa [show p + (j + 1) = p + 1 + j by omega] at this), show p + 1 + k = p + (k + 1) by omega]
theorem play_tok {b : List UInt8} {p : Nat} (h : p < b.length) : playT (b.take p) (tokAt b p) = b.take (p + stepAt b p) ∧ sizeT (tokAt b p) = stepAt b p ∧ ¬ ((p : Int) < (tokAt b p).dist) := by
  unfold tokAt stepAt
  by_cases h3 : 3 ≤ (bestAt b p).1
  · rw [if_pos h3, if_pos h3]
    obtain ⟨e1, e2, e3⟩ := best_is b p (min 4095 p) (by unfold bestAt at h3; omega)
    unfold bestAt at h3 ⊢
    unfold playT sizeT
    refine ⟨?_, by dsimp only; rw [if_neg (by omega)]; omega, by dsimp only; omega⟩
    dsimp only
    rw [if_neg (by omega), Int.toNat_natCast, Int.toNat_natCast]
    rw [e3] at h3 ⊢
    exact copy_take e1 _ _ (by omega) (run_end (by omega)) (fun j hj => (run_same hj).2)
  · rw [if_neg h3, if_neg h3]
    unfold playT sizeT
    refine ⟨by rw [if_pos rfl]; exact take_snoc h, by rw [if_pos rfl], by dsimp only; omega⟩
/-- What was found, played, is what there was; with fewer allowed there is an error. -/
theorem play_back {b : List UInt8} {most : Int} (p : Nat) (hp : p ≤ b.length) (hm : (p : Int) ≤ most) :
    playR most (toks b p) (b.take p) = if (b.length : Int) ≤ most then (b, 0) else ([], 6) := by
  by_cases h : p < b.length
  · obtain ⟨h1, h2, h3⟩ := play_tok h
    have hl : (b.take p).length = p := by rw [List.length_take]; omega
    have hin := step_in h
    rw [toks_next h, playR, tok_may, if_neg (by simp), hl, if_neg h3, h2]
    by_cases hs : most < (p : Int) + (stepAt b p : Nat)
    · rw [if_pos hs, if_neg (by omega)]
    · rw [if_neg hs, h1]
      exact play_back (p + stepAt b p) hin (by omega)
  · have e : p = b.length := by omega
    rw [toks_end h, playR, if_pos (by omega), e, List.take_length]
termination_by b.length - p
decreasing_by have := step_pos b p; omega
theorem play_found (b : List UInt8) (most : Int) (hm : 0 ≤ most) : playE (toks b 0) most = if (b.length : Int) ≤ most then (b, 0) else ([], 6) := by
  unfold playE
  rw [if_neg (by omega)]
  exact play_back 0 (Nat.zero_le _) hm
end Go.Proofs.Ytklofjgfecpkiaa.Lz
