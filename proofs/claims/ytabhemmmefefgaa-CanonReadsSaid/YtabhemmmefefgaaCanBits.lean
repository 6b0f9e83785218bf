/- Lengths as bits, as values: what is written is read. Plain mathematics of chapter 8. -/
import Derived.Test.YtabhemmmefefgaaCanMath
import Derived.Test.YtabhemmmefefgaaBitBackMath
namespace Go.Proofs.Ytabhemmmefefgaa.Can
open Len

/-- The symbols without a length that stand ahead, f at most. -/
def zrun : Nat → List UInt8 → Nat
  | 0, _ => 0
  | _ + 1, [] => 0
  | f + 1, x :: r => if x = 0 then zrun f r + 1 else 0
theorem zrun_le : ∀ (f : Nat) (r : List UInt8), zrun f r ≤ f ∧ zrun f r ≤ r.length
  | 0, _ => by simp [zrun]
  | _ + 1, [] => by simp [zrun]
  | f + 1, x :: r => by
    have := zrun_le f r
    rw [zrun]
    split
    · simp; omega
    · simp
theorem zrun_zero : ∀ (f : Nat) (r : List UInt8), r.take (zrun f r) = List.replicate (zrun f r) 0
  | 0, _ => by simp [zrun]
  | _ + 1, [] => by simp [zrun]
  | f + 1, x :: r => by
    rw [zrun]
    split
    · rename_i h
      rw [List.take_succ_cons, zrun_zero f r, h, List.replicate_succ]
    · simp
theorem zrun_stop : ∀ (f : Nat) (r : List UInt8), zrun f r < f → ∀ y, (r.drop (zrun f r)).head? = some y → y ≠ 0
  | 0, _, h => by simp [zrun] at h
  | _ + 1, [], _ => by simp [zrun]
  | f + 1, x :: r, h => by
    rw [zrun] at h ⊢
    split at h
    · rename_i h0
      rw [if_pos h0, List.drop_succ_cons]
      exact zrun_stop f r (by omega)
    · rename_i h0
      rw [if_neg h0]
      intro y hy
      simp at hy
      rw [← hy]
      exact h0
/-- The bits of lengths. -/
def wbits : List UInt8 → List Bool
  | [] => []
  | x :: r => if x = 0 then Bit.num 0 4 ++ (Bit.num (zrun 63 r) 6 ++ wbits (r.drop (zrun 63 r))) else Bit.num x.toNat 4 ++ wbits r
termination_by l => l.length
decreasing_by all_goals (simp; try omega)
theorem wbits_nil : wbits [] = [] := by rw [wbits]
theorem wbits_used {x : UInt8} (r : List UInt8) (h : x ≠ 0) : wbits (x :: r) = Bit.num x.toNat 4 ++ wbits r := by rw [wbits, if_neg h]
theorem wbits_zero (r : List UInt8) : wbits (0 :: r) = Bit.num 0 4 ++ (Bit.num (zrun 63 r) 6 ++ wbits (r.drop (zrun 63 r))) := by rw [wbits, if_pos rfl]
theorem wbits_len : ∀ l : List UInt8, (wbits l).length ≤ 10 * l.length
  | [] => by rw [wbits_nil]; simp
  | x :: r => by
    by_cases h : x = 0
    · subst h
      have := wbits_len (r.drop (zrun 63 r))
      rw [wbits_zero, List.length_append, List.length_append, Bit.num_length, Bit.num_length]
      rw [List.length_drop] at this
      simp only [List.length_cons]
      omega
    · have := wbits_len r
      rw [wbits_used r h, List.length_append, Bit.num_length]
      simp only [List.length_cons]
      omega
termination_by l => l.length
decreasing_by all_goals (simp; try omega)
/-- What reading makes of the bits from q on: the lengths, the error, the place; out: those that are there. -/
def readR (b : List UInt8) (n q ah : Nat) (out : List UInt8) : List UInt8 × Int × Nat :=
  if out.length < n then
    if Bit.getErr (8 * b.length - q) 4 = 0 then
      if Bit.getNum b q 4 = 0 then
        if Bit.getErr (8 * b.length - (q + 4)) 6 = 0 then
          if ah < 64 ∨ n < out.length + Bit.getNum b (q + 4) 6 + 1 then ([], 7, q + 10)
          else readR b n (q + 10) (Bit.getNum b (q + 4) 6 + 1) (out ++ List.replicate (Bit.getNum b (q + 4) 6 + 1) 0)
        else ([], 1, q + 4)
      else readR b n (q + 4) 64 (out ++ [UInt8.ofNat (Bit.getNum b q 4)])
    else ([], 1, q)
  else if right out then (out, 0, q) else ([], 7, q)
termination_by n - out.length
decreasing_by all_goals (simp; try omega)
def readE (b : List UInt8) (n : Int) (q : Nat) : List UInt8 × Int × Nat := if n < 0 ∨ 300 < n then ([], 13, q) else readR b n.toNat q 64 []
section
variable {b : List UInt8} {n q ah : Nat} {out : List UInt8}
theorem readR_end (h : ¬ out.length < n) : readR b n q ah out = if right out then (out, 0, q) else ([], 7, q) := by rw [readR, if_neg h]
theorem readR_short (h : out.length < n) (h4 : Bit.getErr (8 * b.length - q) 4 ≠ 0) : readR b n q ah out = ([], 1, q) := by rw [readR, if_pos h, if_neg h4]
theorem readR_used (h : out.length < n) (h4 : Bit.getErr (8 * b.length - q) 4 = 0) (h0 : Bit.getNum b q 4 ≠ 0) : readR b n q ah out = readR b n (q + 4) 64 (out ++ [UInt8.ofNat (Bit.getNum b q 4)]) := by rw [readR, if_pos h, if_pos h4, if_neg h0]
theorem readR_short6 (h : out.length < n) (h4 : Bit.getErr (8 * b.length - q) 4 = 0) (h0 : Bit.getNum b q 4 = 0) (h6 : Bit.getErr (8 * b.length - (q + 4)) 6 ≠ 0) : readR b n q ah out = ([], 1, q + 4) := by rw [readR, if_pos h, if_pos h4, if_pos h0, if_neg h6]
theorem readR_bad (h : out.length < n) (h4 : Bit.getErr (8 * b.length - q) 4 = 0) (h0 : Bit.getNum b q 4 = 0) (h6 : Bit.getErr (8 * b.length - (q + 4)) 6 = 0) (hb : ah < 64 ∨ n < out.length + Bit.getNum b (q + 4) 6 + 1) : readR b n q ah out = ([], 7, q + 10) := by
  rw [readR, if_pos h, if_pos h4, if_pos h0, if_pos h6, if_pos hb]
theorem readR_run (h : out.length < n) (h4 : Bit.getErr (8 * b.length - q) 4 = 0) (h0 : Bit.getNum b q 4 = 0) (h6 : Bit.getErr (8 * b.length - (q + 4)) 6 = 0) (hb : ¬ (ah < 64 ∨ n < out.length + Bit.getNum b (q + 4) 6 + 1)) :
    readR b n q ah out = readR b n (q + 10) (Bit.getNum b (q + 4) 6 + 1) (out ++ List.replicate (Bit.getNum b (q + 4) 6 + 1) 0) := by
  rw [readR, if_pos h, if_pos h4, if_pos h0, if_pos h6, if_neg hb]
end
/-- What was written is read. -/
theorem read_back {l b : List UInt8} (hr : right l = true) : ∀ (suf pre : List UInt8) (P Q : List Bool) (ah : Nat), l = pre ++ suf → Bit.Packs b (P ++ wbits suf ++ Q) → (64 ≤ ah ∨ ∀ y, suf.head? = some y → y ≠ 0) →
    readR b l.length P.length ah pre = (l, 0, P.length + (wbits suf).length)
  | [], pre, P, Q, ah, e, _, _ => by
    rw [List.append_nil] at e
    subst e
    rw [readR_end (by omega), if_pos hr, wbits_nil]
    rfl
  | x :: r, pre, P, Q, ah, e, hP, ha => by
    have hl : pre.length < l.length := by rw [e]; simp
    have hx15 : x.toNat ≤ 15 := by
      have h := (right_facts hr).2.1 pre.length hl
      unfold lenAt at h
      rw [e, List.getD_eq_getElem?_getD, List.getElem?_append_right (Nat.le_refl _), Nat.sub_self] at h
      exact h
    by_cases hx : x = 0
    · subst hx
      rw [wbits_zero] at hP ⊢
      have hz := zrun_le 63 r
      have h4 := Bit.get_back (x := 0) (k := 4) (P := P) (Q := Bit.num (zrun 63 r) 6 ++ wbits (r.drop (zrun 63 r)) ++ Q) (by simpa [List.append_assoc] using hP) (by omega) (by decide)
      have h6 := Bit.get_back (x := zrun 63 r) (k := 6) (P := P ++ Bit.num 0 4) (Q := wbits (r.drop (zrun 63 r)) ++ Q) (by simpa [List.append_assoc] using hP) (by omega) (by omega)
      rw [List.length_append, Bit.num_length] at h6
      have a1 : Bit.getErr (8 * b.length - P.length) 4 = 0 := h4.1
      have a2 : Bit.getNum b P.length 4 = 0 := h4.2.1
      have a3 : Bit.getErr (8 * b.length - (P.length + 4)) 6 = 0 := h6.1
      have a4 : Bit.getNum b (P.length + 4) 6 = zrun 63 r := h6.2.1
      have ha2 : 64 ≤ ah := by
        rcases ha with h | h
        · exact h
        · exact absurd rfl (h 0 rfl)
      have hll : l.length = pre.length + 1 + r.length := by rw [e]; simp; omega
      rw [readR_run hl a1 a2 a3 (by rw [a4]; omega), a4]
      have e2 : l = (pre ++ List.replicate (zrun 63 r + 1) 0) ++ r.drop (zrun 63 r) := by
        rw [e, List.replicate_succ, ← zrun_zero 63 r]
        simp
      have IH := read_back hr (r.drop (zrun 63 r)) (pre ++ List.replicate (zrun 63 r + 1) 0) (P ++ Bit.num 0 4 ++ Bit.num (zrun 63 r) 6) Q (zrun 63 r + 1) e2 (by simpa [List.append_assoc] using hP) (by
        by_cases h : zrun 63 r < 63
        · exact .inr (zrun_stop 63 r h)
        · exact .inl (by omega))
      rw [List.length_append, List.length_append, Bit.num_length, Bit.num_length] at IH
      rw [show P.length + 10 = P.length + 4 + 6 by omega, IH]
      simp only [List.length_append, Bit.num_length]
      congr 2
      omega
    · rw [wbits_used r hx] at hP ⊢
      have h4 := Bit.get_back (x := x.toNat) (k := 4) (P := P) (Q := wbits r ++ Q) (by simpa [List.append_assoc] using hP) (by omega) (by omega)
      have a1 : Bit.getErr (8 * b.length - P.length) 4 = 0 := h4.1
      have a2 : Bit.getNum b P.length 4 = x.toNat := h4.2.1
      have hx0 : x.toNat ≠ 0 := fun h => hx (UInt8.toNat_inj.1 h)
      rw [readR_used hl a1 (by rw [a2]; exact hx0), a2, UInt8.ofNat_toNat]
      have IH := read_back hr r (pre ++ [x]) (P ++ Bit.num x.toNat 4) Q 64 (by rw [e]; simp) (by simpa [List.append_assoc] using hP) (.inl (Nat.le_refl _))
      rw [List.length_append, Bit.num_length] at IH
      rw [IH]
      simp only [List.length_append, Bit.num_length]
      congr 2
      omega
termination_by suf => suf.length
decreasing_by all_goals (simp; try omega)
end Go.Proofs.Ytabhemmmefefgaa.Can
