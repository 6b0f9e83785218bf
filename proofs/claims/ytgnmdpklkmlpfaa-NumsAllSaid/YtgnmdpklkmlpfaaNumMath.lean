/- Numbers as bytes, seven bits a byte: plain mathematics. -/
import Derived.Test.YtgnmdpklkmlpfaaOwn
namespace Go.Proofs.Ytgnmdpklkmlpfaa
open Go.RowKit

namespace Num
/-- A number's bytes; f: how many there may be. -/
def encF : Nat → Nat → List UInt8
  | 0, _ => []
  | f + 1, x => if x < 128 then [UInt8.ofNat x] else UInt8.ofNat (128 + x % 128) :: encF f (x / 128)
def enc (x : Nat) : List UInt8 := encF 10 x
theorem encF_small {f x : Nat} (h : x < 128) : encF (f + 1) x = [UInt8.ofNat x] := by rw [encF, if_pos h]
theorem encF_big {f x : Nat} (h : ¬ x < 128) : encF (f + 1) x = UInt8.ofNat (128 + x % 128) :: encF f (x / 128) := by rw [encF, if_neg h]
theorem encF_len : ∀ (f x : Nat), (encF f x).length ≤ f
  | 0, _ => by simp [encF]
  | f + 1, x => by
    rw [encF]
    split
    · simp
    · have := encF_len f (x / 128)
      simp; omega
theorem enc_len (x : Nat) : (enc x).length ≤ 10 := encF_len 10 x
theorem enc_pos (x : Nat) : 0 < (enc x).length := by
  unfold enc
  rw [encF]
  split <;> simp

/-- What stands in the bytes from a place on: the number, the place behind it, an error. i: how many of its bytes are taken, x: what they make. -/
def scanF (b : List UInt8) (q : Nat) : Nat → Nat → Nat → Nat × Nat × Int
  | 0, _, _ => (0, q, 2)
  | f + 1, i, x =>
    if b.length ≤ q + i then (0, q, 1)
    else if (i = 9 ∧ (b.getD (q + i) 0).toNat ≠ 1) ∨ (0 < i ∧ (b.getD (q + i) 0).toNat = 0) then (0, q, 2)
    else if (b.getD (q + i) 0).toNat < 128 then (x + (b.getD (q + i) 0).toNat % 128 * 128 ^ i, q + i + 1, 0)
    else scanF b q f (i + 1) (x + (b.getD (q + i) 0).toNat % 128 * 128 ^ i)
def scan (b : List UInt8) (q : Nat) : Nat × Nat × Int := scanF b q 10 0 0
/-- What the first i bytes make stays below 128 ^ i. -/
theorem part_lt {x c i : Nat} (h : x < 128 ^ i) : x + c % 128 * 128 ^ i < 128 ^ (i + 1) := by
  have h1 : c % 128 < 128 := Nat.mod_lt _ (by decide)
  have h2 : (c % 128 + 1) * 128 ^ i ≤ 128 * 128 ^ i := Nat.mul_le_mul_right _ h1
  rw [Nat.add_mul, Nat.one_mul] at h2
  rw [Nat.pow_succ, Nat.mul_comm (128 ^ i)]
  omega
/-- The place does not go beyond the bytes; with an error it stands. -/
theorem scanF_facts (b : List UInt8) (q : Nat) : ∀ f i x, x < 128 ^ i → i + f = 10 → (scanF b q f i x).1 < 2 ^ 64 ∧ ((scanF b q f i x).2.2 = 0 → q < (scanF b q f i x).2.1 ∧ (scanF b q f i x).2.1 ≤ b.length) ∧ ((scanF b q f i x).2.2 ≠ 0 → (scanF b q f i x).2.1 = q ∧ (scanF b q f i x).1 = 0) ∧ ((scanF b q f i x).2.2 = 0 ∨ (scanF b q f i x).2.2 = 1 ∨ (scanF b q f i x).2.2 = 2)
  | 0, i, x, _, _ => by simp [scanF]
  | f + 1, i, x, hx, hf => by
    rw [scanF]
    by_cases h1 : b.length ≤ q + i
    · rw [if_pos h1]; simp
    · rw [if_neg h1]
      by_cases h2 : (i = 9 ∧ (b.getD (q + i) 0).toNat ≠ 1) ∨ (0 < i ∧ (b.getD (q + i) 0).toNat = 0)
      · rw [if_pos h2]; simp
      · rw [if_neg h2]
        by_cases h3 : (b.getD (q + i) 0).toNat < 128
        · rw [if_pos h3]
          refine ⟨?_, fun _ => ⟨by simp; omega, by simp; omega⟩, fun h => absurd rfl h, .inl rfl⟩
          show x + (b.getD (q + i) 0).toNat % 128 * 128 ^ i < 2 ^ 64
          by_cases h9 : i = 9
          · subst h9
            have hc : (b.getD (q + 9) 0).toNat = 1 := by
              rcases Nat.lt_trichotomy (b.getD (q + 9) 0).toNat 1 with h | h | h
              · exact absurd (.inr ⟨by omega, by omega⟩) h2
              · exact h
              · exact absurd (.inl ⟨rfl, by omega⟩) h2
            rw [hc]
            have : (128 : Nat) ^ 9 = 2 ^ 63 := by decide
            omega
          · have h4 := part_lt (c := (b.getD (q + i) 0).toNat) hx
            have h5 : (128 : Nat) ^ (i + 1) ≤ 128 ^ 9 := Nat.pow_le_pow_right (by decide) (by omega)
            have : (128 : Nat) ^ 9 = 2 ^ 63 := by decide
            omega
        · rw [if_neg h3]
          exact scanF_facts b q f (i + 1) _ (part_lt hx) (by omega)
theorem scan_facts (b : List UInt8) (q : Nat) : (scan b q).1 < 2 ^ 64 ∧ ((scan b q).2.2 = 0 → q < (scan b q).2.1 ∧ (scan b q).2.1 ≤ b.length) ∧ ((scan b q).2.2 ≠ 0 → (scan b q).2.1 = q ∧ (scan b q).1 = 0) ∧ ((scan b q).2.2 = 0 ∨ (scan b q).2.2 = 1 ∨ (scan b q).2.2 = 2) :=
  scanF_facts b q 10 0 0 (by decide) rfl

theorem ofNat_low (y : Nat) (h : y < 256) : (UInt8.ofNat y).toNat = y := by rw [UInt8.toNat_ofNat']; exact Nat.mod_eq_of_lt h
/-- What is written is read. -/
theorem scanF_enc (pre post : List UInt8) : ∀ (f i x y : Nat), i + f = 10 → y < 2 ^ 64 / 128 ^ i → (0 < i → 0 < y) → ∀ (done : List UInt8), done.length = i →
    scanF (pre ++ done ++ encF f y ++ post) pre.length f i x = (x + y * 128 ^ i, pre.length + i + (encF f y).length, 0)
  | 0, i, x, y, hf, hy, hp, done, hd => by
    obtain rfl : i = 10 := by omega
    have : y = 0 := by
      have : (2 : Nat) ^ 64 / 128 ^ 10 = 0 := by decide
      omega
    exact absurd (hp (by omega)) (by omega)
  | f + 1, i, x, y, hf, hy, hp, done, hd => by
    have hlen : pre.length + i = (pre ++ done).length := by rw [List.length_append, hd]
    rw [scanF]
    by_cases hs : y < 128
    · rw [encF_small hs]
      have hg : (pre ++ done ++ [UInt8.ofNat y] ++ post).getD (pre.length + i) 0 = UInt8.ofNat y := by
        rw [List.getD_eq_getElem?_getD, hlen, List.append_assoc _ [UInt8.ofNat y], List.getElem?_append_right (Nat.le_refl _), Nat.sub_self]; rfl
      rw [if_neg (by simp; omega), hg, ofNat_low y (by omega), if_neg, if_pos hs]
      · simp [Nat.mod_eq_of_lt hs]
      · rintro (⟨h9, h1⟩ | ⟨h0, h1⟩)
        · subst h9
          have : (2 : Nat) ^ 64 / 128 ^ 9 = 2 := by decide
          have := hp (by omega)
          omega
        · have := hp h0
          omega
    · have h9 : i ≠ 9 := by
        rintro rfl
        have : (2 : Nat) ^ 64 / 128 ^ 9 = 2 := by decide
        omega
      rw [encF_big hs]
      have hg : (pre ++ done ++ (UInt8.ofNat (128 + y % 128) :: encF f (y / 128)) ++ post).getD (pre.length + i) 0 = UInt8.ofNat (128 + y % 128) := by
        rw [List.getD_eq_getElem?_getD, hlen, List.append_assoc _ (UInt8.ofNat (128 + y % 128) :: encF f (y / 128)), List.getElem?_append_right (Nat.le_refl _), Nat.sub_self]; rfl
      have hmod : (128 + y % 128) % 128 = y % 128 := by omega
      rw [if_neg (by simp; omega), hg, ofNat_low _ (by omega), if_neg, if_neg (by omega), hmod]
      · have ih := scanF_enc pre post f (i + 1) (x + y % 128 * 128 ^ i) (y / 128) (by omega) (by
          rw [show (128 : Nat) ^ (i + 1) = 128 ^ i * 128 from rfl, ← Nat.div_div_eq_div_mul]
          have h0 : (2 ^ 64 / 128 ^ i) % 128 = 0 := by
            rcases (by omega : i = 0 ∨ i = 1 ∨ i = 2 ∨ i = 3 ∨ i = 4 ∨ i = 5 ∨ i = 6 ∨ i = 7 ∨ i = 8) with rfl | rfl | rfl | rfl | rfl | rfl | rfl | rfl | rfl <;> decide
          generalize 2 ^ 64 / 128 ^ i = N at *
          omega) (fun _ => by omega) (done ++ [UInt8.ofNat (128 + y % 128)]) (by simp [hd])
        have e : pre ++ (done ++ [UInt8.ofNat (128 + y % 128)]) ++ encF f (y / 128) ++ post = pre ++ done ++ (UInt8.ofNat (128 + y % 128) :: encF f (y / 128)) ++ post := by simp
        rw [e] at ih
        rw [ih]
        have hy2 : y % 128 + y / 128 * 128 = y := by omega
        have : x + y % 128 * 128 ^ i + y / 128 * 128 ^ (i + 1) = x + y * 128 ^ i := by
          rw [Nat.pow_succ, Nat.mul_comm (128 ^ i) 128, ← Nat.mul_assoc, Nat.add_assoc, ← Nat.add_mul, hy2]
        rw [this]
        simp
        omega
      · rintro (⟨h, _⟩ | ⟨_, h⟩)
        · exact h9 h
        · omega
theorem scan_enc (pre post : List UInt8) (x : Nat) (h : x < 2 ^ 64) : scan (pre ++ enc x ++ post) pre.length = (x, pre.length + (enc x).length, 0) := by
  have := scanF_enc pre post 10 0 0 x rfl (by simpa using h) (fun h => by omega) [] rfl
  simpa [enc, scan] using this
/-- What is read is just what is written. -/
theorem scanF_one (b : List UInt8) (q : Nat) : ∀ (f i x v p : Nat), scanF b q f i x = (v, p, 0) →
    ∃ y, v = x + y * 128 ^ i ∧ (b.drop (q + i)).take (p - (q + i)) = encF f y ∧ (0 < i → 0 < y) ∧ q + i < p ∧ p ≤ b.length
  | 0, i, x, v, p, h => by
    rw [scanF] at h
    simp only [Prod.mk.injEq] at h
    omega
  | f + 1, i, x, v, p, h => by
    rw [scanF] at h
    by_cases h1 : b.length ≤ q + i
    · rw [if_pos h1] at h
      simp only [Prod.mk.injEq] at h
      omega
    rw [if_neg h1] at h
    by_cases h2 : (i = 9 ∧ (b.getD (q + i) 0).toNat ≠ 1) ∨ (0 < i ∧ (b.getD (q + i) 0).toNat = 0)
    · rw [if_pos h2] at h
      simp only [Prod.mk.injEq] at h
      omega
    rw [if_neg h2] at h
    have hlt : q + i < b.length := by omega
    have hget : b.getD (q + i) 0 = b[q + i] := by rw [List.getD_eq_getElem?_getD, List.getElem?_eq_getElem hlt]; rfl
    rw [hget] at h h2
    have hdrop : b.drop (q + i) = b[q + i] :: b.drop (q + i + 1) := List.drop_eq_getElem_cons hlt
    have hof : UInt8.ofNat (b[q + i].toNat) = b[q + i] := UInt8.ofNat_toNat
    have hc := (b[q + i]).toNat_lt
    by_cases h3 : (b[q + i]).toNat < 128
    · rw [if_pos h3] at h
      simp only [Prod.mk.injEq] at h
      obtain ⟨hv, hp, _⟩ := h
      refine ⟨b[q + i].toNat, by rw [← hv, Nat.mod_eq_of_lt h3], ?_, fun h0 => ?_, by omega, by omega⟩
      · rw [hdrop, ← hp, show q + i + 1 - (q + i) = 1 by omega, encF_small h3, hof]
        rfl
      · rcases Nat.eq_zero_or_pos b[q + i].toNat with h | h
        · exact absurd (.inr ⟨h0, h⟩) h2
        · exact h
    · rw [if_neg h3] at h
      obtain ⟨y, hv, htake, hy, hqp, hpl⟩ := scanF_one b q f (i + 1) _ v p h
      have hy0 := hy (by omega)
      refine ⟨b[q + i].toNat % 128 + 128 * y, ?_, ?_, fun _ => by omega, by omega, hpl⟩
      · rw [hv, Nat.pow_succ, Nat.add_mul, Nat.mul_comm (128 ^ i) 128, ← Nat.mul_assoc, Nat.mul_comm 128 y, Nat.add_assoc]
      · have e1 : (b[q + i].toNat % 128 + 128 * y) % 128 = b[q + i].toNat % 128 := by omega
        have e2 : (b[q + i].toNat % 128 + 128 * y) / 128 = y := by omega
        have e3 : 128 + b[q + i].toNat % 128 = b[q + i].toNat := by omega
        rw [encF_big (by omega), e1, e2, e3, hof, hdrop, show p - (q + i) = (p - (q + (i + 1))) + 1 by omega, List.take_succ_cons]
        congr 1
theorem scan_one {b : List UInt8} {x : Nat} (h : scan b 0 = (x, b.length, 0)) : enc x = b := by
  obtain ⟨y, hv, ht, _⟩ := scanF_one b 0 10 0 0 x b.length h
  simp only [Nat.pow_zero, Nat.mul_one, Nat.zero_add] at hv ht
  rw [List.drop_zero, Nat.sub_zero, List.take_length] at ht
  rw [hv]
  exact ht.symm

/-! ### Fixed numbers -/
/-- The n lowest bytes of x, the lowest first. -/
def fix : Nat → Nat → List UInt8
  | 0, _ => []
  | n + 1, x => UInt8.ofNat (x % 256) :: fix n (x / 256)
theorem fix_len : ∀ n x, (fix n x).length = n
  | 0, _ => rfl
  | n + 1, x => by rw [fix, List.length_cons, fix_len]
/-- The number that bytes make, the lowest first. -/
def low : List UInt8 → Nat
  | [] => 0
  | c :: l => c.toNat + 256 * low l
theorem low_fix : ∀ n x, x < 256 ^ n → low (fix n x) = x
  | 0, x, h => by simp at h; simp [fix, low, h]
  | n + 1, x, h => by
    rw [fix, low, low_fix n (x / 256) (by rw [Nat.pow_succ] at h; omega), ofNat_low _ (by omega)]
    omega
theorem low_lt : ∀ l : List UInt8, low l < 256 ^ l.length
  | [] => by simp [low]
  | c :: l => by
    have h := low_lt l
    have hc := c.toNat_lt
    have : (low l + 1) * 256 ≤ 256 ^ l.length * 256 := Nat.mul_le_mul_right _ h
    rw [low, List.length_cons, Nat.pow_succ]
    omega
theorem low_drop (l : List UInt8) (k : Nat) (h : k < l.length) : low (l.drop k) = (l.getD k 0).toNat + 256 * low (l.drop (k + 1)) := by
  rw [List.drop_eq_getElem_cons h, low, List.getD_eq_getElem?_getD, List.getElem?_eq_getElem h]
  rfl
theorem fix_snoc : ∀ n x, fix (n + 1) x = fix n x ++ [UInt8.ofNat (x / 256 ^ n % 256)]
  | 0, x => by simp [fix]
  | n + 1, x => by
    rw [fix, fix_snoc n (x / 256), Nat.div_div_eq_div_mul, Nat.mul_comm 256, ← Nat.pow_succ]
    rfl

/-! ### Signed numbers -/
def zig (d : Nat) : Nat := if 2 ^ 63 ≤ d then 2 * (2 ^ 64 - 1 - d) + 1 else 2 * d
def zag (z : Nat) : Nat := if z % 2 = 1 then 2 ^ 64 - 1 - z / 2 else z / 2
theorem zag_zig {d : Nat} (h : d < 2 ^ 64) : zag (zig d) = d := by
  unfold zag zig
  split <;> split <;> omega
theorem zig_zag {z : Nat} (h : z < 2 ^ 64) : zig (zag z) = z := by
  unfold zag zig
  split <;> split <;> omega
theorem zig_lt {d : Nat} (h : d < 2 ^ 64) : zig d < 2 ^ 64 := by
  unfold zig
  split <;> omega
theorem zag_lt {z : Nat} (h : z < 2 ^ 64) : zag z < 2 ^ 64 := by
  unfold zag
  split <;> omega

/-! ### A cursor's calls: bytes, place, error; what they answer, the place and the error behind them -/
def numR (b : List UInt8) (q : Nat) (e : Int) : Nat × Nat × Int := if e = 0 then scan b q else (0, q, e)
def intR (b : List UInt8) (q : Nat) (e most : Int) : Nat × Nat × Int :=
  if (numR b q e).2.2 = 0 then (if most < ((numR b q e).1 : Int) then (0, q, 6) else numR b q e) else (0, (numR b q e).2.1, (numR b q e).2.2)
def takeR (b : List UInt8) (q : Nat) (e n : Int) : List UInt8 × Nat × Int :=
  if e = 0 then (if n < 0 then ([], q, 13) else if ((b.length - q : Nat) : Int) < n then ([], q, 1) else ((b.drop q).take n.toNat, q + n.toNat, 0)) else ([], q, e)
def byteR (b : List UInt8) (q : Nat) (e : Int) : Nat × Nat × Int := (((takeR b q e 1).1.getD 0 0).toNat, (takeR b q e 1).2)
def fixedR (b : List UInt8) (q : Nat) (e n : Int) : Nat × Nat × Int :=
  if e = 0 then (if n < 1 ∨ 8 < n then (0, q, 13) else (low (takeR b q e n).1, (takeR b q e n).2)) else (0, q, e)
def textR (b : List UInt8) (q : Nat) (e most : Int) : List UInt8 × Nat × Int :=
  if (intR b q e most).2.2 = 0 then (if b.length - (intR b q e most).2.1 < (intR b q e most).1 then ([], q, 1) else takeR b (intR b q e most).2.1 0 ((intR b q e most).1 : Int)) else ([], (intR b q e most).2)
def failR (e e' : Int) : Int := if e = 0 then e' else e
def endR (b : List UInt8) (q : Nat) (e : Int) : Int := if e = 0 ∧ 0 < b.length - q then 2 else e
end Num
end Go.Proofs.Ytgnmdpklkmlpfaa
