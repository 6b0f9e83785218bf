/- Numbers as bytes, seven bits a byte: plain mathematics. Rows of rising numbers as bits, as values: written, read. Plain mathematics of chapter 13. Rows as bytes: what was written is read; what was read is as it is written; how long. Plain mathematics of chapter 13. How the program takes a row: a prefix of the bytes is enough where it doesn't fall short; parts of numbers. Plain mathematics. A slice of numbers that came in. The document's functions of chapter 13: May, width, Next. Lists of numbers of the call's own. The program's small functions of chapter 13: mayBound, isRow, lowBits, number, count. The parts of a row as a value of the program: count, number. Two lists of numbers of the call's own, side by side; append of one number, told with where what comes back lies. Results: a row of cells in a block, and what a slot holds. Regions that draw their order, where one call stands behind all that is read: what is asked of the world holds till that call, not behind it. Regions that draw their order: an operation that asks nothing of the world may be taken at any time. -/
import Derived.Test.YtdpeidijaohgcaaB01
import Derived.BigQuiet
import Derived.OwnWalk
import Derived.Laws.OwnMore
import Derived.Maps.AppendAt
import Derived.Laws.ResultCell
import Derived.OrdersHeld
import Derived.StillTail
import Derived.RegionTactic
namespace Go.Proofs.Ytdpeidijaohgcaa
open Go.RowKit

namespace Num
/-- A number's bytes; f: how many there may be. -/
def encF : Nat → Nat → List UInt8
  | 0, _ => []
  | f + 1, x => if x < 128 then [UInt8.ofNat x] else UInt8.ofNat (128 + x % 128) :: encF f (x / 128)
def enc (x : Nat) : List UInt8 := encF 10 x
theorem encF_small {f x : Nat} (h : x < 128) : encF (f + 1) x = [UInt8.ofNat x] := by rw [encF, if_pos h]
theorem encF_big {f x : Nat} (h : ¬ x < 128) : encF (f + 1) x = UInt8.ofNat (128 + x % 128) :: encF f (x / 128) := by rw [encF, if_neg h]
theorem encF_len : ∀ (f x : Nat), (encF f x).length ≤ f
  | 0, _ => by simp [encF]
  | f + 1, x => by
    rw [encF]
    split
    · simp
    · have := encF_len f (x / 128)
      simp; omega
theorem enc_len (x : Nat) : (enc x).length ≤ 10 := encF_len 10 x
theorem enc_pos (x : Nat) : 0 < (enc x).length := by
  unfold enc
  rw [encF]
  split <;> simp

/-- What stands in the bytes from a place on: the number, the place behind it, an error. i: how many of its bytes are taken, x: what they make. -/
def scanF (b : List UInt8) (q : Nat) : Nat → Nat → Nat → Nat × Nat × Int
  | 0, _, _ => (0, q, 2)
  | f + 1, i, x =>
    if b.length ≤ q + i then (0, q, 1)
    else if (i = 9 ∧ (b.getD (q + i) 0).toNat ≠ 1) ∨ (0 < i ∧ (b.getD (q + i) 0).toNat = 0) then (0, q, 2)
    else if (b.getD (q + i) 0).toNat < 128 then (x + (b.getD (q + i) 0).toNat % 128 * 128 ^ i, q + i + 1, 0)
    else scanF b q f (i + 1) (x + (b.getD (q + i) 0).toNat % 128 * 128 ^ i)
def scan (b : List UInt8) (q : Nat) : Nat × Nat × Int := scanF b q 10 0 0
/-- What the first i bytes make stays below 128 ^ i. -/
theorem part_lt {x c i : Nat} (h : x < 128 ^ i) : x + c % 128 * 128 ^ i < 128 ^ (i + 1) := by
  have h1 : c % 128 < 128 := Nat.mod_lt _ (by decide)
  have h2 : (c % 128 + 1) * 128 ^ i ≤ 128 * 128 ^ i := Nat.mul_le_mul_right _ h1
  rw [Nat.add_mul, Nat.one_mul] at h2
  rw [Nat.pow_succ, Nat.mul_comm (128 ^ i)]
  omega
/-- The place does not go beyond the bytes; with an error it stands. -/
theorem scanF_facts (b : List UInt8) (q : Nat) : ∀ f i x, x < 128 ^ i → i + f = 10 → (scanF b q f i x).1 < 2 ^ 64 ∧ ((scanF b q f i x).2.2 = 0 → q < (scanF b q f i x).2.1 ∧ (scanF b q f i x).2.1 ≤ b.length) ∧ ((scanF b q f i x).2.2 ≠ 0 → (scanF b q f i x).2.1 = q ∧ (scanF b q f i x).1 = 0) ∧ ((scanF b q f i x).2.2 = 0 ∨ (scanF b q f i x).2.2 = 1 ∨ (scanF b q f i x).2.2 = 2)
  | 0, i, x, _, _ => by simp [scanF]
  | f + 1, i, x, hx, hf => by
    rw [scanF]
    by_cases h1 : b.length ≤ q + i
    · rw [if_pos h1]; simp
    · rw [if_neg h1]
      by_cases h2 : (i = 9 ∧ (b.getD (q + i) 0).toNat ≠ 1) ∨ (0 < i ∧ (b.getD (q + i) 0).toNat = 0)
      · rw [if_pos h2]; simp
      · rw [if_neg h2]
        by_cases h3 : (b.getD (q + i) 0).toNat < 128
        · rw [if_pos h3]
          refine ⟨?_, fun _ => ⟨by simp; omega, by simp; omega⟩, fun h => absurd rfl h, .inl rfl⟩
          show x + (b.getD (q + i) 0).toNat % 128 * 128 ^ i < 2 ^ 64
          by_cases h9 : i = 9
          · subst h9
            have hc : (b.getD (q + 9) 0).toNat = 1 := by
              rcases Nat.lt_trichotomy (b.getD (q + 9) 0).toNat 1 with h | h | h
              · exact absurd (.inr ⟨by omega, by omega⟩) h2
              · exact h
              · exact absurd (.inl ⟨rfl, by omega⟩) h2
            rw [hc]
            have : (128 : Nat) ^ 9 = 2 ^ 63 := by decide
            omega
          · have h4 := part_lt (c := (b.getD (q + i) 0).toNat) hx
            have h5 : (128 : Nat) ^ (i + 1) ≤ 128 ^ 9 := Nat.pow_le_pow_right (by decide) (by omega)
            have : (128 : Nat) ^ 9 = 2 ^ 63 := by decide
            omega
        · rw [if_neg h3]
          exact scanF_facts b q f (i + 1) _ (part_lt hx) (by omega)
theorem scan_facts (b : List UInt8) (q : Nat) : (scan b q).1 < 2 ^ 64 ∧ ((scan b q).2.2 = 0 → q < (scan b q).2.1 ∧ (scan b q).2.1 ≤ b.length) ∧ ((scan b q).2.2 ≠ 0 → (scan b q).2.1 = q ∧ (scan b q).1 = 0) ∧ ((scan b q).2.2 = 0 ∨ (scan b q).2.2 = 1 ∨ (scan b q).2.2 = 2) :=
  scanF_facts b q 10 0 0 (by decide) rfl

theorem ofNat_low (y : Nat) (h : y < 256) : (UInt8.ofNat y).toNat = y := by rw [UInt8.toNat_ofNat']; exact Nat.mod_eq_of_lt h
/-- What is written is read. -/
theorem scanF_enc (pre post : List UInt8) : ∀ (f i x y : Nat), i + f = 10 → y < 2 ^ 64 / 128 ^ i → (0 < i → 0 < y) → ∀ (done : List UInt8), done.length = i →
    scanF (pre ++ done ++ encF f y ++ post) pre.length f i x = (x + y * 128 ^ i, pre.length + i + (encF f y).length, 0)
  | 0, i, x, y, hf, hy, hp, done, hd => by
    obtain rfl : i = 10 := by omega
    have : y = 0 := by
      have : (2 : Nat) ^ 64 / 128 ^ 10 = 0 := by decide
      omega
    exact absurd (hp (by omega)) (by omega)
  | f + 1, i, x, y, hf, hy, hp, done, hd => by
    have hlen : pre.length + i = (pre ++ done).length := by rw [List.length_append, hd]
    rw [scanF]
    by_cases hs : y < 128
    · rw [encF_small hs]
      have hg : (pre ++ done ++ [UInt8.ofNat y] ++ post).getD (pre.length + i) 0 = UInt8.ofNat y := by
        rw [List.getD_eq_getElem?_getD, hlen, List.append_assoc _ [UInt8.ofNat y], List.getElem?_append_right (Nat.le_refl _), Nat.sub_self]; rfl
      rw [if_neg (by simp; omega), hg, ofNat_low y (by omega), if_neg, if_pos hs]
      · simp [Nat.mod_eq_of_lt hs]
      · rintro (⟨h9, h1⟩ | ⟨h0, h1⟩)
        · subst h9
          have : (2 : Nat) ^ 64 / 128 ^ 9 = 2 := by decide
          have := hp (by omega)
          omega
        · have := hp h0
          omega
    · have h9 : i ≠ 9 := by
        rintro rfl
        have : (2 : Nat) ^ 64 / 128 ^ 9 = 2 := by decide
        omega
      rw [encF_big hs]
      have hg : (pre ++ done ++ (UInt8.ofNat (128 + y % 128) :: encF f (y / 128)) ++ post).getD (pre.length + i) 0 = UInt8.ofNat (128 + y % 128) := by
        rw [List.getD_eq_getElem?_getD, hlen, List.append_assoc _ (UInt8.ofNat (128 + y % 128) :: encF f (y / 128)), List.getElem?_append_right (Nat.le_refl _), Nat.sub_self]; rfl
      have hmod : (128 + y % 128) % 128 = y % 128 := by omega
      rw [if_neg (by simp; omega), hg, ofNat_low _ (by omega), if_neg, if_neg (by omega), hmod]
      · have ih := scanF_enc pre post f (i + 1) (x + y % 128 * 128 ^ i) (y / 128) (by omega) (by
          rw [show (128 : Nat) ^ (i + 1) = 128 ^ i * 128 from rfl, ← Nat.div_div_eq_div_mul]
          have h0 : (2 ^ 64 / 128 ^ i) % 128 = 0 := by
            rcases (by omega : i = 0 ∨ i = 1 ∨ i = 2 ∨ i = 3 ∨ i = 4 ∨ i = 5 ∨ i = 6 ∨ i = 7 ∨ i = 8) with rfl | rfl | rfl | rfl | rfl | rfl | rfl | rfl | rfl <;> decide
          generalize 2 ^ 64 / 128 ^ i = N at *
          omega) (fun _ => by omega) (done ++ [UInt8.ofNat (128 + y % 128)]) (by simp [hd])
        have e : pre ++ (done ++ [UInt8.ofNat (128 + y % 128)]) ++ encF f (y / 128) ++ post = pre ++ done ++ (UInt8.ofNat (128 + y % 128) :: encF f (y / 128)) ++ post := by simp
        rw [e] at ih
        rw [ih]
        have hy2 : y % 128 + y / 128 * 128 = y := by omega
        have : x + y % 128 * 128 ^ i + y / 128 * 128 ^ (i + 1) = x + y * 128 ^ i := by
          rw [Nat.pow_succ, Nat.mul_comm (128 ^ i) 128, ← Nat.mul_assoc, Nat.add_assoc, ← Nat.add_mul, hy2]
        rw [this]
        simp
        omega
      · rintro (⟨h, _⟩ | ⟨_, h⟩)
        · exact h9 h
        · omega
theorem scan_enc (pre post : List UInt8) (x : Nat) (h : x < 2 ^ 64) : scan (pre ++ enc x ++ post) pre.length = (x, pre.length + (enc x).length, 0) := by
  have := scanF_enc pre post 10 0 0 x rfl (by simpa using h) (fun h => by omega) [] rfl
  simpa [enc, scan] using this
/-- What is read is just what is written. -/
theorem scanF_one (b : List UInt8) (q : Nat) : ∀ (f i x v p : Nat), scanF b q f i x = (v, p, 0) →
    ∃ y, v = x + y * 128 ^ i ∧ (b.drop (q + i)).take (p - (q + i)) = encF f y ∧ (0 < i → 0 < y) ∧ q + i < p ∧ p ≤ b.length
  | 0, i, x, v, p, h => by
    rw [scanF] at h
    simp only [Prod.mk.injEq] at h
    omega
  | f + 1, i, x, v, p, h => by
    rw [scanF] at h
    by_cases h1 : b.length ≤ q + i
    · rw [if_pos h1] at h
      simp only [Prod.mk.injEq] at h
      omega
    rw [if_neg h1] at h
    by_cases h2 : (i = 9 ∧ (b.getD (q + i) 0).toNat ≠ 1) ∨ (0 < i ∧ (b.getD (q + i) 0).toNat = 0)
    · rw [if_pos h2] at h
      simp only [Prod.mk.injEq] at h
      omega
    rw [if_neg h2] at h
    have hlt : q + i < b.length := by omega
    have hget : b.getD (q + i) 0 = b[q + i] := by rw [List.getD_eq_getElem?_getD, List.getElem?_eq_getElem hlt]; rfl
    rw [hget] at h h2
    have hdrop : b.drop (q + i) = b[q + i] :: b.drop (q + i + 1) := List.drop_eq_getElem_cons hlt
    have hof : UInt8.ofNat (b[q + i].toNat) = b[q + i] := UInt8.ofNat_toNat
    have hc := (b[q + i]).toNat_lt
    by_cases h3 : (b[q + i]).toNat < 128
    · rw [if_pos h3] at h
      simp only [Prod.mk.injEq] at h
      obtain ⟨hv, hp, _⟩ := h
      refine ⟨b[q + i].toNat, by rw [← hv, Nat.mod_eq_of_lt h3], ?_, fun h0 => ?_, by omega, by omega⟩
      · rw [hdrop, ← hp, show q + i + 1 - (q + i) = 1 by omega, encF_small h3, hof]
        rfl
      · rcases Nat.eq_zero_or_pos b[q + i].toNat with h | h
        · exact absurd (.inr ⟨h0, h⟩) h2
        · exact h
    · rw [if_neg h3] at h
      obtain ⟨y, hv, htake, hy, hqp, hpl⟩ := scanF_one b q f (i + 1) _ v p h
      have hy0 := hy (by omega)
      refine ⟨b[q + i].toNat % 128 + 128 * y, ?_, ?_, fun _ => by omega, by omega, hpl⟩
      · rw [hv, Nat.pow_succ, Nat.add_mul, Nat.mul_comm (128 ^ i) 128, ← Nat.mul_assoc, Nat.mul_comm 128 y, Nat.add_assoc]
      · have e1 : (b[q + i].toNat % 128 + 128 * y) % 128 = b[q + i].toNat % 128 := by omega
        have e2 : (b[q + i].toNat % 128 + 128 * y) / 128 = y := by omega
        have e3 : 128 + b[q + i].toNat % 128 = b[q + i].toNat := by omega
        rw [encF_big (by omega), e1, e2, e3, hof, hdrop, show p - (q + i) = (p - (q + (i + 1))) + 1 by omega, List.take_succ_cons]
        congr 1
theorem scan_one {b : List UInt8} {x : Nat} (h : scan b 0 = (x, b.length, 0)) : enc x = b := by
  obtain ⟨y, hv, ht, _⟩ := scanF_one b 0 10 0 0 x b.length h
  simp only [Nat.pow_zero, Nat.mul_one, Nat.zero_add] at hv ht
  rw [List.drop_zero, Nat.sub_zero, List.take_length] at ht
  rw [hv]
  exact ht.symm

/-! ### Fixed numbers -/
/-- The n lowest bytes of x, the lowest first. -/
def fix : Nat → Nat → List UInt8
  | 0, _ => []
  | n + 1, x => UInt8.ofNat (x % 256) :: fix n (x / 256)
theorem fix_len : ∀ n x, (fix n x).length = n
  | 0, _ => rfl
  | n + 1, x => by rw [fix, List.length_cons, fix_len]
/-- The number that bytes make, the lowest first. -/
def low : List UInt8 → Nat
  | [] => 0
  | c :: l => c.toNat + 256 * low l
theorem low_fix : ∀ n x, x < 256 ^ n → low (fix n x) = x
  | 0, x, h => by simp at h; simp [fix, low, h]
  | n + 1, x, h => by
    rw [fix, low, low_fix n (x / 256) (by rw [Nat.pow_succ] at h; omega), ofNat_low _ (by omega)]
    omega
theorem low_lt : ∀ l : List UInt8, low l < 256 ^ l.length
  | [] => by simp [low]
  | c :: l => by
    have h := low_lt l
    have hc := c.toNat_lt
    have : (low l + 1) * 256 ≤ 256 ^ l.length * 256 := Nat.mul_le_mul_right _ h
    rw [low, List.length_cons, Nat.pow_succ]
    omega
theorem low_drop (l : List UInt8) (k : Nat) (h : k < l.length) : low (l.drop k) = (l.getD k 0).toNat + 256 * low (l.drop (k + 1)) := by
  rw [List.drop_eq_getElem_cons h, low, List.getD_eq_getElem?_getD, List.getElem?_eq_getElem h]
  rfl
theorem fix_snoc : ∀ n x, fix (n + 1) x = fix n x ++ [UInt8.ofNat (x / 256 ^ n % 256)]
  | 0, x => by simp [fix]
  | n + 1, x => by
    rw [fix, fix_snoc n (x / 256), Nat.div_div_eq_div_mul, Nat.mul_comm 256, ← Nat.pow_succ]
    rfl

/-! ### Signed numbers -/
def zig (d : Nat) : Nat := if 2 ^ 63 ≤ d then 2 * (2 ^ 64 - 1 - d) + 1 else 2 * d
def zag (z : Nat) : Nat := if z % 2 = 1 then 2 ^ 64 - 1 - z / 2 else z / 2
theorem zag_zig {d : Nat} (h : d < 2 ^ 64) : zag (zig d) = d := by
  unfold zag zig
  split <;> split <;> omega
theorem zig_zag {z : Nat} (h : z < 2 ^ 64) : zig (zag z) = z := by
  unfold zag zig
  split <;> split <;> omega
theorem zig_lt {d : Nat} (h : d < 2 ^ 64) : zig d < 2 ^ 64 := by
  unfold zig
  split <;> omega
theorem zag_lt {z : Nat} (h : z < 2 ^ 64) : zag z < 2 ^ 64 := by
  unfold zag
  split <;> omega

/-! ### A cursor's calls: bytes, place, error; what they answer, the place and the error behind them -/
def numR (b : List UInt8) (q : Nat) (e : Int) : Nat × Nat × Int := if e = 0 then scan b q else (0, q, e)
def intR (b : List UInt8) (q : Nat) (e most : Int) : Nat × Nat × Int :=
  if (numR b q e).2.2 = 0 then (if most < ((numR b q e).1 : Int) then (0, q, 6) else numR b q e) else (0, (numR b q e).2.1, (numR b q e).2.2)
def takeR (b : List UInt8) (q : Nat) (e n : Int) : List UInt8 × Nat × Int :=
  if e = 0 then (if n < 0 then ([], q, 13) else if ((b.length - q : Nat) : Int) < n then ([], q, 1) else ((b.drop q).take n.toNat, q + n.toNat, 0)) else ([], q, e)
def byteR (b : List UInt8) (q : Nat) (e : Int) : Nat × Nat × Int := (((takeR b q e 1).1.getD 0 0).toNat, (takeR b q e 1).2)
def fixedR (b : List UInt8) (q : Nat) (e n : Int) : Nat × Nat × Int :=
  if e = 0 then (if n < 1 ∨ 8 < n then (0, q, 13) else (low (takeR b q e n).1, (takeR b q e n).2)) else (0, q, e)
def textR (b : List UInt8) (q : Nat) (e most : Int) : List UInt8 × Nat × Int :=
  if (intR b q e most).2.2 = 0 then (if b.length - (intR b q e most).2.1 < (intR b q e most).1 then ([], q, 1) else takeR b (intR b q e most).2.1 0 ((intR b q e most).1 : Int)) else ([], (intR b q e most).2)
def failR (e e' : Int) : Int := if e = 0 then e' else e
def endR (b : List UInt8) (q : Nat) (e : Int) : Int := if e = 0 ∧ 0 < b.length - q then 2 else e
end Num
end Go.Proofs.Ytdpeidijaohgcaa

namespace Go.Proofs.Ytdpeidijaohgcaa

section
theorem flat_at {α : Type} (f : Nat → List α) {k : Nat} : ∀ {n : Nat}, k < n → ∃ R, (List.range n).flatMap f = (List.range k).flatMap f ++ f k ++ R
  | 0, h => by omega
  | n + 1, h => by
    rw [List.range_succ, List.flatMap_append]
    rcases Nat.lt_or_ge k n with hk | hk
    · obtain ⟨R, e⟩ := flat_at f hk
      exact ⟨R ++ [n].flatMap f, by rw [e]; simp [List.append_assoc]⟩
    · obtain rfl : k = n := by omega
      exact ⟨[], by simp⟩
theorem flat_succ {α : Type} (f : Nat → List α) (n : Nat) : (List.range (n + 1)).flatMap f = (List.range n).flatMap f ++ f n := by
  rw [List.range_succ, List.flatMap_append]; simp
/-- The bits from p on, n of them. -/
def Bit.sub (l : List UInt8) (p n : Nat) : List Bool := (List.range n).map fun i => Bit.at_ l (p + i)
theorem Bit.sub_len (l : List UInt8) (p n : Nat) : (Bit.sub l p n).length = n := by simp [Bit.sub]
theorem Bit.sub_get (l : List UInt8) (p n i : Nat) (h : i < n) : (Bit.sub l p n).getD i false = Bit.at_ l (p + i) := by simp [Bit.sub, List.getD_eq_getElem?_getD, h]
theorem Bit.bools_ext {a b : List Bool} (h : a.length = b.length) (hx : ∀ i, i < a.length → a.getD i false = b.getD i false) : a = b := by
  refine List.ext_getElem h fun i h1 h2 => ?_
  have := hx i h1
  rw [List.getD_eq_getElem?_getD, List.getD_eq_getElem?_getD, List.getElem?_eq_getElem h1, List.getElem?_eq_getElem h2] at this
  exact this
theorem Bit.sub_add (l : List UInt8) (p m n : Nat) : Bit.sub l p (m + n) = Bit.sub l p m ++ Bit.sub l (p + m) n := by
  refine Bit.bools_ext (by simp [Bit.sub_len]) fun i hi => ?_
  rw [Bit.sub_len] at hi
  rw [Bit.sub_get _ _ _ _ hi]
  rcases Nat.lt_or_ge i m with h | h
  · rw [Bit.getD_app_left _ _ _ (by rw [Bit.sub_len]; exact h), Bit.sub_get _ _ _ _ h]
  · rw [Bit.getD_app_right _ _ _ (by rw [Bit.sub_len]; exact h), Bit.sub_len, Bit.sub_get _ _ _ _ (by omega)]
    congr 1; omega
/-- All bits of bytes. -/
theorem Bit.packs_sub (l : List UInt8) : Bit.Packs l (Bit.sub l 0 (8 * l.length)) := by
  refine ⟨by rw [Bit.sub_len]; omega, fun i hi => ?_⟩
  rw [Bit.sub_get _ _ _ _ hi, Nat.zero_add]
theorem Bit.num_val (f : Nat → Bool) (n : Nat) : Bit.num (Bit.val f n) n = (List.range n).map f := by
  refine Bit.bools_ext (by simp [Bit.num_length]) fun i hi => ?_
  rw [Bit.num_length] at hi
  rw [Bit.num_getD _ _ _ hi, Bit.val_testBit f n i hi]
  simp [List.getD_eq_getElem?_getD, hi]
theorem Bit.num_sub {l : List UInt8} {q k : Nat} (h : Bit.getErr (8 * l.length - q) (k : Int) = 0) : Bit.num (Bit.getNum l q (k : Int)) k = Bit.sub l q k := by
  unfold Bit.getNum
  rw [if_pos h, Int.toNat_natCast, Bit.num_val]
  rfl
theorem Bit.getNum_lt (l : List UInt8) (q k : Nat) : Bit.getNum l q (k : Int) < 2 ^ k := by
  unfold Bit.getNum
  split
  · rw [Int.toNat_natCast]; exact Bit.val_lt _ _
  · exact Nat.pow_pos (by omega)
theorem Bit.un_sub {l : List UInt8} {q : Nat} (h : Bit.unErr l q = 0) : Bit.unTo l q = q + Bit.unNum l q + 1 ∧ Bit.unTo l q ≤ 8 * l.length ∧ Bit.unBits (Bit.unNum l q) = Bit.sub l q (Bit.unNum l q + 1) := by
  have hne : Bit.zs l q ≠ 8 * l.length - q := by
    intro e
    unfold Bit.unErr at h
    rw [if_pos e] at h
    exact absurd h (by decide)
  have hle : Bit.zs l q ≤ 8 * l.length - q := Bit.zeros_le _ _
  have e1 : Bit.unNum l q = Bit.zs l q := by unfold Bit.unNum; rw [if_neg hne]
  refine ⟨by unfold Bit.unTo; rw [if_neg hne, e1], by unfold Bit.unTo; rw [if_neg hne]; omega, ?_⟩
  rw [e1]
  refine Bit.bools_ext (by rw [Bit.sub_len]; simp [Bit.unBits]) fun i hi => ?_
  have hi' : i < Bit.zs l q + 1 := by simpa [Bit.unBits] using hi
  rw [Bit.sub_get _ _ _ _ hi', Bit.unBits_getD _ _ (by omega)]
  rcases Nat.lt_or_ge i (Bit.zs l q) with hz | hz
  · have := Bit.zeros_false (8 * l.length - q) (Bit.rest l q) i hz
    rw [decide_eq_false (by omega)]
    exact this.symm
  · obtain rfl : i = Bit.zs l q := by omega
    have := Bit.zeros_true (8 * l.length - q) (Bit.rest l q) (by have : Bit.zs l q = Bit.zeros (8 * l.length - q) (Bit.rest l q) := rfl; omega)
    rw [decide_eq_true rfl]
    exact this.symm
end

namespace Ef
open Num Bit

/-- How many low bits. -/
def wid (q : Nat) : Nat := q.log2
theorem wid_le {q : Nat} (h : 0 < q) : 2 ^ wid q ≤ q ∧ q < 2 ^ (wid q + 1) := ⟨Nat.log2_self_le (by omega), Nat.lt_log2_self⟩
/-- A row below a bound. -/
def row (bound : Int) (ids : List Int) : Bool := decide (∀ i, i < ids.length → 0 ≤ ids.getD i 0 ∧ ids.getD i 0 < bound ∧ (0 < i → ids.getD (i - 1) 0 < ids.getD i 0))
def hi (w : Nat) (ids : List Int) (i : Nat) : Nat := (ids.getD i 0).toNat / 2 ^ w
def was (w : Nat) (ids : List Int) (i : Nat) : Nat := if i = 0 then 0 else hi w ids (i - 1)
def lowTo (w : Nat) (ids : List Int) (k : Nat) : List Bool := (List.range k).flatMap fun i => num ((ids.getD i 0).toNat % 2 ^ w) w
def highTo (w : Nat) (ids : List Int) (k : Nat) : List Bool := (List.range k).flatMap fun i => unBits (hi w ids i - was w ids i)
def bitsE (w : Nat) (ids : List Int) : List Bool := lowTo w ids ids.length ++ highTo w ids ids.length
def widE (bound : Int) (n : Nat) : Nat := wid (bound.toNat / n)
def rowB (bound : Int) (ids : List Int) : List UInt8 := Num.enc ids.length ++ if ids.length = 0 then [] else pack (bitsE (widE bound ids.length) ids)
def writeE (bound : Int) (ids : List Int) : List UInt8 × Int := if (0 ≤ bound ∧ bound ≤ 20000) ∧ row bound ids = true then (rowB bound ids, 0) else ([], 13)

/-- The numbers, from the k-th last on, of which the high bits stand from p on. -/
def readH (l : List UInt8) (w : Nat) (bound : Int) : Nat → Nat → Nat → List Int → List Int × Nat × Int
  | 0, p, _, out => (out, p, 0)
  | k + 1, p, h, out =>
    if unErr l p ≠ 0 then ([], p, 1)
    else if 0 < out.length ∧ (((h + unNum l p) * 2 ^ w + getNum l (out.length * w) (w : Int) : Nat) : Int) ≤ out.getD (out.length - 1) 0 then ([], p, 2)
    else if bound ≤ (((h + unNum l p) * 2 ^ w + getNum l (out.length * w) (w : Int) : Nat) : Int) then ([], p, 8)
    else readH l w bound k (unTo l p) (h + unNum l p) (out ++ [(((h + unNum l p) * 2 ^ w + getNum l (out.length * w) (w : Int) : Nat) : Int)])
/-- Are the bits up to the whole byte 0? -/
def padZ (l : List UInt8) (q : Nat) : Bool := decide (∀ i, i < (8 - q % 8) % 8 → at_ l (q + i) = false)
/-- n numbers (1 or more) from bytes. -/
def readN (l : List UInt8) (bound : Int) (n : Nat) : List Int × Nat × Int :=
  if 8 * l.length < n * widE bound n then ([], 0, 1)
  else if (readH l (widE bound n) bound n (n * widE bound n) 0 []).2.2 ≠ 0 then ([], 0, (readH l (widE bound n) bound n (n * widE bound n) 0 []).2.2)
  else if padZ l (readH l (widE bound n) bound n (n * widE bound n) 0 []).2.1 = false then ([], 0, 2)
  else ((readH l (widE bound n) bound n (n * widE bound n) 0 []).1, ((readH l (widE bound n) bound n (n * widE bound n) 0 []).2.1 + 7) / 8, 0)
def readE (bound : Int) (b : List UInt8) : List Int × Nat × Int :=
  if 0 ≤ bound ∧ bound ≤ 20000 then
    if (intR b 0 0 bound).2.2 ≠ 0 then ([], 0, (intR b 0 0 bound).2.2)
    else if (intR b 0 0 bound).1 = 0 then ([], (intR b 0 0 bound).2.1, 0)
    else if (readN (b.drop (intR b 0 0 bound).2.1) bound (intR b 0 0 bound).1).2.2 ≠ 0 then ([], 0, (readN (b.drop (intR b 0 0 bound).2.1) bound (intR b 0 0 bound).1).2.2)
    else ((readN (b.drop (intR b 0 0 bound).2.1) bound (intR b 0 0 bound).1).1, (intR b 0 0 bound).2.1 + (readN (b.drop (intR b 0 0 bound).2.1) bound (intR b 0 0 bound).1).2.1, 0)
  else ([], 0, 13)

section
variable {bound : Int} {ids : List Int} {w : Nat}
theorem row_at (h : row bound ids = true) {i : Nat} (hi : i < ids.length) : 0 ≤ ids.getD i 0 ∧ ids.getD i 0 < bound ∧ (0 < i → ids.getD (i - 1) 0 < ids.getD i 0) := of_decide_eq_true h i hi
theorem row_ge (h : row bound ids = true) : ∀ {i : Nat}, i < ids.length → (i : Int) ≤ ids.getD i 0
  | 0, hi => (row_at h hi).1
  | i + 1, hi => by
    have h1 := row_ge h (i := i) (by omega)
    have h2 := (row_at h hi).2.2 (by omega)
    rw [Nat.add_sub_cancel] at h2
    omega
theorem row_len (h : row bound ids = true) : ids.length = 0 ∨ (ids.length : Int) ≤ bound := by
  rcases Nat.eq_zero_or_pos ids.length with e | e
  · exact .inl e
  · have h1 := row_ge h (i := ids.length - 1) (by omega)
    have h2 := (row_at h (i := ids.length - 1) (by omega)).2.1
    omega
theorem lowTo_len (w : Nat) (ids : List Int) : ∀ k, (lowTo w ids k).length = k * w
  | 0 => by simp [lowTo]
  | k + 1 => by
    have := lowTo_len w ids k
    unfold lowTo at this ⊢
    rw [flat_succ, List.length_append, this, num_length, Nat.succ_mul]
theorem was_le (h : row bound ids = true) {i : Nat} (hi' : i < ids.length) : was w ids i ≤ hi w ids i := by
  unfold was
  split
  · omega
  · have h1 := (row_at h hi').2.2 (by omega)
    exact Nat.div_le_div_right (by omega)
theorem highTo_len (h : row bound ids = true) : ∀ k, k ≤ ids.length → (highTo w ids k).length = k + was w ids k
  | 0, _ => by simp [highTo, was]
  | k + 1, hk => by
    have := highTo_len h k (by omega)
    have h2 := was_le (w := w) h (i := k) (by omega)
    unfold highTo at this ⊢
    rw [flat_succ, List.length_append, this]
    have e : was w ids (k + 1) = hi w ids k := by unfold was; rw [if_neg (by omega), Nat.add_sub_cancel]
    have e2 : ∀ n, (unBits n).length = n + 1 := fun n => by simp [unBits]
    rw [e2, e]
    omega
end
end Ef
end Go.Proofs.Ytdpeidijaohgcaa

namespace Go.Proofs.Ytdpeidijaohgcaa

theorem Bit.at_app (a m : List UInt8) {i : Nat} (h : i < 8 * a.length) : Bit.at_ (a ++ m) i = Bit.at_ a i := by
  unfold Bit.at_
  rw [List.getD_eq_getElem?_getD, List.getD_eq_getElem?_getD, List.getElem?_append_left (by omega)]
theorem Bit.at_take (a : List UInt8) {m i : Nat} (h : i < 8 * m) : Bit.at_ (a.take m) i = Bit.at_ a i := by
  unfold Bit.at_
  rw [List.getD_eq_getElem?_getD, List.getD_eq_getElem?_getD, List.getElem?_take, if_pos (by omega)]
theorem Bit.packs_front {a m : List UInt8} {B : List Bool} (h : Bit.Packs a B) : ∃ Q, Bit.Packs (a ++ m) (B ++ Q) := by
  have hl := h.1
  refine ⟨Bit.sub (a ++ m) B.length (8 * (a ++ m).length - B.length), ?_, fun i hi => ?_⟩
  · rw [List.length_append, List.length_append, Bit.sub_len]; omega
  · rcases Nat.lt_or_ge i B.length with hb | hb
    · rw [Bit.getD_app_left _ _ _ hb, Bit.at_app a m (by omega), h.2 i (by omega)]
    · rw [Bit.getD_app_right _ _ _ hb, Bit.sub_get _ _ _ _ (by omega)]
      congr 1; omega

namespace Ef
open Num Bit

section
variable {bound : Int} {ids : List Int} {w : Nat} {l : List UInt8}
theorem int_fine {b : List UInt8} {q x q' : Nat} {most : Int} (h : scan b q = (x, q', 0)) (hm : (x : Int) ≤ most) : intR b q 0 most = (x, q', 0) := by
  unfold intR numR
  rw [if_pos rfl, h]
  dsimp only
  rw [if_pos rfl, if_neg (by omega)]
theorem int_is {b : List UInt8} {most : Int} (h : (intR b 0 0 most).2.2 = 0) : ((intR b 0 0 most).1 : Int) ≤ most ∧ (intR b 0 0 most).2.1 ≤ b.length ∧ enc (intR b 0 0 most).1 = b.take (intR b 0 0 most).2.1 := by
  by_cases h1 : (numR b 0 0).2.2 = 0
  · by_cases h2 : most < ((numR b 0 0).1 : Int)
    · exfalso
      unfold intR at h
      rw [if_pos h1, if_pos h2] at h
      simp at h
    · have e : intR b 0 0 most = scan b 0 := by
        unfold intR
        rw [if_pos h1, if_neg h2]
        rfl
      have h3 : (scan b 0).2.2 = 0 := h1
      have h4 : ((scan b 0).1 : Int) ≤ most := by have : ¬ most < ((scan b 0).1 : Int) := h2; omega
      obtain ⟨y, hv, ht, _⟩ := scanF_one b 0 10 0 0 (scan b 0).1 (scan b 0).2.1 (by rw [← h3]; rfl)
      simp only [Nat.pow_zero, Nat.mul_one, Nat.zero_add] at hv ht
      rw [List.drop_zero, Nat.sub_zero] at ht
      rw [e]
      refine ⟨h4, ((scan_facts b 0).2.1 h3).2, ?_⟩
      rw [hv]
      exact ht.symm
  · exfalso
    unfold intR at h
    rw [if_neg h1] at h
    exact h1 h
theorem un_len (n : Nat) : (unBits n).length = n + 1 := by simp [unBits]
theorem readH_back (hr : row bound ids = true) (hw : w ≤ 64) {Q : List Bool} (hP : Packs l (bitsE w ids ++ Q)) : ∀ k, k ≤ ids.length →
    readH l w bound k (ids.length * w + (highTo w ids (ids.length - k)).length) (was w ids (ids.length - k)) (ids.take (ids.length - k)) = (ids, (bitsE w ids).length, 0)
  | 0, _ => by
    rw [readH, Nat.sub_zero, List.take_length]
    unfold bitsE
    rw [List.length_append, lowTo_len]
  | k + 1, hk => by
    obtain ⟨i, hi'⟩ : ∃ i, i = ids.length - (k + 1) := ⟨_, rfl⟩
    rw [← hi']
    have hin : i < ids.length := by omega
    have IH := readH_back hr hw hP k (by omega)
    rw [show ids.length - k = i + 1 by omega] at IH
    have hrow := row_at hr hin
    have hwas := was_le (w := w) hr hin
    obtain ⟨R, eR⟩ := flat_at (fun i => unBits (hi w ids i - was w ids i)) hin
    obtain ⟨S, eS⟩ := flat_at (fun i => num ((ids.getD i 0).toNat % 2 ^ w) w) hin
    have hun := un_back (l := l) (P := lowTo w ids ids.length ++ highTo w ids i) (Q := R ++ Q) (n := hi w ids i - was w ids i) (by
      have : highTo w ids ids.length = highTo w ids i ++ unBits (hi w ids i - was w ids i) ++ R := eR
      unfold bitsE at hP
      rw [this] at hP
      simpa [List.append_assoc] using hP)
    rw [List.length_append, lowTo_len] at hun
    have hget := get_back (l := l) (P := lowTo w ids i) (Q := S ++ highTo w ids ids.length ++ Q) (x := (ids.getD i 0).toNat % 2 ^ w) (k := w) (by
      have : lowTo w ids ids.length = lowTo w ids i ++ num ((ids.getD i 0).toNat % 2 ^ w) w ++ S := eS
      unfold bitsE at hP
      rw [this] at hP
      simpa [List.append_assoc] using hP) hw (Nat.mod_lt _ (Nat.pow_pos (by omega)))
    rw [lowTo_len] at hget
    have hlen : (ids.take i).length = i := by rw [List.length_take]; omega
    have hid : (((was w ids i + (hi w ids i - was w ids i)) * 2 ^ w + (ids.getD i 0).toNat % 2 ^ w : Nat) : Int) = ids.getD i 0 := by
      rw [show was w ids i + (hi w ids i - was w ids i) = hi w ids i by omega]
      unfold hi
      rw [Nat.div_add_mod']
      omega
    rw [readH, if_neg (by rw [hun.1]; simp), hun.2.1, hlen, hget.2.1, hid, if_neg (by
      rintro ⟨h1, h2⟩
      have e : (ids.take i).getD (i - 1) 0 = ids.getD (i - 1) 0 := by
        rw [List.getD_eq_getElem?_getD, List.getD_eq_getElem?_getD, List.getElem?_take, if_pos (by omega)]
      rw [e] at h2
      have := hrow.2.2 h1
      omega), if_neg (by omega), hun.2.2]
    have e1 : ids.take i ++ [ids.getD i 0] = ids.take (i + 1) := by
      rw [List.take_add_one, List.getElem?_eq_getElem hin, List.getD_eq_getElem?_getD, List.getElem?_eq_getElem hin]; rfl
    have e2 : was w ids i + (hi w ids i - was w ids i) = was w ids (i + 1) := by
      have : was w ids (i + 1) = hi w ids i := by unfold was; rw [if_neg (by omega), Nat.add_sub_cancel]
      omega
    have e3 : ids.length * w + (highTo w ids i).length + (hi w ids i - was w ids i) + 1 = ids.length * w + (highTo w ids (i + 1)).length := by
      have : (highTo w ids (i + 1)).length = (highTo w ids i).length + (unBits (hi w ids i - was w ids i)).length := by
        unfold highTo
        rw [flat_succ, List.length_append]
      rw [this, un_len]
      omega
    rw [e1, e2, e3]
    exact IH
theorem widE_le {bound : Int} {n : Nat} (hb : bound ≤ 20000) : widE bound n ≤ 14 := by
  unfold widE wid
  have h1 : bound.toNat / n ≤ 20000 := Nat.le_trans (Nat.div_le_self _ _) (by omega)
  rcases Nat.eq_zero_or_pos (bound.toNat / n) with e | e
  · rw [e]; simp
  · have := (Nat.log2_lt (by omega)).2 (show bound.toNat / n < 2 ^ 15 by omega)
    omega
theorem padZ_pack (B : List Bool) (m : List UInt8) : padZ (pack B ++ m) B.length = true := by
  refine decide_eq_true fun i hi => ?_
  have hl := pack_len B
  have h1 : B.length + i < 8 * (pack B).length := by omega
  rw [at_app _ _ h1, (packs_pack B).2 _ h1, getD_far _ _ (by omega)]
theorem readN_back (hr : row bound ids = true) (hb : bound ≤ 20000) (m : List UInt8) :
    readN (pack (bitsE (widE bound ids.length) ids) ++ m) bound ids.length = (ids, (pack (bitsE (widE bound ids.length) ids)).length, 0) := by
  have hw := widE_le (n := ids.length) hb
  obtain ⟨w, ew⟩ : ∃ w, w = widE bound ids.length := ⟨_, rfl⟩
  unfold readN
  rw [← ew] at hw ⊢
  obtain ⟨Q, hQ⟩ := packs_front (m := m) (packs_pack (bitsE w ids))
  have h := readH_back (w := w) hr (by omega) hQ ids.length (Nat.le_refl _)
  have e0 : (highTo w ids (ids.length - ids.length)).length = 0 := by rw [Nat.sub_self]; simp [highTo]
  have e1 : was w ids (ids.length - ids.length) = 0 := by rw [Nat.sub_self]; rfl
  rw [e0, e1, Nat.sub_self, List.take_zero, Nat.add_zero] at h
  have hb2 : ids.length * w ≤ (bitsE w ids).length := by unfold bitsE; rw [List.length_append, lowTo_len]; omega
  have hp := pack_len (bitsE w ids)
  rw [if_neg (by rw [List.length_append]; omega), h]
  dsimp only
  rw [if_neg (by simp), padZ_pack, if_neg (by simp), pack_len]
theorem enc_lt {b : List UInt8} (n : Nat) (hn : n ≤ 20000) (hb : b = enc n ++ l) : scan b 0 = (n, (enc n).length, 0) := by
  have h := scan_enc [] l n (by omega)
  simp only [List.nil_append, List.length_nil, Nat.zero_add] at h
  rw [hb]
  exact h
/-- What was written is read, whatever stands behind it. -/
theorem read_back (h : (writeE bound ids).2 = 0) (m : List UInt8) : readE bound ((writeE bound ids).1 ++ m) = (ids, (writeE bound ids).1.length, 0) := by
  unfold writeE at h ⊢
  split at h
  · rename_i hc
    obtain ⟨⟨h0, h1⟩, hr⟩ := hc
    rw [if_pos ⟨⟨h0, h1⟩, hr⟩]
    dsimp only
    have hlen := row_len hr
    have hnb : (ids.length : Int) ≤ bound := by rcases hlen with e | e <;> omega
    unfold rowB readE
    rw [if_pos ⟨h0, h1⟩, List.append_assoc, int_fine (enc_lt ids.length (by omega) rfl) hnb]
    dsimp only
    rw [if_neg (by simp)]
    by_cases hz : ids.length = 0
    · rw [if_pos hz, if_pos hz, List.append_nil]
      have : ids = [] := List.length_eq_zero_iff.1 hz
      rw [this]
    · rw [if_neg hz, if_neg hz, List.drop_left, readN_back hr h1 m]
      dsimp only
      rw [if_neg (by simp), List.length_append]
  · simp at h

/-! ### What was read is as it is written -/
theorem getD_snoc (L : List Int) (x : Int) {i : Nat} (h : i < L.length) : (L ++ [x]).getD i 0 = L.getD i 0 := by
  rw [List.getD_eq_getElem?_getD, List.getD_eq_getElem?_getD, List.getElem?_append_left h]
theorem getD_last (L : List Int) (x : Int) : (L ++ [x]).getD L.length 0 = x := by
  rw [List.getD_eq_getElem?_getD, List.getElem?_append_right (Nat.le_refl _), Nat.sub_self]; rfl
theorem was_snoc (w : Nat) (L : List Int) (x : Int) {i : Nat} (h : i ≤ L.length) : was w (L ++ [x]) i = was w L i := by
  unfold was hi
  split
  · rfl
  · rw [getD_snoc _ _ (by omega)]
theorem highTo_snoc (w : Nat) (L : List Int) (x : Int) : ∀ {k : Nat}, k ≤ L.length → highTo w (L ++ [x]) k = highTo w L k
  | 0, _ => rfl
  | k + 1, h => by
    have := highTo_snoc w L x (k := k) (by omega)
    unfold highTo at this ⊢
    rw [flat_succ, flat_succ, this, was_snoc w L x (by omega)]
    unfold hi
    rw [getD_snoc _ _ (by omega)]
theorem row_snoc {L : List Int} {x : Int} (h : row bound L = true) (h0 : 0 ≤ x) (hb : x < bound) (hp : 0 < L.length → L.getD (L.length - 1) 0 < x) : row bound (L ++ [x]) = true := by
  refine decide_eq_true fun i hi' => ?_
  rw [List.length_append, List.length_singleton] at hi'
  rcases Nat.lt_or_ge i L.length with hi | hi
  · have := row_at h hi
    rw [getD_snoc _ _ hi]
    refine ⟨this.1, this.2.1, fun hp => ?_⟩
    rw [getD_snoc _ _ (by omega)]
    exact this.2.2 hp
  · obtain rfl : i = L.length := by omega
    rw [getD_last]
    refine ⟨h0, hb, fun h1 => ?_⟩
    rw [getD_snoc _ _ (by omega)]
    exact hp h1
/-- What is read of the numbers out, whose high bits stand from s to p. -/
structure Have (l : List UInt8) (w : Nat) (bound : Int) (s p : Nat) (out : List Int) : Prop where
  row : row bound out = true
  low : ∀ i, i < out.length → (out.getD i 0).toNat % 2 ^ w = getNum l (i * w) (w : Int)
  high : sub l s (p - s) = highTo w out out.length
  ge : s ≤ p
  le : p ≤ 8 * l.length
theorem readH_one {s : Nat} : ∀ (k p : Nat) (out r : List Int) (p' : Nat), Have l w bound s p out → readH l w bound k p (was w out out.length) out = (r, p', 0) → Have l w bound s p' r ∧ r.length = out.length + k
  | 0, p, out, r, p', H, h => by
    rw [readH] at h
    obtain ⟨rfl, rfl, _⟩ := Prod.mk.inj h |>.imp id fun e => Prod.mk.inj e
    exact ⟨H, rfl⟩
  | k + 1, p, out, r, p', H, h => by
    rw [readH] at h
    by_cases h1 : unErr l p ≠ 0
    · rw [if_pos h1] at h
      simp at h
    rw [if_neg h1] at h
    obtain ⟨u1, u2, u3⟩ := un_sub (Decidable.not_not.1 h1)
    obtain ⟨g, hg⟩ : ∃ g, g = getNum l (out.length * w) (w : Int) := ⟨_, rfl⟩
    have hg2 : g < 2 ^ w := by rw [hg]; exact getNum_lt _ _ _
    obtain ⟨A, hA⟩ : ∃ A, A = was w out out.length := ⟨_, rfl⟩
    obtain ⟨u, hu⟩ : ∃ u, u = unNum l p := ⟨_, rfl⟩
    rw [← hg, ← hA, ← hu] at h
    rw [← hu] at u1 u3
    obtain ⟨id, hid⟩ : ∃ id : Nat, id = (A + u) * 2 ^ w + g := ⟨_, rfl⟩
    rw [← hid] at h
    by_cases h2 : 0 < out.length ∧ (id : Int) ≤ out.getD (out.length - 1) 0
    · rw [if_pos h2] at h
      simp at h
    rw [if_neg h2] at h
    by_cases h3 : bound ≤ (id : Int)
    · rw [if_pos h3] at h
      simp at h
    rw [if_neg h3] at h
    have d1 : id / 2 ^ w = A + u := by
      rw [hid, Nat.mul_comm, Nat.mul_add_div (Nat.pow_pos (by omega)), Nat.div_eq_of_lt hg2, Nat.add_zero]
    have d2 : id % 2 ^ w = g := by
      rw [hid, Nat.mul_comm, Nat.mul_add_mod, Nat.mod_eq_of_lt hg2]
    have eh : hi w (out ++ [(id : Int)]) out.length = A + u := by
      unfold hi
      rw [getD_last, Int.toNat_natCast, d1]
    have ew : was w (out ++ [(id : Int)]) (out ++ [(id : Int)]).length = A + u := by
      rw [List.length_append, List.length_singleton]
      unfold was
      rw [if_neg (by omega), Nat.add_sub_cancel, eh]
    rw [← ew] at h
    have hge := H.ge
    have H2 : Have l w bound s (unTo l p) (out ++ [(id : Int)]) := by
      refine ⟨row_snoc H.row (by omega) (by omega) (fun hp => ?_), fun i hi' => ?_, ?_, by omega, u2⟩
      · have : ¬ (id : Int) ≤ out.getD (out.length - 1) 0 := fun e => h2 ⟨hp, e⟩
        omega
      · rw [List.length_append, List.length_singleton] at hi'
        rcases Nat.lt_or_ge i out.length with hi | hi
        · rw [getD_snoc _ _ hi]
          exact H.low i hi
        · obtain rfl : i = out.length := by omega
          rw [getD_last, Int.toNat_natCast, d2, hg]
      · have e : highTo w (out ++ [(id : Int)]) (out ++ [(id : Int)]).length = highTo w out out.length ++ unBits u := by
          rw [List.length_append, List.length_singleton]
          have := highTo_snoc w out (id : Int) (k := out.length) (Nat.le_refl _)
          unfold highTo at this ⊢
          rw [flat_succ, this, eh, was_snoc w out _ (Nat.le_refl _), ← hA, Nat.add_sub_cancel_left]
        rw [e, ← H.high, u3, show unTo l p - s = (p - s) + (u + 1) by omega, sub_add, show s + (p - s) = p by omega]
    obtain ⟨H3, e3⟩ := readH_one k (unTo l p) (out ++ [(id : Int)]) r p' H2 h
    refine ⟨H3, ?_⟩
    rw [e3, List.length_append, List.length_singleton]
    omega
theorem low_sub (hw : w ≤ 64) (h : ∀ i, i < ids.length → (ids.getD i 0).toNat % 2 ^ w = getNum l (i * w) (w : Int)) (hl : ids.length * w ≤ 8 * l.length) : ∀ k, k ≤ ids.length → sub l 0 (k * w) = lowTo w ids k
  | 0, _ => by rw [Nat.zero_mul]; rfl
  | k + 1, hk => by
    have IH := low_sub hw h hl k (by omega)
    have hkw : (k + 1) * w ≤ ids.length * w := Nat.mul_le_mul_right w hk
    rw [Nat.succ_mul] at hkw ⊢
    have he : getErr (8 * l.length - k * w) (w : Int) = 0 := by unfold getErr; rw [if_pos ⟨by omega, by omega⟩, if_pos (by omega)]
    rw [sub_add, IH, Nat.zero_add]
    unfold lowTo
    rw [flat_succ, h k (by omega), num_sub he]
theorem readN_one {n m : Nat} {r : List Int} (hb : bound ≤ 20000) (h : readN l bound n = (r, m, 0)) : row bound r = true ∧ r.length = n ∧ m ≤ l.length ∧ pack (bitsE (widE bound n) r) = l.take m := by
  have hw := widE_le (n := n) hb
  unfold readN at h
  obtain ⟨w, ew⟩ : ∃ w, w = widE bound n := ⟨_, rfl⟩
  rw [← ew] at h hw ⊢
  by_cases h1 : 8 * l.length < n * w
  · rw [if_pos h1] at h; simp at h
  rw [if_neg h1] at h
  obtain ⟨r2, p', e', hR⟩ : ∃ r2 p' e', readH l w bound n (n * w) 0 [] = (r2, p', e') := ⟨_, _, _, rfl⟩
  rw [hR] at h
  dsimp only at h
  by_cases h2 : e' ≠ 0
  · rw [if_pos h2] at h
    simp only [Prod.mk.injEq] at h
    exact absurd h.2.2 h2
  rw [if_neg h2] at h
  have he' : e' = 0 := Decidable.not_not.1 h2
  subst he'
  by_cases h3 : padZ l p' = false
  · rw [if_pos h3] at h; simp at h
  rw [if_neg h3] at h
  simp only [Prod.mk.injEq] at h
  obtain ⟨rfl, rfl, _⟩ := h
  have H0 : Have l w bound (n * w) (n * w) [] := ⟨decide_eq_true (fun i hi => by simp at hi), fun i hi => by simp at hi, by rw [Nat.sub_self]; rfl, Nat.le_refl _, by omega⟩
  obtain ⟨H, hl⟩ := readH_one n (n * w) [] r2 p' H0 hR
  rw [List.length_nil, Nat.zero_add] at hl
  have hge := H.ge
  have hle := H.le
  refine ⟨H.row, hl, by omega, ?_⟩
  have hz : ∀ i, i < (8 - p' % 8) % 8 → at_ l (p' + i) = false := of_decide_eq_true (by simpa [padZ] using h3)
  have eB : bitsE w r2 = sub l 0 p' := by
    unfold bitsE
    have h4 := sub_add l 0 (n * w) (p' - n * w)
    rw [Nat.zero_add, show n * w + (p' - n * w) = p' by omega] at h4
    rw [← low_sub (by omega) H.low (by rw [hl]; omega) r2.length (Nat.le_refl _), ← H.high, hl]
    exact h4.symm
  refine (Packs.is ⟨?_, fun i hi => ?_⟩).symm
  · rw [eB, sub_len, List.length_take]; omega
  · rw [List.length_take] at hi
    rw [at_take _ (by omega), eB]
    rcases Nat.lt_or_ge i p' with hp | hp
    · rw [sub_get _ _ _ _ hp, Nat.zero_add]
    · rw [getD_far _ _ (by rw [sub_len]; exact hp)]
      have := hz (i - p') (by omega)
      rwa [show p' + (i - p') = i by omega] at this
/-- What was read is as it is written. -/
theorem read_one {b : List UInt8} {n : Nat} (h : readE bound b = (ids, n, 0)) : writeE bound ids = (b.take n, 0) ∧ n ≤ b.length := by
  unfold readE at h
  by_cases h0 : 0 ≤ bound ∧ bound ≤ 20000
  rotate_left
  · rw [if_neg h0] at h; simp at h
  rw [if_pos h0] at h
  by_cases h1 : (intR b 0 0 bound).2.2 ≠ 0
  · rw [if_pos h1] at h
    simp only [Prod.mk.injEq] at h
    exact absurd h.2.2 h1
  rw [if_neg h1] at h
  obtain ⟨i1, i2, i3⟩ := int_is (Decidable.not_not.1 h1)
  obtain ⟨x, hx⟩ : ∃ x, x = (intR b 0 0 bound).1 := ⟨_, rfl⟩
  obtain ⟨q, hq⟩ : ∃ q, q = (intR b 0 0 bound).2.1 := ⟨_, rfl⟩
  rw [← hx, ← hq] at h i3
  rw [← hx] at i1
  rw [← hq] at i2
  unfold writeE rowB
  by_cases h2 : x = 0
  · rw [if_pos h2] at h
    simp only [Prod.mk.injEq] at h
    obtain ⟨rfl, rfl, _⟩ := h
    rw [if_pos ⟨h0, decide_eq_true (fun i hi => by simp at hi)⟩, if_pos List.length_nil, List.append_nil, List.length_nil, ← h2, i3]
    exact ⟨rfl, i2⟩
  rw [if_neg h2] at h
  obtain ⟨r, m, e, hR⟩ : ∃ r m e, readN (b.drop q) bound x = (r, m, e) := ⟨_, _, _, rfl⟩
  rw [hR] at h
  dsimp only at h
  by_cases h3 : e ≠ 0
  · rw [if_pos h3] at h
    simp only [Prod.mk.injEq] at h
    exact absurd h.2.2 h3
  rw [if_neg h3] at h
  have he : e = 0 := Decidable.not_not.1 h3
  subst he
  simp only [Prod.mk.injEq] at h
  obtain ⟨rfl, rfl, _⟩ := h
  obtain ⟨n1, n2, n3, n4⟩ := readN_one h0.2 hR
  rw [List.length_drop] at n3
  rw [if_pos ⟨h0, n1⟩, if_neg (by omega), n2, i3, n4, ← List.take_add]
  exact ⟨rfl, by omega⟩

/-! ### How long -/
theorem short (h : (writeE bound ids).2 = 0) (hn : 0 < ids.length) (hn2 : ids.length ≤ 2000) : 8 * (writeE bound ids).1.length ≤ ids.length * (widE bound ids.length + 3) + 31 := by
  unfold writeE at h ⊢
  split at h
  rotate_left
  · simp at h
  rename_i hc
  rw [if_pos hc]
  dsimp only
  obtain ⟨⟨h0, h1⟩, hr⟩ := hc
  have hlen := row_len hr
  obtain ⟨n, en⟩ : ∃ n, n = ids.length := ⟨_, rfl⟩
  have hq : 0 < bound.toNat / ids.length := Nat.div_pos (by omega) hn
  have hw2 := (wid_le hq).2
  have ew : wid (bound.toNat / ids.length) = widE bound ids.length := rfl
  rw [ew] at hw2
  obtain ⟨w, hw⟩ : ∃ w, w = widE bound ids.length := ⟨_, rfl⟩
  unfold rowB
  rw [← hw] at hw2 ⊢
  rw [if_neg (by omega), List.length_append, pack_len]
  unfold bitsE
  rw [List.length_append, lowTo_len, highTo_len hr _ (Nat.le_refl _)]
  have hlast := (row_at hr (i := ids.length - 1) (by omega)).2.1
  have hb2 : bound.toNat < ids.length * 2 ^ (w + 1) := by
    have := Nat.lt_mul_of_div_lt hw2 hn
    rwa [Nat.mul_comm] at this
  have hwas : was w ids ids.length < 2 * ids.length := by
    unfold was hi
    rw [if_neg (by omega)]
    refine Nat.div_lt_of_lt_mul ?_
    have e : 2 ^ w * (2 * ids.length) = ids.length * 2 ^ (w + 1) := by rw [Nat.pow_succ, Nat.mul_comm ids.length, Nat.mul_assoc]
    rw [e]
    omega
  have he : (enc ids.length).length ≤ 3 := by
    unfold Num.enc
    by_cases e1 : ids.length < 128
    · rw [encF_small e1]; simp
    · rw [encF_big e1]
      by_cases e2 : ids.length / 128 < 128
      · rw [encF_small e2]; simp
      · omega
  have e3 : ids.length * (w + 3) = ids.length * w + ids.length * 3 := Nat.mul_add _ _ _
  rw [e3]
  omega
end
end Ef
end Go.Proofs.Ytdpeidijaohgcaa

namespace Go.Proofs.Ytdpeidijaohgcaa

namespace Num
theorem scanF_cut {b : List UInt8} {q K : Nat} (h1 : q + 10 ≤ K) (h2 : K ≤ b.length) : ∀ f i x, i + f = 10 → scanF (b.take K) q f i x = scanF b q f i x
  | 0, _, _, _ => rfl
  | f + 1, i, x, hf => by
    have hg : (b.take K).getD (q + i) 0 = b.getD (q + i) 0 := by
      rw [List.getD_eq_getElem?_getD, List.getElem?_take_of_lt (by omega), ← List.getD_eq_getElem?_getD]
    have hl : (b.take K).length = K := by rw [List.length_take]; omega
    rw [scanF, scanF, hl, hg, if_neg (show ¬ K ≤ q + i by omega), if_neg (show ¬ b.length ≤ q + i by omega), scanF_cut h1 h2 f (i + 1) _ (by omega)]
theorem intR_cut (b : List UInt8) (most : Int) : intR (b.take (min b.length 10)) 0 0 most = intR b 0 0 most := by
  rcases Nat.lt_or_ge b.length 10 with h | h
  · rw [Nat.min_eq_left (by omega), List.take_length]
  · rw [Nat.min_eq_right h]
    unfold intR numR scan
    rw [scanF_cut (by omega) h 10 0 0 rfl]
end Num

namespace Ef
open Num Bit

section
variable {l : List UInt8} {m : Nat} {bound : Int} {w : Nat}
theorem rest_take {p i : Nat} (h : p + i < 8 * (l.take m).length) : rest (l.take m) p i = rest l p i := by
  unfold rest
  rw [List.length_take] at h
  exact at_take l (by omega)
theorem un_take {p : Nat} (h : unErr (l.take m) p = 0) : unErr l p = 0 ∧ unNum l p = unNum (l.take m) p ∧ unTo l p = unTo (l.take m) p := by
  have hle : (l.take m).length ≤ l.length := by rw [List.length_take]; omega
  have hne : zs (l.take m) p ≠ 8 * (l.take m).length - p := by
    intro e
    unfold unErr at h
    rw [if_pos e] at h
    exact absurd h (by decide)
  have hz : zs (l.take m) p ≤ 8 * (l.take m).length - p := zeros_le _ _
  have hzt := zeros_true (8 * (l.take m).length - p) (rest (l.take m) p) (by have : zs (l.take m) p = zeros (8 * (l.take m).length - p) (rest (l.take m) p) := rfl; omega)
  have e : zs l p = zs (l.take m) p := by
    refine zeros_eq (by omega) (fun i hi => ?_) (fun _ => ?_)
    · rw [← rest_take (m := m) (by omega)]
      exact zeros_false _ _ i hi
    · rw [← rest_take (m := m) (by omega)]
      exact hzt
  have n1 : zs l p ≠ 8 * l.length - p := by rw [e]; omega
  exact ⟨by unfold unErr; rw [if_neg n1], by unfold unNum; rw [if_neg n1, if_neg hne, e], by unfold unTo; rw [if_neg n1, if_neg hne, e]⟩
theorem get_take {q k : Nat} (hk : k ≤ 64) (h : q + k ≤ 8 * (l.take m).length) : getNum l q (k : Int) = getNum (l.take m) q (k : Int) := by
  have hle : (l.take m).length ≤ l.length := by rw [List.length_take]; omega
  have e1 : getErr (8 * l.length - q) (k : Int) = 0 := by unfold getErr; rw [if_pos ⟨by omega, by omega⟩, if_pos (by omega)]
  have e2 : getErr (8 * (l.take m).length - q) (k : Int) = 0 := by unfold getErr; rw [if_pos ⟨by omega, by omega⟩, if_pos (by omega)]
  unfold getNum
  rw [if_pos e1, if_pos e2, Int.toNat_natCast]
  exact val_congr k fun i hi => (rest_take (by omega)).symm
theorem readH_take (hw : w ≤ 14) : ∀ (k p h : Nat) (out : List Int), (out.length + k) * w ≤ 8 * (l.take m).length → p ≤ 8 * (l.take m).length → (readH (l.take m) w bound k p h out).2.2 ≠ 1 →
    readH l w bound k p h out = readH (l.take m) w bound k p h out ∧ ((readH (l.take m) w bound k p h out).2.2 = 0 → (readH (l.take m) w bound k p h out).2.1 ≤ 8 * (l.take m).length)
  | 0, p, h, out, _, hp, _ => ⟨rfl, fun _ => hp⟩
  | k + 1, p, h, out, hl, hp, hne => by
    rw [readH] at hne
    by_cases h1 : unErr (l.take m) p = 0
    case neg =>
      rw [if_pos h1] at hne
      exact absurd rfl hne
    obtain ⟨u1, u2, u3⟩ := un_take h1
    have u4 := (un_sub h1).2.1
    have hw2 : out.length * w + w ≤ 8 * (l.take m).length := by
      have : (out.length + 1) * w ≤ (out.length + (k + 1)) * w := Nat.mul_le_mul_right _ (by omega)
      rw [Nat.add_mul, Nat.one_mul] at this
      omega
    have g := get_take (l := l) (m := m) (q := out.length * w) (k := w) (by omega) hw2
    rw [if_neg (by rw [h1]; simp)] at hne
    rw [readH, readH, u1, u2, u3, g, h1, if_neg (show ¬ ((0 : Int) ≠ 0) by simp), if_neg (show ¬ ((0 : Int) ≠ 0) by simp)]
    by_cases h2 : 0 < out.length ∧ (((h + unNum (l.take m) p) * 2 ^ w + getNum (l.take m) (out.length * w) (w : Int) : Nat) : Int) ≤ out.getD (out.length - 1) 0
    · rw [if_pos h2, if_pos h2]
      exact ⟨rfl, fun h => by simp at h⟩
    rw [if_neg h2] at hne
    rw [if_neg h2, if_neg h2]
    by_cases h3 : bound ≤ (((h + unNum (l.take m) p) * 2 ^ w + getNum (l.take m) (out.length * w) (w : Int) : Nat) : Int)
    · rw [if_pos h3, if_pos h3]
      exact ⟨rfl, fun h => by simp at h⟩
    rw [if_neg h3] at hne
    rw [if_neg h3, if_neg h3]
    exact readH_take hw k _ _ _ (by rw [List.length_append, List.length_singleton, show out.length + 1 + k = out.length + (k + 1) by omega]; exact hl) u4 hne
theorem padZ_take {p : Nat} (h : p ≤ 8 * (l.take m).length) : padZ l p = padZ (l.take m) p := by
  unfold padZ
  refine decide_eq_decide.2 ?_
  have hle : (l.take m).length ≤ m := by rw [List.length_take]; omega
  constructor <;> intro H i hi
  · rw [at_take l (by omega)]; exact H i hi
  · rw [← at_take l (m := m) (by omega)]; exact H i hi
/-- What a prefix tells that doesn't fall short, all bytes tell. -/
theorem readN_take {n : Nat} (hb : bound ≤ 20000) (h : (readN (l.take m) bound n).2.2 ≠ 1) : readN l bound n = readN (l.take m) bound n := by
  have hw := widE_le (n := n) hb
  have hle : (l.take m).length ≤ l.length := by rw [List.length_take]; omega
  unfold readN at h ⊢
  obtain ⟨w, ew⟩ : ∃ w, w = widE bound n := ⟨_, rfl⟩
  rw [← ew] at h hw ⊢
  by_cases h1 : 8 * (l.take m).length < n * w
  · rw [if_pos h1] at h; simp at h
  rw [if_neg h1] at h
  rw [if_neg h1, if_neg (by omega)]
  by_cases h2 : (readH (l.take m) w bound n (n * w) 0 []).2.2 = 1
  · rw [h2, if_pos (by simp)] at h
    simp at h
  obtain ⟨H1, H2⟩ := readH_take (l := l) (m := m) (bound := bound) hw n (n * w) 0 [] (by rw [List.length_nil, Nat.zero_add]; omega) (by omega) h2
  rw [H1]
  by_cases h3 : (readH (l.take m) w bound n (n * w) 0 []).2.2 = 0
  · rw [padZ_take (H2 h3)]
  · rw [if_pos h3, if_pos h3]
end
/-- How the program reads n numbers from bytes. -/
def readP (l : List UInt8) (bound : Int) (n : Nat) : List Int × Nat × Int := if n = 0 then ([], 0, 0) else readN l bound n
theorem readP_take {l : List UInt8} {m n : Nat} {bound : Int} (hb : bound ≤ 20000) (h : (readP (l.take m) bound n).2.2 ≠ 1) : readP l bound n = readP (l.take m) bound n := by
  unfold readP at h ⊢
  split
  · rfl
  · rename_i hn
    rw [if_neg hn] at h
    exact readN_take hb h
theorem readP_bad {l : List UInt8} {n : Nat} {bound : Int} (h : (readP l bound n).2.2 ≠ 0) : (readP l bound n).1 = [] ∧ (readP l bound n).2.1 = 0 := by
  unfold readP at h ⊢
  by_cases h0 : n = 0
  · rw [if_pos h0]; exact ⟨rfl, rfl⟩
  rw [if_neg h0] at h ⊢
  unfold readN at h ⊢
  split
  · exact ⟨rfl, rfl⟩
  · split
    · exact ⟨rfl, rfl⟩
    · split
      · exact ⟨rfl, rfl⟩
      · rename_i h1 h2 h3
        rw [if_neg h1, if_neg h2, if_neg h3] at h
        exact absurd rfl h
/-- How the program reads a row: the number from the first bytes, then the numbers. -/
theorem readE_prog {bound : Int} {b : List UInt8} (h0 : 0 ≤ bound) (h1 : bound ≤ 20000) :
    ((intR b 0 0 bound).2.2 ≠ 0 → readE bound b = ([], 0, (intR b 0 0 bound).2.2)) ∧
    ((intR b 0 0 bound).2.2 = 0 → (readP (b.drop (intR b 0 0 bound).2.1) bound (intR b 0 0 bound).1).2.2 ≠ 0 → readE bound b = ([], 0, (readP (b.drop (intR b 0 0 bound).2.1) bound (intR b 0 0 bound).1).2.2)) ∧
    ((intR b 0 0 bound).2.2 = 0 → (readP (b.drop (intR b 0 0 bound).2.1) bound (intR b 0 0 bound).1).2.2 = 0 →
      readE bound b = ((readP (b.drop (intR b 0 0 bound).2.1) bound (intR b 0 0 bound).1).1, (intR b 0 0 bound).2.1 + (readP (b.drop (intR b 0 0 bound).2.1) bound (intR b 0 0 bound).1).2.1, 0)) := by
  have hx : 0 ≤ bound ∧ bound ≤ 20000 := ⟨h0, h1⟩
  refine ⟨fun h => ?_, fun h h2 => ?_, fun h h2 => ?_⟩
  · unfold readE
    rw [if_pos hx, if_pos h]
  · unfold readP at h2 ⊢
    unfold readE
    rw [if_pos hx, if_neg (by rw [h]; simp)]
    by_cases hz : (intR b 0 0 bound).1 = 0
    · rw [if_pos hz] at h2
      exact absurd rfl h2
    · rw [if_neg hz] at h2 ⊢
      rw [if_neg hz, if_pos h2]
  · unfold readP at h2 ⊢
    unfold readE
    rw [if_pos hx, if_neg (by rw [h]; simp)]
    by_cases hz : (intR b 0 0 bound).1 = 0
    · rw [if_pos hz, if_pos hz]
      rfl
    · rw [if_neg hz] at h2
      rw [if_neg hz, if_neg hz, if_neg (by rw [h2]; simp)]

/-! ### Parts -/
theorem part_or (h x k : Nat) (hx : x < 2 ^ k) : h * 2 ^ k ||| x = h * 2 ^ k + x := by
  rw [Nat.mul_comm, ← Nat.two_pow_add_eq_or_of_lt hx]
/-- The parts of numbers: low ones of k bits, and what is above them. -/
def Parts (k : Nat) (ids L H : List Int) : Prop :=
  k ≤ 14 ∧ ids.length = H.length ∧ H.length ≤ L.length ∧ ∀ i, i < ids.length → ∃ h x : Nat, H.getD i 0 = (h : Int) ∧ L.getD i 0 = (x : Int) ∧ x < 2 ^ k ∧ h ≤ 1000000 ∧ ids.getD i 0 = ((h * 2 ^ k + x : Nat) : Int)
theorem Parts.nil {k : Nat} (hk : k ≤ 14) (L : List Int) : Parts k [] L [] := ⟨hk, rfl, by simp, fun i hi => by simp at hi⟩
theorem getD_snoc' (L : List Int) (x : Int) {i : Nat} (h : i < L.length) : (L ++ [x]).getD i 0 = L.getD i 0 := getD_snoc L x h
/-- One number more, its low part behind the others. -/
theorem Parts.more {k h x : Nat} {ids L H : List Int} (hP : Parts k ids L H) (hl : L.length = ids.length) (hx : x < 2 ^ k) (hh : h ≤ 1000000) : Parts k (ids ++ [((h * 2 ^ k + x : Nat) : Int)]) (L ++ [(x : Int)]) (H ++ [(h : Int)]) := by
  obtain ⟨hk, h1, h2, h3⟩ := hP
  refine ⟨hk, by simp [h1], by simp; omega, fun i hi => ?_⟩
  rw [List.length_append, List.length_singleton] at hi
  rcases Nat.lt_or_ge i ids.length with hlt | hge
  · rw [getD_snoc ids _ hlt, getD_snoc L _ (by omega), getD_snoc H _ (by omega)]
    exact h3 i hlt
  · obtain rfl : i = ids.length := by omega
    refine ⟨h, x, ?_, ?_, hx, hh, getD_last _ _⟩
    · rw [h1]; exact getD_last _ _
    · rw [← hl]; exact getD_last _ _
/-- One number more, its low part is there. -/
theorem Parts.high {k h x : Nat} {ids L H : List Int} (hP : Parts k ids L H) (hl : ids.length < L.length) (hL : L.getD ids.length 0 = (x : Int)) (hx : x < 2 ^ k) (hh : h ≤ 1000000) : Parts k (ids ++ [((h * 2 ^ k + x : Nat) : Int)]) L (H ++ [(h : Int)]) := by
  obtain ⟨hk, h1, h2, h3⟩ := hP
  refine ⟨hk, by simp [h1], by simp; omega, fun i hi => ?_⟩
  rw [List.length_append, List.length_singleton] at hi
  rcases Nat.lt_or_ge i ids.length with hlt | hge
  · rw [getD_snoc ids _ hlt, getD_snoc H _ (by omega)]
    exact h3 i hlt
  · obtain rfl : i = ids.length := by omega
    refine ⟨h, x, ?_, hL, hx, hh, getD_last _ _⟩
    rw [h1]; exact getD_last _ _
/-- The parts of a number that isn't below 0. -/
theorem part_is (x k : Nat) : x / 2 ^ k * 2 ^ k + x % 2 ^ k = x := Nat.div_add_mod' x (2 ^ k)
/-- The row's test as the program makes it. -/
theorem row_yes {bound : Int} {ids : List Int} (h : ∀ i, i < ids.length → (if i = 0 then -1 else ids.getD (i - 1) 0) < ids.getD i 0 ∧ ids.getD i 0 < bound) : row bound ids = true := by
  have hge : ∀ i, i < ids.length → 0 ≤ ids.getD i 0 := by
    intro i
    induction i with
    | zero => intro hi; have := (h 0 hi).1; simp at this; simp; omega
    | succ i ih =>
      intro hi
      have h1 := ih (by omega)
      have h2 := (h (i + 1) hi).1
      rw [if_neg (by omega), Nat.add_sub_cancel] at h2
      omega
  refine decide_eq_true fun i hi => ⟨hge i hi, (h i hi).2, fun h0 => ?_⟩
  have := (h i hi).1
  rwa [if_neg (by omega)] at this
theorem row_no {bound : Int} {ids : List Int} {i : Nat} (hi : i < ids.length) (h : ids.getD i 0 ≤ (if i = 0 then -1 else ids.getD (i - 1) 0) ∨ bound ≤ ids.getD i 0) : row bound ids = false := by
  refine decide_eq_false fun H => ?_
  have h1 := H i hi
  rcases h with h | h
  · by_cases h0 : i = 0
    · rw [if_pos h0] at h; omega
    · rw [if_neg h0] at h
      have := h1.2.2 (by omega)
      omega
  · omega
end Ef

theorem i64_and_nat (a b : Nat) (ha : a < 4611686018427387904) (hb : b < 4611686018427387904) : bits .and .i64 (a : Int) (b : Int) = ((a &&& b : Nat) : Int) := by
  have hx : a &&& b < 2 ^ 62 := Nat.and_lt_two_pow _ (by omega)
  have h1 : (BitVec.ofInt 64 (a : Int)).toNat = a := by rw [BitVec.ofInt_natCast, BitVec.toNat_ofNat]; exact Nat.mod_eq_of_lt (by omega)
  have h2 : (BitVec.ofInt 64 (b : Int)).toNat = b := by rw [BitVec.ofInt_natCast, BitVec.toNat_ofNat]; exact Nat.mod_eq_of_lt (by omega)
  show IntKind.i64.wrap ((BitVec.ofInt 64 (a : Int) &&& BitVec.ofInt 64 (b : Int)).toNat : Int) = _
  rw [BitVec.toNat_and, h1, h2, IntKind.wrap_i64]
  omega
theorem i64_or_nat (a b : Nat) (ha : a < 4611686018427387904) (hb : b < 4611686018427387904) : bits .or .i64 (a : Int) (b : Int) = ((a ||| b : Nat) : Int) := by
  have hx : a ||| b < 2 ^ 62 := Nat.or_lt_two_pow (by omega) (by omega)
  have h1 : (BitVec.ofInt 64 (a : Int)).toNat = a := by rw [BitVec.ofInt_natCast, BitVec.toNat_ofNat]; exact Nat.mod_eq_of_lt (by omega)
  have h2 : (BitVec.ofInt 64 (b : Int)).toNat = b := by rw [BitVec.ofInt_natCast, BitVec.toNat_ofNat]; exact Nat.mod_eq_of_lt (by omega)
  show IntKind.i64.wrap ((BitVec.ofInt 64 (a : Int) ||| BitVec.ofInt 64 (b : Int)).toNat : Int) = _
  rw [BitVec.toNat_or, h1, h2, IntKind.wrap_i64]
  omega
end Go.Proofs.Ytdpeidijaohgcaa

namespace Go.Proofs.Ytdpeidijaohgcaa
open Go.RowKit

/-- A slice of numbers that came in. -/
def IntsAt (w : World) (B : Nat) (A : Option Addr) (n : Nat) (L : List Int) : Prop :=
  L.length = n ∧ (n = 0 ∨ ∃ b off, A = some ⟨b, off, none⟩ ∧ b < B ∧ ∀ i, i < n → w.cell? ⟨b, off + i, none⟩ = some (.int .i64 (L.getD i 0)))
theorem IntsAt.below {w w' : World} {B C : Nat} {A : Option Addr} {n : Nat} {L : List Int} (h : IntsAt w B A n L) (hb : Below C w w') (hC : B ≤ C) : IntsAt w' B A n L := by
  refine ⟨h.1, ?_⟩
  rcases h.2 with h0 | ⟨b, off, hA, hB, hc⟩
  · exact .inl h0
  · exact .inr ⟨b, off, hA, hB, fun i hi => by rw [hb.cell (p := ⟨b, off + i, none⟩) (Nat.lt_of_lt_of_le hB hC)]; exact hc i hi⟩
theorem IntsAt.later {w w' : World} {A : Option Addr} {n : Nat} {L : List Int} (h : IntsAt w w.heap.size A n L) (hE : Ext w w') : IntsAt w' w'.heap.size A n L := by
  refine ⟨h.1, ?_⟩
  rcases h.2 with h0 | ⟨b, off, hA, hB, hc⟩
  · exact .inl h0
  · exact .inr ⟨b, off, hA, Nat.lt_of_lt_of_le hB hE.le, fun i hi => by rw [hE.cell hB]; exact hc i hi⟩
theorem intsNew (w : World) (L : List Int) (cs : Array Value) (t : TypeId) (fr : Nat × Nat) (h : cs = (L.map (Value.int .i64)).toArray) (n : Nat) (hn : L.length = n) :
    IntsAt (w.alloc (.cells cs t fr)) (w.alloc (.cells cs t fr)).heap.size (some ⟨w.heap.size, 0, none⟩) n L := by
  subst h
  subst hn
  refine ⟨rfl, .inr ⟨w.heap.size, 0, rfl, by simp, fun i hi => ?_⟩⟩
  rw [Nat.zero_add, World.cell?_alloc_mark]
  simp [hi]
end Go.Proofs.Ytdpeidijaohgcaa

namespace Go.Proofs.Ytdpeidijaohgcaa
open Go.RowKit Num Ef

theorem Ef.wid_is {q j : Nat} (h : j = 0 ∨ 2 ^ j ≤ q) (h2 : q < 2 ^ (j + 1)) : wid q = j := by
  unfold wid
  rcases Nat.eq_zero_or_pos q with e | e
  · subst e
    rcases h with h | h
    · subst h; rfl
    · have := Nat.pow_pos (n := j) (show 0 < 2 by omega); omega
  · refine (Nat.log2_eq_iff (by omega)).2 ⟨?_, h2⟩
    rcases h with h | h
    · subst h; rw [Nat.pow_zero]; omega
    · exact h
/-- What Next tells: the place, the number. -/
def Ef.nextE (ids : List Int) (x : Int) : Int × Int × Bool :=
  match (List.range ids.length).find? fun i => decide (x ≤ ids.getD i 0) with
  | some i => ((i : Int), ids.getD i 0, true)
  | none => (0, 0, false)
theorem Ef.find_first {p : Nat → Bool} : ∀ {n i : Nat}, i < n → p i = true → (∀ j, j < i → p j = false) → (List.range n).find? p = some i
  | 0, i, h, _, _ => by omega
  | n + 1, i, h, hp, ha => by
    rw [List.range_succ, List.find?_append]
    rcases Nat.lt_or_ge i n with hi | hi
    · rw [find_first hi hp ha]; rfl
    · obtain rfl : i = n := by omega
      have : (List.range i).find? p = none := List.find?_eq_none.2 fun j hj => by rw [ha j (List.mem_range.1 hj)]; simp
      rw [this]
      simp [hp]
theorem Ef.next_at {ids : List Int} {x : Int} {i : Nat} (hi : i < ids.length) (h : x ≤ ids.getD i 0) (ha : ∀ j, j < i → ids.getD j 0 < x) : nextE ids x = ((i : Int), ids.getD i 0, true) := by
  unfold nextE
  have e : (List.range ids.length).find? (fun i => decide (x ≤ ids.getD i 0)) = some i := find_first hi (decide_eq_true h) fun j hj => decide_eq_false (by have := ha j hj; omega)
  rw [e]
theorem Ef.next_none {ids : List Int} {x : Int} (ha : ∀ j, j < ids.length → ids.getD j 0 < x) : nextE ids x = (0, 0, false) := by
  unfold nextE
  have : (List.range ids.length).find? (fun i => decide (x ≤ ids.getD i 0)) = none := List.find?_eq_none.2 fun j hj => by
    have := ha j (List.mem_range.1 hj)
    rw [decide_eq_false (by omega)]
    simp
  rw [this]

set_option maxHeartbeats 1000000 in
set_option maxRecDepth 100000 in
theorem refMay13_any (A : Option Addr) (n c : Nat) (L : List Int) (bound : Int) (w : World) (h : IntsAt w w.heap.size A n L) (hn : n ≤ 1000000) :
    Calls Try.prog 16 #[.int .i64 bound, .slice A n c] w fun e w' => e = .returned (.bool (row bound L)) ∧ Ext w w' := by
  have hl := h.1
  have HA := hide h
  have HYes := hide (show (∀ i, i < n → 0 ≤ L.getD i 0 ∧ L.getD i 0 < bound ∧ (0 < i → L.getD (i - 1) 0 < L.getD i 0)) → row bound L = true from fun h => decide_eq_true (by rw [hl]; exact h))
  have HNo := hide (show ∀ i, i < n → ¬ (0 ≤ L.getD i 0 ∧ L.getD i 0 < bound ∧ (0 < i → L.getD (i - 1) 0 < L.getD i 0)) → row bound L = false from fun i hi h => decide_eq_false fun e => h (e i (by omega)))
  generalize row bound L = res at *
  clear h hl
  go_enter Try.func16, Try.ntmps16
  go_wp2
  go_loopw [5] (fun x wr => ∃ i : Nat, i ≤ n ∧ x = .int .i64 (i : Int) ∧ (∀ j, j < i → 0 ≤ L.getD j 0 ∧ L.getD j 0 < bound ∧ (0 < j → L.getD (j - 1) 0 < L.getD j 0)) ∧ Qt w wr) (fun x _ => n - (intOf x).toNat)
  case atStart => exact ⟨0, by omega, rfl, fun j hj => absurd hj (by omega), Qt.refl _⟩
  case round =>
    obtain ⟨i, hi, rfl, hall, hQ⟩ := hrel
    have HAll := hide hall
    clear hall
    by_cases hlt : i < n
    · have hiI : (i : Int) < (n : Int) := by omega
      rcases (HA.out.later hQ.ext).2 with hn0 | ⟨b1, o1, rfl, _, hc1⟩
      · omega
      have e1 := hc1 i hlt
      have HNi := hide (HNo.out i hlt)
      have HNext := hide (show (0 ≤ L.getD i 0 ∧ L.getD i 0 < bound ∧ (0 < i → L.getD (i - 1) 0 < L.getD i 0)) → ∀ j, j < i + 1 → 0 ≤ L.getD j 0 ∧ L.getD j 0 < bound ∧ (0 < j → L.getD (j - 1) 0 < L.getD j 0) from fun h j hj => by
        by_cases e : j = i
        · rw [e]; exact h
        · exact HAll.out j (by omega))
      rcases Nat.eq_zero_or_pos i with hi0 | hi0
      · obtain ⟨y, hy⟩ : ∃ y, y = L.getD i 0 := ⟨_, rfl⟩
        rw [← hy] at e1 HNi
        have HY := hide hy
        have hd0 : decide ((0 : Int) < (i : Int)) = false := decide_eq_false (by omega)
        have hdn : decide (0 < i) = false := decide_eq_false (by omega)
        have HI0 := hide hi0
        clear hc1 hy hi0
        by_cases g1 : y < 0
        · have hd1 : decide (y < 0) = true := decide_eq_true g1
          have HR := hide (HNi.out fun h => by omega)
          clear HNext HNi
          go_wp2_with fail
          go_quiet (fail)
          go_wp2
          go_ret
          exact ⟨ret_bool HR.out.symm, (hQ.drewN _).ext⟩
        have hd1 : decide (y < 0) = false := decide_eq_false g1
        by_cases g2 : y < bound
        · have hg2 : ¬ bound ≤ y := by omega
          have hd2 : decide (bound ≤ y) = false := decide_eq_false hg2
          have hNx := hide (HNext.out (by rw [← HY.out]; exact ⟨by omega, g2, fun h => absurd h (by have := HI0.out; omega)⟩))
          clear HNext HNi
          go_wp2_with fail
          go_quiet (fail)
          go_wp2
          go_roundw
          case rel => exact ⟨i + 1, by omega, by go_num, hNx.out, hQ.drewN _⟩
          case measure => simp [intOf]; omega
        · have hg2 : bound ≤ y := by omega
          have hd2 : decide (bound ≤ y) = true := decide_eq_true hg2
          have HR := hide (HNi.out fun h => g2 h.2.1)
          clear HNext HNi
          go_wp2_with fail
          go_quiet (fail)
          go_wp2
          go_ret
          exact ⟨ret_bool HR.out.symm, (hQ.drewN _).ext⟩
      · obtain ⟨k, rfl⟩ : ∃ k, i = k + 1 := ⟨i - 1, by omega⟩
        have e2 := hc1 k (by omega)
        rw [Nat.add_sub_cancel] at HNi HNext
        obtain ⟨y, hy⟩ : ∃ y, y = L.getD (k + 1) 0 := ⟨_, rfl⟩
        obtain ⟨z, hz⟩ : ∃ z, z = L.getD k 0 := ⟨_, rfl⟩
        rw [← hy] at e1 HNi HNext
        rw [← hz] at e2 HNi HNext
        have hk : ((k + 1 : Nat) : Int) - 1 = (k : Int) := by omega
        have hk0 : (0 : Int) < ((k + 1 : Nat) : Int) := by omega
        have hd0 : decide ((0 : Int) < ((k + 1 : Nat) : Int)) = true := decide_eq_true hk0
        clear hc1 hy hz
        by_cases g1 : y < 0
        · have hd1 : decide (y < 0) = true := decide_eq_true g1
          have HR := hide (HNi.out fun h => by omega)
          clear HNext HNi
          go_wp2_with fail
          go_quiet (fail)
          go_wp2
          go_ret
          exact ⟨ret_bool HR.out.symm, (hQ.drewN _).ext⟩
        have hd1 : decide (y < 0) = false := decide_eq_false g1
        by_cases g2 : y < bound
        · have hg2 : ¬ bound ≤ y := by omega
          have hd2 : decide (bound ≤ y) = false := decide_eq_false hg2
          by_cases g3 : z < y
          · have hg3 : ¬ y ≤ z := by omega
            have hd3 : decide (y ≤ z) = false := decide_eq_false hg3
            have hNx := hide (HNext.out ⟨by omega, g2, fun _ => g3⟩)
            clear HNext HNi
            go_wp2_with fail
            go_quiet (fail)
            go_wp2
            go_roundw
            case rel => exact ⟨k + 1 + 1, by omega, by go_num, hNx.out, hQ.drewN _⟩
            case measure => simp [intOf]; omega
          · have hg3 : y ≤ z := by omega
            have hd3 : decide (y ≤ z) = true := decide_eq_true hg3
            have HR := hide (HNi.out fun h => g3 (h.2.2 (by omega)))
            clear HNext HNi
            go_wp2_with fail
            go_quiet (fail)
            go_wp2
            go_ret
            exact ⟨ret_bool HR.out.symm, (hQ.drewN _).ext⟩
        · have hg2 : bound ≤ y := by omega
          have hd2 : decide (bound ≤ y) = true := decide_eq_true hg2
          have HR := hide (HNi.out fun h => g2 h.2.1)
          clear HNext HNi
          go_wp2_with fail
          go_quiet (fail)
          go_wp2
          go_ret
          exact ⟨ret_bool HR.out.symm, (hQ.drewN _).ext⟩
    · obtain rfl : n = i := by omega
      have HN := hide (HYes.out HAll.out)
      go_wp2
      go_ret
      exact ⟨ret_bool HN.out.symm, hQ.ext⟩

def WidTo (q : Nat) (e : Ending) : Prop := ∃ p : Nat, p = 2 ^ wid q ∧ e = .returned (.tuple #[.int .i64 (wid q : Int), .int .i64 (p : Int)])
set_option maxHeartbeats 1000000 in
set_option maxRecDepth 100000 in
theorem refWidth_any (q : Nat) (w : World) (hq : q ≤ 20000) : Calls Try.prog 28 #[.int .i64 (q : Int)] w fun e w' => WidTo q e ∧ w' = w := by
  go_enter Try.func28, Try.ntmps28
  go_wp2
  go_loopw [4, 5] (fun x y wr => ∃ j : Nat, x = .int .i64 (j : Int) ∧ y = .int .i64 ((2 ^ j : Nat) : Int) ∧ (j = 0 ∨ 2 ^ j ≤ q) ∧ j ≤ 20 ∧ wr = w) (fun x _ _ => 20 - (intOf x).toNat)
  case atStart => exact ⟨0, rfl, rfl, .inl rfl, by omega, rfl⟩
  case round =>
    obtain ⟨j, rfl, rfl, hj, hj2, rfl⟩ := hrel
    obtain ⟨p, hp⟩ : ∃ p, p = 2 ^ j := ⟨_, rfl⟩
    have hp1 : 0 < p := by rw [hp]; exact Nat.pow_pos (by omega)
    have hps : 2 ^ (j + 1) = 2 * p := by rw [Nat.pow_succ, hp]; omega
    have hpq : p ≤ 20000 := by
      rcases hj with h | h
      · subst h; rw [hp]; simp
      · omega
    rw [← hp] at hj ⊢
    by_cases hlt : 2 * p ≤ q
    · have hI : 2 * (p : Int) ≤ (q : Int) := by omega
      have hj15 : j < 20 := by
        refine Decidable.byContradiction fun h => ?_
        have : 2 ^ 20 ≤ 2 ^ j := Nat.pow_le_pow_right (by omega) (by omega)
        omega
      have HP := hide hp
      have HPS := hide hps
      clear hp hps
      go_wp2
      go_roundw
      case rel => exact ⟨j + 1, by go_num, (by rw [HPS.out]; go_num), .inr (by rw [HPS.out]; exact hlt), by omega, trivial⟩
      case measure => simp [intOf]; omega
    · have hI : ¬ 2 * (p : Int) ≤ (q : Int) := by omega
      have HW := hide (wid_is (q := q) (j := j) (by rw [← hp]; exact hj) (by omega))
      have HP := hide hp
      clear hp hps
      go_wp2
      go_ret2
      exact ⟨⟨p, by rw [HW.out]; exact HP.out, by rw [HW.out]; rfl⟩, rfl⟩

set_option maxHeartbeats 1000000 in
set_option maxRecDepth 100000 in
theorem refNext13_any (A : Option Addr) (n c : Nat) (L : List Int) (x : Int) (w : World) (h : IntsAt w w.heap.size A n L) (hn : n ≤ 1000000) :
    Calls Try.prog 20 #[.slice A n c, .int .i64 x] w fun e w' => e = .returned (.tuple #[.int .i64 (nextE L x).1, .int .i64 (nextE L x).2.1, .bool (nextE L x).2.2]) ∧ Ext w w' := by
  have hl := h.1
  have HA := hide h
  have HAt := hide (fun (i : Nat) (hi : i < n) (h : x ≤ L.getD i 0) (ha : ∀ j, j < i → L.getD j 0 < x) => next_at (ids := L) (x := x) (i := i) (by omega) h ha)
  have HNone := hide (fun (ha : ∀ j, j < n → L.getD j 0 < x) => next_none (ids := L) (x := x) (fun j hj => ha j (by omega)))
  generalize nextE L x = res at *
  clear h hl
  go_enter Try.func20, Try.ntmps20
  go_wp2
  go_loopw [7] (fun y wr => ∃ i : Nat, i ≤ n ∧ y = .int .i64 (i : Int) ∧ (∀ j, j < i → L.getD j 0 < x) ∧ wr = w) (fun y _ => n - (intOf y).toNat)
  case atStart => exact ⟨0, by omega, rfl, fun j hj => absurd hj (by omega), rfl⟩
  case round =>
    obtain ⟨i, hi, rfl, hall, rfl⟩ := hrel
    have HAll := hide hall
    clear hall
    by_cases hlt : i < n
    · have hiI : (i : Int) < (n : Int) := by omega
      rcases HA.out.2 with hn0 | ⟨b1, o1, rfl, _, hc1⟩
      · omega
      have e1 := hc1 i hlt
      have HNi := hide (HAt.out i hlt)
      obtain ⟨y, hy⟩ : ∃ y, y = L.getD i 0 := ⟨_, rfl⟩
      rw [← hy] at e1
      have HY := hide hy
      clear hc1 hy
      by_cases g : x ≤ y
      · have HR := hide (show res = ((i : Int), y, true) by rw [HY.out]; exact HNi.out (by rw [← HY.out]; exact g) HAll.out)
        clear HNi HNone HAt HY
        go_wp2_with fail
        go_quiet (fail)
        go_wp2
        go_ret3
        rw [HR.out]
        exact ⟨rfl, (Qt.refl _ |>.drewN _).ext⟩
      · clear HNi
        go_wp2
        go_roundw
        case rel => exact ⟨i + 1, by omega, by go_num, fun j hj => (by
          by_cases e : j = i
          · rw [e, ← HY.out]; omega
          · exact HAll.out j (by omega)), trivial⟩
        case measure => simp [intOf]; omega
    · obtain rfl : n = i := by omega
      have HN := hide (HNone.out HAll.out)
      clear HNone HAt
      go_wp2
      go_ret3
      rw [HN.out]
      exact ⟨rfl, Ext.refl _⟩
end Go.Proofs.Ytdpeidijaohgcaa

namespace Go.Proofs.Ytdpeidijaohgcaa
open Go.RowKit

/-- v is nil, or lies in a block of the call's own, and reads as these numbers. -/
def OwnI (w : World) (base : Nat) (v : Value) (L : List Int) : Prop := w.ownsRow base 3 1 v L.length (L.map (Value.int .i64))
theorem int_info : (Try.prog.info? 3).map (fun i => (i.zero, i.size, i.bytes)) = some (some (.int .i64 0), 1, 8) := by kernel_rfl
theorem OwnI.nil (w : World) (base : Nat) : OwnI w base (.slice none 0 0) [] := World.ownsRow_nil w base _ _
theorem OwnI.ext {w w' : World} {base : Nat} {v : Value} {L : List Int} (h : OwnI w base v L) (hE : Ext w w') : OwnI w' base v L :=
  World.ownsRow.kept h (hE.grown none) (by cases hv : v.ownBlock <;> simp)
theorem OwnI.lt {w : World} {base : Nat} {v : Value} {L : List Int} (h : OwnI w base v L) : ∀ k, v.ownBlock = some k → base ≤ k ∧ k < w.heap.size := World.ownsRow.lt h
theorem OwnI.form {w : World} {base : Nat} {v : Value} {L : List Int} (h : OwnI w base v L) : ∃ A c, v = .slice A L.length c ∧ L.length ≤ c ∧ IntsAt w w.heap.size A L.length L := by
  have hl := h.lt
  rcases h.2 with ⟨rfl, h0⟩ | ⟨g, cap, cur, rfl, hb, hg, hn, hc, hs, ht⟩
  · exact ⟨none, 0, by rw [h0], by omega, rfl, .inl h0⟩
  · refine ⟨_, cap, rfl, hn, rfl, .inr ⟨g, 0, rfl, (hl g rfl).2, fun i hi => ?_⟩⟩
    have hk := World.ownsRow.cellAt h i (by omega)
    rw [Nat.zero_add, hk]
    simp [hi]
section
variable {o : Oper} {a : Act} {Q : Exit → Act → World → Prop} {w : World} {base : Nat} {v : Value} {L : List Int}
/-- append of one number, which lies in a block of its own. -/
theorem wpList_appIB {ops : Array Oper} {rest : List Oper} (hgd : o.guard = none) (s x : Operand) (ho : o.op = .call { callee := .builtin .append, args := #[s, x], argTypes := #[22, 22] }) (hs : a.eval s = v) (p : Int)
    (hown : OwnI (w.alloc (.cells #[.int .i64 p] 3)) base v L) {c : Nat} (hx : a.eval x = .slice (some ⟨w.heap.size, 0, none⟩) 1 c) (hlen : L.length ≤ 1000000) (hbase : base ≤ w.heap.size)
    (h : ∀ v' w', OwnI w' base v' (L ++ [p]) → (w.alloc (.cells #[.int .i64 p] 3)).grownBy w' v.ownBlock → wpList Try.prog ops Q rest (a.put o.dst v') w') :
    wpList Try.prog ops Q (o :: rest) a (w.alloc (.cells #[.int .i64 p] 3)) := by
  obtain ⟨i, hi, hz, hsz, hby⟩ := info_parts int_info
  refine wpList_append_own_at _ hgd s x 22 ho base 3 i _ 1 8 Try.underlying22 hi hz hsz hby rfl (by omega) v L.length (L.map (Value.int .i64)) hs hown ⟨w.heap.size, 0, none⟩ 1 c [.int .i64 p] hx rfl (by
    intro j u hu
    match j, hu with
    | 0, hu =>
      have : (⟨w.heap.size, 0, none⟩ : Addr).add 0 = ⟨w.heap.size, 0, none⟩ := rfl
      rw [this, cellNew]
      simpa using hu
    | j + 1, hu => simp at hu) (by
    intro u hu
    simp at hu
    subst hu
    rfl) (by unfold maxLen; omega) (by omega) (by simp; omega) ?_
  intro v' w' h2 h3 _ h5
  refine h v' w' ?_ h3
  unfold OwnI
  rw [List.length_append, List.map_append]
  exact h2
theorem wpList_appI {ops : Array Oper} {rest : List Oper} (hgd : o.guard = none) (s x : Operand) (ho : o.op = .call { callee := .builtin .append, args := #[s, x], argTypes := #[22, 22] }) (hs : a.eval s = v) (p : Int)
    (hown : OwnI (w.alloc (.cells #[.int .i64 p] 3)) base v L) {c : Nat} (hx : a.eval x = .slice (some ⟨w.heap.size, 0, none⟩) 1 c) (hlen : L.length ≤ 1000) (hbase : base ≤ w.heap.size)
    (h : ∀ v' w', OwnI w' base v' (L ++ [p]) → (w.alloc (.cells #[.int .i64 p] 3)).grownBy w' v.ownBlock → wpList Try.prog ops Q rest (a.put o.dst v') w') :
    wpList Try.prog ops Q (o :: rest) a (w.alloc (.cells #[.int .i64 p] 3)) :=
  wpList_appIB hgd s x ho hs p hown hx (by omega) hbase h
end
end Go.Proofs.Ytdpeidijaohgcaa

namespace Go.Proofs.Ytdpeidijaohgcaa
open Go.RowKit Num Ef

theorem efMay_any (bound : Int) (w : World) : Calls Try.prog 21 #[.int .i64 bound] w fun e w' => e = .returned (.bool (decide (0 ≤ bound ∧ bound ≤ 20000))) ∧ w = w' := by
  by_cases h0 : 0 ≤ bound
  · by_cases h1 : bound ≤ 20000
    · have HD := hide (show decide (0 ≤ bound ∧ bound ≤ 20000) = true from decide_eq_true ⟨h0, h1⟩)
      generalize decide (0 ≤ bound ∧ bound ≤ 20000) = res at *
      go_enter Try.func21, Try.ntmps21
      go_wp2
      go_ret
      exact ⟨ret_bool HD.out.symm, rfl⟩
    · have HD := hide (show decide (0 ≤ bound ∧ bound ≤ 20000) = false from decide_eq_false fun h => h1 h.2)
      generalize decide (0 ≤ bound ∧ bound ≤ 20000) = res at *
      go_enter Try.func21, Try.ntmps21
      go_wp2
      go_ret
      exact ⟨ret_bool HD.out.symm, rfl⟩
  · have HD := hide (show decide (0 ≤ bound ∧ bound ≤ 20000) = false from decide_eq_false fun h => h0 h.1)
    generalize decide (0 ≤ bound ∧ bound ≤ 20000) = res at *
    go_enter Try.func21, Try.ntmps21
    go_wp2
    go_ret
    exact ⟨ret_bool HD.out.symm, rfl⟩

/-- The number ahead. -/
def Ef.aheadOf (ids : List Int) (i : Nat) : Int := if i = 0 then -1 else ids.getD (i - 1) 0
theorem Ef.aheadOf_succ (ids : List Int) (i : Nat) : aheadOf ids (i + 1) = ids.getD i 0 := by unfold aheadOf; rw [if_neg (by omega), Nat.add_sub_cancel]

set_option maxHeartbeats 1000000 in
set_option maxRecDepth 100000 in
theorem efIsRow_any (A : Option Addr) (n c : Nat) (ids : List Int) (bound : Int) (w : World) (h : IntsAt w w.heap.size A n ids) (hn : n ≤ 1000000) :
    Calls Try.prog 22 #[.int .i64 bound, .slice A n c] w fun e w' => e = .returned (.bool (row bound ids)) ∧ w = w' := by
  have hl := h.1
  have HA := hide h
  have HYes := hide (show (∀ i, i < n → aheadOf ids i < ids.getD i 0 ∧ ids.getD i 0 < bound) → row bound ids = true from fun h => row_yes (by rw [hl]; exact h))
  have HNo := hide (show ∀ i, i < n → (ids.getD i 0 ≤ aheadOf ids i ∨ bound ≤ ids.getD i 0) → row bound ids = false from fun i hi h => row_no (by omega) h)
  generalize row bound ids = res at *
  clear h hl
  go_enter Try.func22, Try.ntmps22
  go_wp2
  go_loopw [10, 5] (fun x y wr => ∃ i : Nat, i ≤ n ∧ x = .int .i64 (i : Int) ∧ y = .int .i64 (aheadOf ids i) ∧ (∀ j, j < i → aheadOf ids j < ids.getD j 0 ∧ ids.getD j 0 < bound) ∧ wr = w) (fun x _ _ => n - (intOf x).toNat)
  case atStart => exact ⟨0, by omega, rfl, rfl, fun j hj => absurd hj (by omega), rfl⟩
  case round =>
    obtain ⟨i, hi, rfl, rfl, hall, rfl⟩ := hrel
    have HAll := hide hall
    clear hall
    by_cases hlt : i < n
    · have hiI : (i : Int) < (n : Int) := by omega
      rcases HA.out.2 with hn0 | ⟨b1, o1, rfl, _, hc1⟩
      · omega
      have e1 := hc1 i hlt
      have HNi := hide (HNo.out i hlt)
      have HNext := hide (show aheadOf ids i < ids.getD i 0 → ids.getD i 0 < bound → ∀ j, j < i + 1 → aheadOf ids j < ids.getD j 0 ∧ ids.getD j 0 < bound from fun h1 h2 j hj => by
        by_cases e : j = i
        · rw [e]; exact ⟨h1, h2⟩
        · exact HAll.out j (by omega))
      have HS := hide (aheadOf_succ ids i)
      obtain ⟨y, hy⟩ : ∃ y, y = ids.getD i 0 := ⟨_, rfl⟩
      obtain ⟨z, hz⟩ : ∃ z, z = aheadOf ids i := ⟨_, rfl⟩
      rw [← hy] at e1 HNi HNext HS
      rw [← hz] at HNi HNext ⊢
      clear hc1 hy hz
      by_cases g1 : y ≤ z
      · have HR := hide (HNi.out (.inl g1))
        clear HNext HNi HS
        go_wp2
        go_ret
        exact ⟨ret_bool HR.out.symm, rfl⟩
      · by_cases g2 : bound ≤ y
        · have HR := hide (HNi.out (.inr g2))
          clear HNext HNi HS
          go_wp2
          go_ret
          exact ⟨ret_bool HR.out.symm, rfl⟩
        · have hNx := hide (HNext.out (by omega) (by omega))
          clear HNext HNi
          go_wp2
          go_roundw
          case rel => exact ⟨i + 1, by omega, by go_num, by rw [HS.out], hNx.out, trivial⟩
          case measure => simp [intOf]; omega
    · obtain rfl : n = i := by omega
      have HN := hide (HYes.out HAll.out)
      go_wp2
      go_ret
      exact ⟨ret_bool HN.out.symm, rfl⟩

theorem wrap64_pow {k : Nat} (h : k ≤ 20) : wrap64 (2 ^ k) = ((2 ^ k : Nat) : Int) := by
  have h1 : (2 : Nat) ^ k ≤ 2 ^ 20 := Nat.pow_le_pow_right (by omega) h
  rw [show (2 : Int) ^ k = ((2 ^ k : Nat) : Int) by simp]
  generalize 2 ^ k = v at *
  unfold wrap64
  omega

set_option maxHeartbeats 1000000 in
set_option maxRecDepth 100000 in
theorem efLow_any (bd n : Nat) (w : World) (hb : bd ≤ 20000) (hn : n ≤ 20000) : Calls Try.prog 42 #[.int .i64 (bd : Int), .int .i64 (n : Int)] w fun e w' => e = .returned (.int .i64 ((widE (bd : Int) n : Nat) : Int)) ∧ Qt w w' := by
  by_cases hz : n = 0
  · subst hz
    have HW := hide (show widE (bd : Int) 0 = 0 by unfold widE wid; rw [Nat.div_zero]; rfl)
    rw [HW.out]
    go_enter Try.func42, Try.ntmps42
    go_wp2
    go_ret
    exact ⟨rfl, Qt.refl _⟩
  have hzb : ((n : Int) == 0) = false := by rw [beq_eq_false_iff_ne]; omega
  have hnI : (n : Int) ≠ 0 := by omega
  obtain ⟨q, hq⟩ : ∃ q, q = bd / n := ⟨_, rfl⟩
  have hqI : (bd : Int).tdiv (n : Int) = (q : Int) := by rw [hq, Int.tdiv_eq_ediv_of_nonneg (by omega)]; rfl
  have hq2 : q ≤ 20000 := by rw [hq]; exact Nat.le_trans (Nat.div_le_self _ _) (by omega)
  have HWd := hide (show widE (bd : Int) n = wid q by unfold widE; rw [hq, Int.toNat_natCast])
  rw [HWd.out]
  clear hq HWd
  go_enter Try.func42, Try.ntmps42
  go_wp2
  go_loopw [5] (fun x wr => ∃ j : Nat, x = .int .i64 (j : Int) ∧ (j = 0 ∨ 2 ^ j ≤ q) ∧ j ≤ 16 ∧ Qt w wr) (fun x _ => 20 - (intOf x).toNat)
  case atStart => exact ⟨0, rfl, .inl rfl, by omega, Qt.refl _⟩
  case round =>
    obtain ⟨j, rfl, hj, hj2, hQ⟩ := hrel
    have hwp := wrap64_pow (k := j + 1) (by omega)
    obtain ⟨p, hp⟩ : ∃ p, p = 2 ^ (j + 1) := ⟨_, rfl⟩
    rw [← hp] at hwp
    by_cases hlt : p ≤ q
    · have hI : (p : Int) ≤ (q : Int) := by omega
      have hd : decide ((p : Int) ≤ (q : Int)) = true := decide_eq_true hI
      have hj15 : j < 15 := by
        refine Decidable.byContradiction fun h => ?_
        have : 2 ^ 15 ≤ 2 ^ (j + 1) := Nat.pow_le_pow_right (by omega) (by omega)
        omega
      have HP := hide hp
      have HJ := hide hj
      clear hp hj
      go_wp2_with fail
      go_quiet (fail)
      go_wp2
      go_roundw
      case rel => exact ⟨j + 1, by go_num, .inr (by rw [← HP.out]; exact hlt), by omega, hQ.drewN _⟩
      case measure => simp [intOf]; omega
    · have hI : ¬ (p : Int) ≤ (q : Int) := by omega
      have hd : decide ((p : Int) ≤ (q : Int)) = false := decide_eq_false hI
      have HW := hide (wid_is (q := q) (j := j) hj (by rw [← hp]; omega))
      clear hp hj
      go_wp2_with fail
      go_quiet (fail)
      go_wp2
      go_ret
      exact ⟨ret_i64 (by rw [HW.out]), hQ.drewN _⟩

end Go.Proofs.Ytdpeidijaohgcaa

namespace Go.Proofs.Ytdpeidijaohgcaa
open Go.RowKit Num Ef

theorem Ef.part_bits (h x k : Nat) (hk : k ≤ 14) (hx : x < 2 ^ k) (hh : h ≤ 1000000) : wrap64 ((h : Int) * 2 ^ k) = ((h * 2 ^ k : Nat) : Int) ∧ bits .or .i64 ((h * 2 ^ k : Nat) : Int) (x : Int) = ((h * 2 ^ k + x : Nat) : Int) := by
  have hpw : (2 : Nat) ^ k ≤ 2 ^ 14 := Nat.pow_le_pow_right (by omega) hk
  have hm : h * 2 ^ k ≤ 1000000 * 2 ^ 14 := Nat.mul_le_mul hh hpw
  have h1 : h * 2 ^ k < 4611686018427387904 := by omega
  have h2 : x < 4611686018427387904 := by omega
  refine ⟨?_, by rw [i64_or_nat (h * 2 ^ k) x h1 h2, part_or h x k hx]⟩
  have e : (h : Int) * 2 ^ k = ((h * 2 ^ k : Nat) : Int) := by push_cast; rfl
  rw [e]
  generalize h * 2 ^ k = m at *
  unfold wrap64
  omega

/-- A row's parts as a value, its memory below block B. -/
structure PartsV (w : World) (B : Nat) (k : Nat) (A1 : Option Addr) (n1 : Nat) (A2 : Option Addr) (n2 : Nat) (ids : List Int) : Prop where
  ex : ∃ L H, IntsAt w B A1 n1 L ∧ IntsAt w B A2 n2 H ∧ Ef.Parts k ids L H
theorem PartsV.ext {w w' : World} {k n1 n2 : Nat} {A1 A2 : Option Addr} {ids : List Int} (h : PartsV w w.heap.size k A1 n1 A2 n2 ids) (hE : Ext w w') : PartsV w' w'.heap.size k A1 n1 A2 n2 ids := by
  obtain ⟨L, H, h1, h2, h3⟩ := h.ex
  exact ⟨L, H, h1.later hE, h2.later hE, h3⟩
/-- Parts as a value. -/
def partsV (k : Nat) (A1 : Option Addr) (n1 c1 : Nat) (A2 : Option Addr) (n2 c2 : Nat) : Value := .agg #[.int .i64 (k : Int), .slice A1 n1 c1, .slice A2 n2 c2]

theorem efCount_any (k : Nat) (A1 : Option Addr) (n1 c1 : Nat) (A2 : Option Addr) (n2 c2 : Nat) (w : World) : Calls Try.prog 38 #[partsV k A1 n1 c1 A2 n2 c2] w fun e w' => e = .returned (.int .i64 (n2 : Int)) ∧ Ext w w' := by
  have hE := hide (extNew w (.cells #[.int .i64 (k : Int), .slice A1 n1 c1, .slice A2 n2 c2] 51))
  have hW := Whole.new w 51 #[.int .i64 (k : Int), .slice A1 n1 c1, .slice A2 n2 c2]
  have p2 := hW.at 2 (u := .slice A2 n2 c2) rfl
  clear hW
  unfold partsV
  go_enter Try.func38, Try.ntmps38
  go_wp2
  go_ret
  exact ⟨rfl, hE.out⟩

set_option maxHeartbeats 400000 in
set_option maxRecDepth 10000 in
theorem efNumber_any {k : Nat} {A1 : Option Addr} {n1 c1 : Nat} {A2 : Option Addr} {n2 c2 : Nat} {ids : List Int} {i : Nat} {w : World} (h : PartsV w w.heap.size k A1 n1 A2 n2 ids) (hi : i < ids.length) :
    Calls Try.prog 37 #[partsV k A1 n1 c1 A2 n2 c2, .int .i64 (i : Int)] w fun e w' => e = .returned (.int .i64 (ids.getD i 0)) ∧ Ext w w' := by
  obtain ⟨L, H, h1, h2, hP⟩ := h.ex
  obtain ⟨hk, hl1, hl2, hat⟩ := hP
  obtain ⟨hh, x, eh, ex, hx, hhm, eid⟩ := hat i hi
  have hE := extNew w (.cells #[.int .i64 (k : Int), .slice A1 n1 c1, .slice A2 n2 c2] 51)
  have hW := Whole.new w 51 #[.int .i64 (k : Int), .slice A1 n1 c1, .slice A2 n2 c2]
  have p0 := hW.at 0 (u := .int .i64 (k : Int)) rfl
  have p1 := hW.at 1 (u := .slice A1 n1 c1) rfl
  have p2 := hW.at 2 (u := .slice A2 n2 c2) rfl
  have h1' := h1.later hE
  have h2' := h2.later hE
  have hn1 := h1.1
  have hn2 := h2.1
  have hi1 : (i : Int) < (n1 : Int) := by omega
  have hi2 : (i : Int) < (n2 : Int) := by omega
  rcases h1'.2 with h0 | ⟨b1, o1, rfl, _, hc1⟩
  · omega
  rcases h2'.2 with h0 | ⟨b2, o2, rfl, _, hc2⟩
  · omega
  have e1 := hc1 i (by omega)
  have e2 := hc2 i (by omega)
  rw [ex] at e1
  rw [eh] at e2
  obtain ⟨hwr, hor⟩ := part_bits hh x k hk hx hhm
  rw [eid]
  have HE := hide hE
  clear hW
  unfold partsV
  clear hc1 hc2 h1 h2 h1' h2' hat eid eh ex hl1 hl2 hn1 hn2 h hE hx hhm
  generalize hh * 2 ^ k = m at *
  go_enter Try.func37, Try.ntmps37
  go_wp2_with fail
  go_quiet (fail)
  go_wp2
  go_ret
  exact ⟨rfl, HE.out.drewN _⟩
end Go.Proofs.Ytdpeidijaohgcaa

namespace Go.Proofs.Ytdpeidijaohgcaa
open Go.RowKit

theorem appI_run {w : World} (ty : TypeId) {base : Nat} {v : Value} {L : List Int} (hown : OwnI w base v L) {gx c : Nat} {p : Int} (hc : w.cell? ⟨gx, 0, none⟩ = some (.int .i64 p)) (hlen : L.length ≤ 1000000) (hbase : base ≤ w.heap.size) :
    ∃ v' w', (Builtin.append_ #[22, 22] ty #[v, .slice (some ⟨gx, 0, none⟩) 1 c]).run Try.prog w = .ok v' w' ∧ OwnI w' base v' (L ++ [p]) ∧ w.grownBy w' v.ownBlock ∧ NewOb w v.ownBlock v'.ownBlock := by
  obtain ⟨i, hi, hz, hs, hby⟩ := info_parts int_info
  obtain ⟨v', w', hr, h2, h3, _, h5⟩ := run_append_own_at (P := Try.prog) w base 22 ty 3 i _ 1 8 Try.underlying22 hi hz hs hby rfl (by omega) v L.length (L.map (Value.int .i64)) hown
    ⟨gx, 0, none⟩ 1 c [.int .i64 p] rfl (by
      intro j u hu
      match j, hu with
      | 0, hu =>
        have : (⟨gx, 0, none⟩ : Addr).add 0 = ⟨gx, 0, none⟩ := rfl
        rw [this, hc]
        simpa using hu
      | j + 1, hu => simp at hu) (by
      intro u hu
      simp at hu
      subst hu
      rfl) (by unfold maxLen; omega) (by omega) hbase
  refine ⟨v', w', hr, ?_, h3, h5.imp id fun h => ⟨_, h, Nat.le_refl _⟩⟩
  unfold OwnI
  rw [List.length_append, List.map_append]
  exact h2
theorem wpOper_appI {o : Oper} {a : Act} {K : Act → World → Prop} {Q : Exit → Act → World → Prop} {w : World} {base : Nat} {v : Value} {L : List Int} (s x : Operand) (ho : o.op = .call { callee := .builtin .append, args := #[s, x], argTypes := #[22, 22] }) (hs : a.eval s = v)
    (hown : OwnI w base v L) {gx c : Nat} (hx : a.eval x = .slice (some ⟨gx, 0, none⟩) 1 c) {p : Int} (hc : w.cell? ⟨gx, 0, none⟩ = some (.int .i64 p)) (hlen : L.length ≤ 1000000) (hbase : base ≤ w.heap.size)
    (h : ∀ v' w', OwnI w' base v' (L ++ [p]) → w.grownBy w' v.ownBlock → NewOb w v.ownBlock v'.ownBlock → K (a.put o.dst v') w') : Oper.wp Try.prog o a w K Q := by
  obtain ⟨v', w', hr, h2, h3, h4⟩ := appI_run (c := c) o.type hown hc hlen hbase
  unfold Oper.wp execOp
  simp only [ho, resolve, invoke, builtin, Sem.run_bind, Sem.run_pure, Result.andThen_ok, List.map_toArray, List.map_cons, List.map_nil, hs, hx, hr]
  exact h v' w' h2 h3 h4
theorem wpList_appIN {ops : Array Oper} {rest : List Oper} {o : Oper} {a : Act} {Q : Exit → Act → World → Prop} {w : World} {base : Nat} {v : Value} {L : List Int} (hgd : o.guard = none) (s x : Operand) (ho : o.op = .call { callee := .builtin .append, args := #[s, x], argTypes := #[22, 22] }) (hs : a.eval s = v)
    (hown : OwnI w base v L) {gx c : Nat} (hx : a.eval x = .slice (some ⟨gx, 0, none⟩) 1 c) {p : Int} (hc : w.cell? ⟨gx, 0, none⟩ = some (.int .i64 p)) (hlen : L.length ≤ 1000000) (hbase : base ≤ w.heap.size)
    (h : ∀ v' w', OwnI w' base v' (L ++ [p]) → w.grownBy w' v.ownBlock → NewOb w v.ownBlock v'.ownBlock → wpList Try.prog ops Q rest (a.put o.dst v') w') : wpList Try.prog ops Q (o :: rest) a w :=
  wpList_plain hgd fun _ hK => wpOper_appI s x ho hs hown hx hc hlen hbase fun v' w' h1 h2 h3 => hK _ _ (h v' w' h1 h2 h3)

theorem OwnI.at {w : World} {base n c : Nat} {A : Option Addr} {L : List Int} (h : OwnI w base (.slice A n c) L) : IntsAt w w.heap.size A L.length L := by
  obtain ⟨B, d, e, _, h1⟩ := h.form
  injection e with e1 e2 e3
  rw [e1]
  exact h1
/-- Two lists of numbers in blocks of the call's own, from base on, apart. -/
structure TwoI (w : World) (base : Nat) (v1 v2 : Value) (L H : List Int) : Prop where
  one : OwnI w base v1 L
  two : OwnI w base v2 H
  apart : v1.ownBlock = none ∨ v1.ownBlock ≠ v2.ownBlock
section
variable {w w' : World} {base : Nat} {v1 v2 v' : Value} {L H L' H' : List Int}
theorem TwoI.nil (w : World) (base : Nat) : TwoI w base (.slice none 0 0) (.slice none 0 0) [] [] := ⟨OwnI.nil _ _, OwnI.nil _ _, .inl rfl⟩
theorem TwoI.ext (h : TwoI w base v1 v2 L H) (hE : Ext w w') : TwoI w' base v1 v2 L H := ⟨h.one.ext hE, h.two.ext hE, h.apart⟩
theorem TwoI.flip (h : TwoI w base v1 v2 L H) : TwoI w base v2 v1 H L := by
  refine ⟨h.two, h.one, ?_⟩
  cases hv : v2.ownBlock with
  | none => exact .inl rfl
  | some k =>
    refine .inr fun e => ?_
    rcases h.apart with h1 | h1
    · rw [h1] at e; cases e
    · exact h1 (by rw [hv]; exact e.symm)
/-- The first one has grown. -/
theorem TwoI.grow (h : TwoI w base v1 v2 L H) (hO : OwnI w' base v' L') (hG : w.grownBy w' v1.ownBlock) (hN : NewOb w v1.ownBlock v'.ownBlock) : TwoI w' base v' v2 L' H := by
  have hf := h.flip
  refine ⟨hO, World.ownsRow.kept h.two hG ?_, ?_⟩
  · exact hf.apart
  · rcases hN with e | ⟨n, e, hn⟩
    · rw [e]; exact h.apart
    · refine .inr fun e2 => ?_
      rw [e] at e2
      have := h.two.lt n e2.symm
      omega
/-- A block below is stored into. -/
theorem TwoI.below {g : Nat} (h : TwoI w base v1 v2 L H) (hG : w.grownBy w' (some g)) (hg : g < base) : TwoI w' base v1 v2 L H := by
  refine ⟨World.ownsRow.kept h.one hG ?_, World.ownsRow.kept h.two hG ?_, h.apart⟩
  · cases hv : v1.ownBlock with
    | none => simp
    | some k => have := h.one.lt k hv; simp; omega
  · cases hv : v2.ownBlock with
    | none => simp
    | some k => have := h.two.lt k hv; simp; omega
theorem TwoI.ne1 (h : TwoI w base v1 v2 L H) {g : Nat} (hg : g < base) : v1.ownBlock ≠ some g := fun e => by have := h.one.lt g e; omega
theorem TwoI.ne2 (h : TwoI w base v1 v2 L H) {g : Nat} (hg : g < base) : v2.ownBlock ≠ some g := fun e => by have := h.two.lt g e; omega
end
end Go.Proofs.Ytdpeidijaohgcaa

namespace Go.Proofs.Ytdpeidijaohgcaa
open Go.RowKit

/-- The results are a row of cells in a block, and what a slot holds. -/
theorem results_row2 {fn : Func} {p u : Tmp} {ty : TypeId} (h : fn.results = #[.cell p ty, .tmp u]) (tmps : Array Value) {w : World} {g : Nat} {cs : Array Value} {x : Value} (hp : tmps.getD p undef = .pointer (some ⟨g, 0, none⟩)) (hx : tmps.getD u undef = x)
    (hl : (loadVar ty ⟨g, 0, none⟩).run Try.prog w = .ok (.agg cs) w) : (results fn tmps).run Try.prog w = .ok (.tuple #[.agg cs, x]) w := by
  rw [results_cell_tmp h, hp, hx]
  simp [asAddr, Result.andThen, hl]
end Go.Proofs.Ytdpeidijaohgcaa

namespace Go.Proofs.Ytdpeidijaohgcaa
open Go.RowKit

/-- Whatever has come up, what it waits for has come up too. -/
def ShutUp (md : Region.Mode) (ops : Array Oper) (listed : Array Bool) : Prop := ∀ j oj, ops[j]? = some oj → listed.getD j false = true → ∀ e ∈ oj.after, Region.binds md e = true → listed.getD e.on false = true
def shutUpB (md : Region.Mode) (ops : Array Oper) (listed : Array Bool) : Bool :=
  (List.range ops.size).all fun j => !listed.getD j false || match ops[j]? with
    | some oj => oj.after.all fun e => !Region.binds md e || listed.getD e.on false
    | none => true
theorem shutUp_of {md : Region.Mode} {ops : Array Oper} {listed : Array Bool} (h : shutUpB md ops listed = true) : ShutUp md ops listed := by
  intro j oj hj hl e he hb
  have hlt := (Array.getElem?_eq_some_iff.1 hj).1
  unfold shutUpB at h
  rw [List.all_eq_true] at h
  have h1 := h j (List.mem_range.2 hlt)
  rw [hl, hj] at h1
  simp only [Bool.not_true, Bool.false_or, Array.all_eq_true_iff_forall_mem] at h1
  have h2 := h1 e he
  rw [hb] at h2
  simpa using h2
theorem ShutUp.set {md : Region.Mode} {ops : Array Oper} {listed : Array Bool} (h : ShutUp md ops listed) {j : Nat} (hj : j ∈ Region.ready md ops listed) : ShutUp md ops (listed.setIfInBounds j true) := by
  intro k ok hk hl e he hb
  by_cases hkj : j = k
  · subst hkj
    obtain ⟨_, o, ho, hall⟩ := mem_ready.1 hj
    obtain rfl : ok = o := Option.some.inj (hk.symm.trans ho)
    exact getD_set_true (hall e he hb)
  · rw [getD_set_ne false hkj] at hl
    exact getD_set_true (h k ok hk hl e he hb)
/-- i comes up ahead of n in every order. -/
def aheadB (md : Region.Mode) (ops : Array Oper) (n : Nat) : Nat → Nat → Bool
  | 0, i => Region.waitsFor md ops n i
  | f + 1, i => Region.waitsFor md ops n i || (List.range ops.size).any fun k => Region.waitsFor md ops k i && aheadB md ops n f k
theorem ShutUp.waits {md : Region.Mode} {ops : Array Oper} {listed : Array Bool} (h : ShutUp md ops listed) {j i : Nat} (hw : Region.waitsFor md ops j i = true) (hj : listed.getD j false = true) : listed.getD i false = true := by
  obtain ⟨oj, hoj, e, he, hb, rfl⟩ := Region.waitsFor_spec hw
  exact h j oj hoj hj e he hb
theorem ShutUp.ahead {md : Region.Mode} {ops : Array Oper} {listed : Array Bool} (h : ShutUp md ops listed) {n : Nat} (hn : listed.getD n false = true) : ∀ (f i : Nat), aheadB md ops n f i = true → listed.getD i false = true
  | 0, i, ha => h.waits ha hn
  | f + 1, i, ha => by
    unfold aheadB at ha
    rw [Bool.or_eq_true, List.any_eq_true] at ha
    rcases ha with ha | ⟨k, _, ha⟩
    · exact h.waits ha hn
    · rw [Bool.and_eq_true] at ha
      exact h.waits ha.1 (h.ahead hn f k ha.2)

section
variable {P : Program} {ops : Array Oper} {Q : Exit → Act → World → Prop} {md : Region.Mode} {S : World → Prop} {n : Nat}
/-- Whatever order is picked from here on; S holds till number n comes up. -/
def wpAnyT (P : Program) (md : Region.Mode) (ops : Array Oper) (Q : Exit → Act → World → Prop) (S : World → Prop) (n : Nat) : Nat → Array Bool → Act → World → Prop
  | 0, listed, a, w => Region.ready md ops listed = [] ∧ Q .normal a w
  | fuel + 1, listed, a, w =>
    (Region.ready md ops listed = [] → Q .normal a w) ∧
    ∀ i ∈ Region.ready md ops listed, wpOp P ops Q i (fun a' w' => ((listed.setIfInBounds i true).getD n false = false → S w') ∧ wpAnyT P md ops Q S n fuel (listed.setIfInBounds i true) a' w') a w
theorem wpAny_of_T : ∀ (fuel : Nat) (listed : Array Bool) (a : Act) (w : World), wpAnyT P md ops Q S n fuel listed a w → wpAny P md ops Q fuel listed a w
  | 0, _, _, _, h => h
  | fuel + 1, _, _, _, h => ⟨h.1, fun i hi => wpOp_mono (fun a' w' h' => wpAny_of_T fuel _ a' w' h'.2) (h.2 i hi)⟩
theorem wpAnyT_first {i : Nat} {oi : Oper} {v : Value} (hi : ops[i]? = some oi) (hsel : ∀ (j : Nat) (o : Oper) cs b, ops[j]? = some o → o.op ≠ .select cs b)
    (hQ : ∀ c a w, Q (.panic c) (a.put oi.dst v) w → Q (.panic c) a w) (hni : i ≠ n) {f : Nat} (hah : aheadB md ops n f i = true) :
    ∀ (fuel : Nat) (listed : Array Bool) (a : Act) (w : World),
      (∀ j oj, ops[j]? = some oj → j ≠ i → listed.getD j true = false → (∀ e ∈ oj.after, Region.binds md e = true → e.on ≠ i) → oi.apart ops oj = true) →
      i ∈ Region.ready md ops listed → ShutUp md ops listed → YieldsIf P ops S oi v a → S w →
      wpAnyT P md ops Q S n fuel (listed.setIfInBounds i true) (a.put oi.dst v) w → wpAnyT P md ops Q S n (fuel + 1) listed a w := by
  intro fuel
  induction fuel with
  | zero =>
    intro listed a w _ hr _ hy hS H
    refine ⟨fun h => (by rw [h] at hr; cases hr), fun j hj => ?_⟩
    by_cases hji : j = i
    · subst hji; exact hy.wpOp hi hS ⟨fun _ => hS, H⟩
    · have := ready_mono hj hji
      rw [H.1] at this
      cases this
  | succ fuel ih =>
    intro listed a w hfree hr hsh hy hS H
    refine ⟨fun h => (by rw [h] at hr; cases hr), fun j hj => ?_⟩
    by_cases hji : j = i
    · subst hji; exact hy.wpOp hi hS ⟨fun _ => hS, H⟩
    · have h1 := H.2 j (ready_mono hj hji)
      obtain ⟨hjun, oj, hoj, hall⟩ := mem_ready.1 hj
      have hiun := (mem_ready.1 hr).1
      have hiun' : listed.getD i false = false := getD_both hiun
      have hnot : ∀ e ∈ oj.after, Region.binds md e = true → e.on ≠ i := fun e he hb heq => by
        have h1 := hall e he hb
        rw [heq, hiun'] at h1
        cases h1
      have h2 := wpOp_putIf hoj (hfree j oj hoj hji hjun hnot) (fun cs b => hsel i oi cs b hi) (fun cs b => hsel j oj cs b hoj) hQ hy h1
      have hfree' : ∀ k ok, ops[k]? = some ok → k ≠ i → (listed.setIfInBounds j true).getD k true = false →
          (∀ e ∈ ok.after, Region.binds md e = true → e.on ≠ i) → oi.apart ops ok = true := fun k ok hk hki hun hno => by
        refine hfree k ok hk hki ?_ hno
        by_cases hjk : j = k
        · subst hjk; exact hjun
        · rw [getD_set_ne true hjk] at hun; exact hun
      have hsh' := hsh.set hj
      have hnun : (listed.setIfInBounds j true).getD n false = false := by
        cases hl : (listed.setIfInBounds j true).getD n false with
        | false => rfl
        | true =>
          have := hsh'.ahead hl f i hah
          rw [getD_set_ne false hji, hiun'] at this
          cases this
      refine wpOp_mono (fun a' w' h3 => ?_) h2
      have hS' : S w' := h3.2.1 (by rw [Array.setIfInBounds_comm _ _ (Ne.symm hji), getD_set_ne false hni]; exact hnun)
      refine ⟨fun _ => hS', ih (listed.setIfInBounds j true) a' w' hfree' (ready_mono hr (Ne.symm hji)) hsh' h3.1 hS' ?_⟩
      rw [Array.setIfInBounds_comm _ _ hji]
      exact h3.2.2
/-- Take number i first. -/
theorem wpAnyT_take (i : Nat) (d : Option Tmp) (v : Value) (listed' : Array Bool) {oi : Oper} {fuel : Nat} {listed : Array Bool} {a : Act} {w : World} (hi : ops[i]? = some oi) (hd : oi.dst = d) (hl : listed.setIfInBounds i true = listed')
    (hb : (Region.noSelect ops && Region.free md ops listed i && (Region.ready md ops listed).contains i && shutUpB md ops listed && aheadB md ops n ops.size i && !(i == n)) = true)
    (hQ : ∀ c a w, Q (.panic c) (a.put oi.dst v) w → Q (.panic c) a w) (hS : S w) (hw : Region.wanted oi (yielded ops a.tmps) = true) (hy : ∀ W, S W → (execOp a.eval oi).run P W = .ok (.value v) W)
    (h : wpAnyT P md ops Q S n fuel listed' (a.put d v) w) : wpAnyT P md ops Q S n (fuel + 1) listed a w := by
  subst hd
  subst hl
  simp only [Bool.and_eq_true, Bool.not_eq_true', beq_eq_false_iff_ne, ne_eq] at hb
  obtain ⟨⟨⟨⟨⟨hs, hf⟩, hr⟩, hc⟩, ha⟩, hn⟩ := hb
  exact wpAnyT_first hi (Region.noSelect_spec hs) hQ hn ha fuel listed a w (Region.free_spec hi hf) (by simpa using hr) (shutUp_of hc) (.inl ⟨hw, hy⟩) hS h
/-- Number i is not wanted: skip it first. -/
theorem wpAnyT_skip (i : Nat) (d : Option Tmp) (listed' : Array Bool) {oi : Oper} {fuel : Nat} {listed : Array Bool} {a : Act} {w : World} (hi : ops[i]? = some oi) (hd : oi.dst = d) (hl : listed.setIfInBounds i true = listed')
    (hb : (Region.noSelect ops && Region.free md ops listed i && (Region.ready md ops listed).contains i && shutUpB md ops listed && aheadB md ops n ops.size i && !(i == n)) = true)
    (hQ : ∀ c a w, Q (.panic c) (a.put oi.dst undef) w → Q (.panic c) a w) (hS : S w) (hw : Region.wanted oi (yielded ops a.tmps) = false)
    (h : wpAnyT P md ops Q S n fuel listed' (a.put d undef) w) : wpAnyT P md ops Q S n (fuel + 1) listed a w := by
  subst hd
  subst hl
  simp only [Bool.and_eq_true, Bool.not_eq_true', beq_eq_false_iff_ne, ne_eq] at hb
  obtain ⟨⟨⟨⟨⟨hs, hf⟩, hr⟩, hc⟩, ha⟩, hn⟩ := hb
  exact wpAnyT_first hi (Region.noSelect_spec hs) hQ hn ha fuel listed a w (Region.free_spec hi hf) (by simpa using hr) (shutUp_of hc) (.inr ⟨hw, rfl⟩) hS h
/-- One operation alone may come up. -/
theorem wpAnyT_only (i : Nat) (listed' : Array Bool) {o : Oper} {fuel : Nat} {listed : Array Bool} {a : Act} {w : World} (hr : Region.ready md ops listed = [i]) (ho : ops[i]? = some o) (hl : listed.setIfInBounds i true = listed') (hw : Region.wanted o (yielded ops a.tmps) = true)
    (h : ∀ K' : Act → World → Prop, (∀ a w, (listed'.getD n false = false → S w) → wpAnyT P md ops Q S n fuel listed' a w → K' a w) → Oper.wp P o a w K' Q) :
    wpAnyT P md ops Q S n (fuel + 1) listed a w := by
  subst hl
  refine ⟨fun h0 => by rw [h0] at hr; simp at hr, fun j hj => ?_⟩
  rw [hr] at hj
  obtain rfl : j = i := by simpa using hj
  exact wpOp_step ho (fun K' hK => by rw [if_pos hw]; exact h K' (fun a w hS hW => hK a w ⟨hS, hW⟩))
theorem wpAnyT_done {listed : Array Bool} {a : Act} {w : World} (hr : Region.ready md ops listed = []) (h : Q .normal a w) : ∀ fuel, wpAnyT P md ops Q S n fuel listed a w
  | 0 => ⟨hr, h⟩
  | _ + 1 => ⟨fun _ => h, by rw [hr]; simp⟩
/-- The beginning. -/
theorem wp_region_T {id : Nat} {a : Act} {w : World} (S : World → Prop) (n m : Nat) (listed : Array Bool) (hm : P.follows .mixedOrders = true) (hm' : ops.size = m) (hl : Array.replicate m false = listed) (hS : S w.drew)
    (h : S w.drew → wpAnyT P .any ops Q S n m listed a w.drew) : (Code.region id ops true).wp P Q a w :=
  wp_region_any hm (by rw [hm', hl]; exact wpAny_of_T _ _ _ _ (h hS))
end
end Go.Proofs.Ytdpeidijaohgcaa

namespace Go.Proofs.Ytdpeidijaohgcaa
open Go.RowKit

section
variable {P : Program} {ops : Array Oper} {Q : Exit → Act → World → Prop} {md : Region.Mode} {S : World → Prop} {n : Nat}
theorem wpAnyT_firstP {i : Nat} {oi : Oper} {v : Value} (hi : ops[i]? = some oi) (hsel : ∀ (j : Nat) (o : Oper) cs b, ops[j]? = some o → o.op ≠ .select cs b)
    (hQ : ∀ c a w, Q (.panic c) (a.put oi.dst v) w → Q (.panic c) a w) (hni : i ≠ n) :
    ∀ (fuel : Nat) (listed : Array Bool) (a : Act) (w : World),
      (∀ j oj, ops[j]? = some oj → j ≠ i → listed.getD j true = false → (∀ e ∈ oj.after, Region.binds md e = true → e.on ≠ i) → oi.apart ops oj = true) →
      i ∈ Region.ready md ops listed → YieldsIf P ops (fun _ => True) oi v a → (listed.getD n false = false → S w) →
      wpAnyT P md ops Q S n fuel (listed.setIfInBounds i true) (a.put oi.dst v) w → wpAnyT P md ops Q S n (fuel + 1) listed a w := by
  intro fuel
  induction fuel with
  | zero =>
    intro listed a w _ hr hy hS H
    refine ⟨fun h => (by rw [h] at hr; cases hr), fun j hj => ?_⟩
    by_cases hji : j = i
    · subst hji; exact hy.wpOp hi trivial ⟨fun h => hS (by rwa [getD_set_ne false hni] at h), H⟩
    · have := ready_mono hj hji
      rw [H.1] at this
      cases this
  | succ fuel ih =>
    intro listed a w hfree hr hy hS H
    refine ⟨fun h => (by rw [h] at hr; cases hr), fun j hj => ?_⟩
    by_cases hji : j = i
    · subst hji; exact hy.wpOp hi trivial ⟨fun h => hS (by rwa [getD_set_ne false hni] at h), H⟩
    · have h1 := H.2 j (ready_mono hj hji)
      obtain ⟨hjun, oj, hoj, hall⟩ := mem_ready.1 hj
      have hiun := (mem_ready.1 hr).1
      have hiun' : listed.getD i false = false := getD_both hiun
      have hnot : ∀ e ∈ oj.after, Region.binds md e = true → e.on ≠ i := fun e he hb heq => by
        have h1 := hall e he hb
        rw [heq, hiun'] at h1
        cases h1
      have h2 := wpOp_putIf hoj (hfree j oj hoj hji hjun hnot) (fun cs b => hsel i oi cs b hi) (fun cs b => hsel j oj cs b hoj) hQ hy h1
      have hfree' : ∀ k ok, ops[k]? = some ok → k ≠ i → (listed.setIfInBounds j true).getD k true = false →
          (∀ e ∈ ok.after, Region.binds md e = true → e.on ≠ i) → oi.apart ops ok = true := fun k ok hk hki hun hno => by
        refine hfree k ok hk hki ?_ hno
        by_cases hjk : j = k
        · subst hjk; exact hjun
        · rw [getD_set_ne true hjk] at hun; exact hun
      refine wpOp_mono (fun a' w' h3 => ?_) h2
      have hS' : (listed.setIfInBounds j true).getD n false = false → S w' := fun h => h3.2.1 (by rw [Array.setIfInBounds_comm _ _ (Ne.symm hji), getD_set_ne false hni]; exact h)
      refine ⟨hS', ih (listed.setIfInBounds j true) a' w' hfree' (ready_mono hr (Ne.symm hji)) h3.1 hS' ?_⟩
      rw [Array.setIfInBounds_comm _ _ hji]
      exact h3.2.2
/-- Take number i, which asks nothing of the world, first. -/
theorem wpAnyT_pure (i : Nat) (d : Option Tmp) (v : Value) (listed' : Array Bool) {oi : Oper} {fuel : Nat} {listed : Array Bool} {a : Act} {w : World} (hi : ops[i]? = some oi) (hd : oi.dst = d) (hl : listed.setIfInBounds i true = listed')
    (hb : (Region.noSelect ops && Region.free md ops listed i && (Region.ready md ops listed).contains i && !(i == n)) = true)
    (hQ : ∀ c a w, Q (.panic c) (a.put oi.dst v) w → Q (.panic c) a w) (hS : listed.getD n false = false → S w) (hw : Region.wanted oi (yielded ops a.tmps) = true) (hy : ∀ W, (execOp a.eval oi).run P W = .ok (.value v) W)
    (h : wpAnyT P md ops Q S n fuel listed' (a.put d v) w) : wpAnyT P md ops Q S n (fuel + 1) listed a w := by
  subst hd
  subst hl
  simp only [Bool.and_eq_true, Bool.not_eq_true', beq_eq_false_iff_ne, ne_eq] at hb
  obtain ⟨⟨⟨hs, hf⟩, hr⟩, hn⟩ := hb
  exact wpAnyT_firstP hi (Region.noSelect_spec hs) hQ hn fuel listed a w (Region.free_spec hi hf) (by simpa using hr) (.inl ⟨hw, fun W _ => hy W⟩) hS h
/-- Two operations may come up: both ways. -/
theorem wpAnyT_two (i j : Nat) (li lj : Array Bool) {oi oj : Oper} {fuel : Nat} {listed : Array Bool} {a : Act} {w : World} (hr : Region.ready md ops listed = [i, j]) (hoi : ops[i]? = some oi) (hoj : ops[j]? = some oj) (hli : listed.setIfInBounds i true = li) (hlj : listed.setIfInBounds j true = lj)
    (hwi : Region.wanted oi (yielded ops a.tmps) = true) (hwj : Region.wanted oj (yielded ops a.tmps) = true)
    (hi : ∀ K' : Act → World → Prop, (∀ a w, (li.getD n false = false → S w) → wpAnyT P md ops Q S n fuel li a w → K' a w) → Oper.wp P oi a w K' Q)
    (hj : ∀ K' : Act → World → Prop, (∀ a w, (lj.getD n false = false → S w) → wpAnyT P md ops Q S n fuel lj a w → K' a w) → Oper.wp P oj a w K' Q) :
    wpAnyT P md ops Q S n (fuel + 1) listed a w := by
  subst hli
  subst hlj
  refine ⟨fun h0 => by rw [h0] at hr; simp at hr, fun k hk => ?_⟩
  rw [hr] at hk
  simp only [List.mem_cons, List.not_mem_nil, or_false] at hk
  rcases hk with rfl | rfl
  · exact wpOp_step hoi (fun K' hK => by rw [if_pos hwi]; exact hi K' (fun a w hS hW => hK a w ⟨hS, hW⟩))
  · exact wpOp_step hoj (fun K' hK => by rw [if_pos hwj]; exact hj K' (fun a w hS hW => hK a w ⟨hS, hW⟩))
end
end Go.Proofs.Ytdpeidijaohgcaa

