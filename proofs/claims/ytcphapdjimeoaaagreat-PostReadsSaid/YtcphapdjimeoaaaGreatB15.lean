/- What was put is got: plain mathematics; slices of calls of the call's own. Bits as bytes. Rows of rising numbers as bits, as values: written, read. Plain mathematics of chapter 13. Rows as bytes: what was written is read; what was read is as it is written; how long. Plain mathematics of chapter 13. The index of a log, as plain mathematics. An index: as a value, one that came in. Lists of lists of numbers of the call's own. The index of a log as bytes: what was written is read; what is read is as it is written. Plain mathematics of chapter 18. The document's functions of chapter 13: May, width, Next. The document's functions of chapter 18: Great, May, Same. The document's functions of chapter 18: May, Same. The document's functions of chapter 18: Same. The document's Write of chapter 13. The document's functions of chapter 18: Bytes. What the laws of chapter 18 ask of the program; the example; PostBytes. How the program takes a row: a prefix of the bytes is enough where it doesn't fall short; parts of numbers. Plain mathematics. The program's small functions of chapter 13: mayBound, isRow, lowBits, number, count. The parts of a row as a value of the program: count, number. What the laws of chapter 13 ask of the program; the example; EfWrites, EfShort, EfNone. EfOne, EfBack, EfFinds. -/
import Derived.Test.YtcphapdjimeoaaaGreatB01
import Derived.Test.YtcphapdjimeoaaaGreatB03
import Derived.Test.YtcphapdjimeoaaaGreatB05
import Derived.Test.YtcphapdjimeoaaaGreatB06
import Derived.Test.YtcphapdjimeoaaaGreatB07
import Derived.Test.YtcphapdjimeoaaaGreatB09
import Derived.Test.YtcphapdjimeoaaaGreatB11
import Derived.Test.YtcphapdjimeoaaaGreatB12
import Derived.Test.YtcphapdjimeoaaaGreatB13
import Derived.Test.YtcphapdjimeoaaaGreatB14
import Derived.Laws.OwnMore
import Derived.Maps.AppendAt
import Derived.BigQuiet
import Derived.OwnWalk
namespace Go.Proofs.YtcphapdjimeoaaaGreat
open Go.RowKit

namespace Bit
/-- The bits that a call puts. -/
def enc (o : OpV) : List Bool := if o.k % 2 = 0 then putBits o.x o.n else unaryBits o.n
def flat (L : List OpV) : List Bool := L.flatMap enc
/-- Its call was answered OK. -/
def good (o : OpV) : Prop := (o.k % 2 = 0 ∧ fits o.x o.n = true) ∨ (o.k % 2 = 1 ∧ runs o.n = true)
theorem flat_nil : flat [] = [] := rfl
theorem flat_snoc (L : List OpV) (o : OpV) : flat (L ++ [o]) = flat L ++ enc o := by simp [flat]
theorem flat_take (L : List OpV) (k : Nat) (h : k < L.length) : flat (L.take (k + 1)) = flat (L.take k) ++ enc (L.getD k default) := by
  rw [List.take_succ_eq_append_getElem h, flat_snoc, List.getD_eq_getElem?_getD, List.getElem?_eq_getElem h]
  rfl
theorem flat_split (L : List OpV) (k : Nat) (h : k < L.length) : flat L = flat (L.take k) ++ enc (L.getD k default) ++ flat (L.drop (k + 1)) := by
  rw [← flat_take L k h]
  unfold flat
  rw [← List.flatMap_append, List.take_append_drop]
theorem Packs.bit {l : List UInt8} {P E Q : List Bool} (h : Packs l (P ++ E ++ Q)) {i : Nat} (hi : i < E.length) : at_ l (P.length + i) = E.getD i false := by
  have hl := h.1
  simp only [List.length_append] at hl
  rw [h.2 _ (by omega), List.append_assoc, getD_app_right _ _ _ (by omega), Nat.add_sub_cancel_left, getD_app_left _ _ _ hi]
theorem Packs.room {l : List UInt8} {P E Q : List Bool} (h : Packs l (P ++ E ++ Q)) : P.length + E.length ≤ 8 * l.length := by
  have hl := h.1
  simp only [List.length_append] at hl
  omega
theorem get_back {l : List UInt8} {P Q : List Bool} {x k : Nat} (h : Packs l (P ++ num x k ++ Q)) (hk : k ≤ 64) (hx : x < 2 ^ k) :
    getErr (8 * l.length - P.length) (k : Int) = 0 ∧ getNum l P.length (k : Int) = x ∧ getTo (8 * l.length - P.length) P.length (k : Int) = P.length + k := by
  have hr := h.room
  rw [num_length] at hr
  have h1 : getErr (8 * l.length - P.length) (k : Int) = 0 := by unfold getErr; rw [if_pos ⟨by omega, by omega⟩, if_pos (by omega)]
  refine ⟨h1, ?_, by unfold getTo; rw [h1]; simp⟩
  unfold getNum
  rw [h1, if_pos rfl, Int.toNat_natCast]
  have : val (rest l P.length) k = val (fun i => x.testBit (k - 1 - i)) k := val_congr k fun i hi => by
    unfold rest
    rw [h.bit (by rw [num_length]; exact hi), num_getD _ _ _ hi]
  rw [this, val_num hx]
theorem unBits_getD (n i : Nat) (h : i ≤ n) : (unBits n).getD i false = decide (i = n) := by
  unfold unBits
  rcases Nat.lt_or_ge i n with hi | hi
  · rw [getD_app_left _ _ _ (by simpa using hi), decide_eq_false (by omega), List.getD_eq_getElem?_getD, List.getElem?_replicate, if_pos hi]; rfl
  · obtain rfl : i = n := by omega
    rw [getD_app_right _ _ _ (by simp)]; simp
theorem un_back {l : List UInt8} {P Q : List Bool} {n : Nat} (h : Packs l (P ++ unBits n ++ Q)) : unErr l P.length = 0 ∧ unNum l P.length = n ∧ unTo l P.length = P.length + n + 1 := by
  have hlen : (unBits n).length = n + 1 := by simp [unBits]
  have hr := h.room
  rw [hlen] at hr
  have hz : zs l P.length = n := zeros_eq (by omega) (fun i hi => by
    unfold rest
    rw [h.bit (by omega), unBits_getD n i (by omega)]
    exact decide_eq_false (by omega)) (fun _ => by
    unfold rest
    rw [h.bit (by omega), unBits_getD n n (Nat.le_refl _)]
    exact decide_eq_true rfl)
  have hne : zs l P.length ≠ 8 * l.length - P.length := by omega
  refine ⟨by unfold unErr; rw [if_neg hne], by unfold unNum; rw [if_neg hne, hz], by unfold unTo; rw [if_neg hne, hz]⟩
theorem pad_back {l : List UInt8} {B : List Bool} (h : Packs l B) : padErr l B.length = 0 ∧ 8 * l.length - B.length < 8 := by
  have hl := h.1
  have h8 : 8 * l.length - B.length < 8 := by omega
  have hz : zs l B.length = 8 * l.length - B.length := zeros_eq (Nat.le_refl _) (fun i hi => by
    unfold rest
    rw [h.2 _ (by omega), getD_far _ _ (by omega)]) (fun h => by omega)
  exact ⟨by unfold padErr; rw [if_pos ⟨h8, hz⟩], h8⟩
theorem enc_le (o : OpV) (h : o.k % 2 = 1 → o.n ≤ 300) : (enc o).length ≤ 301 := by
  unfold enc
  split
  · exact Nat.le_trans (putBits_le _ _) (by omega)
  · have hn := h (by omega)
    unfold unaryBits
    split
    · rename_i hr
      have := of_decide_eq_true hr
      simp [unBits]; omega
    · simp
end Bit

def opCells (o : OpV) : List Value := [.int .u8 (o.k : Int), .int .u64 (o.x : Int), .int .i64 o.n]
theorem opCells_get : ∀ (L : List OpV) (i j : Nat), i < L.length → j < 3 → (L.flatMap opCells)[i * 3 + j]? = (opCells (L.getD i default))[j]?
  | o :: L, 0, j, _, hj => by
    rw [List.flatMap_cons, Nat.zero_mul, Nat.zero_add, List.getElem?_append_left (by simp [opCells]; omega)]
    rfl
  | o :: L, i + 1, j, h, hj => by
    rw [List.flatMap_cons, List.getElem?_append_right (by simp [opCells]; omega)]
    have := opCells_get L i j (by simpa using h) hj
    rw [show (i + 1) * 3 + j - (opCells o).length = i * 3 + j by simp [opCells]; omega, this]
    simp
section
variable {o : Oper} {a : Act} {K : Act → World → Prop} {Q : Exit → Act → World → Prop} {w : World} {base : Nat} {v : Value} {L : List OpV}
end
end Go.Proofs.YtcphapdjimeoaaaGreat

namespace Go.Proofs.YtcphapdjimeoaaaGreat

theorem Bit.val_testBit (f : Nat → Bool) : ∀ n j, j < n → (Bit.val f n).testBit (n - 1 - j) = f j
  | 0, j, h => by omega
  | n + 1, j, h => by
    have hb : (f n).toNat ≤ 1 := by cases f n <;> simp
    rw [Bit.val]
    by_cases e : j = n
    · subst e
      rw [show j + 1 - 1 - j = 0 by omega, Nat.testBit_zero]
      cases hf : f j <;> simp <;> omega
    · rw [show n + 1 - 1 - j = (n - 1 - j) + 1 by omega, Nat.testBit_succ, show (2 * Bit.val f n + (f n).toNat) / 2 = Bit.val f n by omega]
      exact Bit.val_testBit f n j (by omega)
/-- Bits as bytes. -/
def Bit.pack (B : List Bool) : List UInt8 := (List.range ((B.length + 7) / 8)).map fun i => UInt8.ofNat (Bit.val (fun j => B.getD (8 * i + j) false) 8)
theorem Bit.packs_pack (B : List Bool) : Bit.Packs (Bit.pack B) B := by
  refine ⟨by simp [Bit.pack], fun i hi => ?_⟩
  have hl : (Bit.pack B).length = (B.length + 7) / 8 := by simp [Bit.pack]
  unfold Bit.at_
  have hd : i / 8 < (B.length + 7) / 8 := by omega
  have e : (Bit.pack B).getD (i / 8) 0 = UInt8.ofNat (Bit.val (fun j => B.getD (8 * (i / 8) + j) false) 8) := by
    unfold Bit.pack
    rw [List.getD_eq_getElem?_getD, List.getElem?_map, List.getElem?_range hd]
    rfl
  have hv := Bit.val_lt (fun j => B.getD (8 * (i / 8) + j) false) 8
  rw [e, UInt8.toNat_ofNat', Nat.mod_eq_of_lt hv, show 7 - i % 8 = 8 - 1 - i % 8 by omega, Bit.val_testBit _ 8 (i % 8) (by omega)]
  congr 1
  omega
theorem Bit.pack_len (B : List Bool) : (Bit.pack B).length = (B.length + 7) / 8 := by simp [Bit.pack]
theorem Bit.Packs.is {l : List UInt8} {B : List Bool} (h : Bit.Packs l B) : l = Bit.pack B := h.uniq (Bit.packs_pack B)
end Go.Proofs.YtcphapdjimeoaaaGreat

namespace Go.Proofs.YtcphapdjimeoaaaGreat

section
theorem flat_at {α : Type} (f : Nat → List α) {k : Nat} : ∀ {n : Nat}, k < n → ∃ R, (List.range n).flatMap f = (List.range k).flatMap f ++ f k ++ R
  | 0, h => by omega
  | n + 1, h => by
    rw [List.range_succ, List.flatMap_append]
    rcases Nat.lt_or_ge k n with hk | hk
    · obtain ⟨R, e⟩ := flat_at f hk
      exact ⟨R ++ [n].flatMap f, by rw [e]; simp [List.append_assoc]⟩
    · obtain rfl : k = n := by omega
      exact ⟨[], by simp⟩
theorem flat_succ {α : Type} (f : Nat → List α) (n : Nat) : (List.range (n + 1)).flatMap f = (List.range n).flatMap f ++ f n := by
  rw [List.range_succ, List.flatMap_append]; simp
/-- The bits from p on, n of them. -/
def Bit.sub (l : List UInt8) (p n : Nat) : List Bool := (List.range n).map fun i => Bit.at_ l (p + i)
theorem Bit.sub_len (l : List UInt8) (p n : Nat) : (Bit.sub l p n).length = n := by simp [Bit.sub]
theorem Bit.sub_get (l : List UInt8) (p n i : Nat) (h : i < n) : (Bit.sub l p n).getD i false = Bit.at_ l (p + i) := by simp [Bit.sub, List.getD_eq_getElem?_getD, h]
theorem Bit.bools_ext {a b : List Bool} (h : a.length = b.length) (hx : ∀ i, i < a.length → a.getD i false = b.getD i false) : a = b := by
  refine List.ext_getElem h fun i h1 h2 => ?_
  have := hx i h1
  rw [List.getD_eq_getElem?_getD, List.getD_eq_getElem?_getD, List.getElem?_eq_getElem h1, List.getElem?_eq_getElem h2] at this
  exact this
theorem Bit.sub_add (l : List UInt8) (p m n : Nat) : Bit.sub l p (m + n) = Bit.sub l p m ++ Bit.sub l (p + m) n := by
  refine Bit.bools_ext (by simp [Bit.sub_len]) fun i hi => ?_
  rw [Bit.sub_len] at hi
  rw [Bit.sub_get _ _ _ _ hi]
  rcases Nat.lt_or_ge i m with h | h
  · rw [Bit.getD_app_left _ _ _ (by rw [Bit.sub_len]; exact h), Bit.sub_get _ _ _ _ h]
  · rw [Bit.getD_app_right _ _ _ (by rw [Bit.sub_len]; exact h), Bit.sub_len, Bit.sub_get _ _ _ _ (by omega)]
    congr 1; omega
/-- All bits of bytes. -/
theorem Bit.packs_sub (l : List UInt8) : Bit.Packs l (Bit.sub l 0 (8 * l.length)) := by
  refine ⟨by rw [Bit.sub_len]; omega, fun i hi => ?_⟩
  rw [Bit.sub_get _ _ _ _ hi, Nat.zero_add]
theorem Bit.num_val (f : Nat → Bool) (n : Nat) : Bit.num (Bit.val f n) n = (List.range n).map f := by
  refine Bit.bools_ext (by simp [Bit.num_length]) fun i hi => ?_
  rw [Bit.num_length] at hi
  rw [Bit.num_getD _ _ _ hi, Bit.val_testBit f n i hi]
  simp [List.getD_eq_getElem?_getD, hi]
theorem Bit.num_sub {l : List UInt8} {q k : Nat} (h : Bit.getErr (8 * l.length - q) (k : Int) = 0) : Bit.num (Bit.getNum l q (k : Int)) k = Bit.sub l q k := by
  unfold Bit.getNum
  rw [if_pos h, Int.toNat_natCast, Bit.num_val]
  rfl
theorem Bit.getNum_lt (l : List UInt8) (q k : Nat) : Bit.getNum l q (k : Int) < 2 ^ k := by
  unfold Bit.getNum
  split
  · rw [Int.toNat_natCast]; exact Bit.val_lt _ _
  · exact Nat.pow_pos (by omega)
theorem Bit.un_sub {l : List UInt8} {q : Nat} (h : Bit.unErr l q = 0) : Bit.unTo l q = q + Bit.unNum l q + 1 ∧ Bit.unTo l q ≤ 8 * l.length ∧ Bit.unBits (Bit.unNum l q) = Bit.sub l q (Bit.unNum l q + 1) := by
  have hne : Bit.zs l q ≠ 8 * l.length - q := by
    intro e
    unfold Bit.unErr at h
    rw [if_pos e] at h
    exact absurd h (by decide)
  have hle : Bit.zs l q ≤ 8 * l.length - q := Bit.zeros_le _ _
  have e1 : Bit.unNum l q = Bit.zs l q := by unfold Bit.unNum; rw [if_neg hne]
  refine ⟨by unfold Bit.unTo; rw [if_neg hne, e1], by unfold Bit.unTo; rw [if_neg hne]; omega, ?_⟩
  rw [e1]
  refine Bit.bools_ext (by rw [Bit.sub_len]; simp [Bit.unBits]) fun i hi => ?_
  have hi' : i < Bit.zs l q + 1 := by simpa [Bit.unBits] using hi
  rw [Bit.sub_get _ _ _ _ hi', Bit.unBits_getD _ _ (by omega)]
  rcases Nat.lt_or_ge i (Bit.zs l q) with hz | hz
  · have := Bit.zeros_false (8 * l.length - q) (Bit.rest l q) i hz
    rw [decide_eq_false (by omega)]
    exact this.symm
  · obtain rfl : i = Bit.zs l q := by omega
    have := Bit.zeros_true (8 * l.length - q) (Bit.rest l q) (by have : Bit.zs l q = Bit.zeros (8 * l.length - q) (Bit.rest l q) := rfl; omega)
    rw [decide_eq_true rfl]
    exact this.symm
end

namespace Ef
open Num Bit

/-- How many low bits. -/
def wid (q : Nat) : Nat := q.log2
theorem wid_le {q : Nat} (h : 0 < q) : 2 ^ wid q ≤ q ∧ q < 2 ^ (wid q + 1) := ⟨Nat.log2_self_le (by omega), Nat.lt_log2_self⟩
/-- A row below a bound. -/
def row (bound : Int) (ids : List Int) : Bool := decide (∀ i, i < ids.length → 0 ≤ ids.getD i 0 ∧ ids.getD i 0 < bound ∧ (0 < i → ids.getD (i - 1) 0 < ids.getD i 0))
def hi (w : Nat) (ids : List Int) (i : Nat) : Nat := (ids.getD i 0).toNat / 2 ^ w
def was (w : Nat) (ids : List Int) (i : Nat) : Nat := if i = 0 then 0 else hi w ids (i - 1)
def lowTo (w : Nat) (ids : List Int) (k : Nat) : List Bool := (List.range k).flatMap fun i => num ((ids.getD i 0).toNat % 2 ^ w) w
def highTo (w : Nat) (ids : List Int) (k : Nat) : List Bool := (List.range k).flatMap fun i => unBits (hi w ids i - was w ids i)
def bitsE (w : Nat) (ids : List Int) : List Bool := lowTo w ids ids.length ++ highTo w ids ids.length
def widE (bound : Int) (n : Nat) : Nat := wid (bound.toNat / n)
def rowB (bound : Int) (ids : List Int) : List UInt8 := Num.enc ids.length ++ if ids.length = 0 then [] else pack (bitsE (widE bound ids.length) ids)
def writeE (bound : Int) (ids : List Int) : List UInt8 × Int := if (0 ≤ bound ∧ bound ≤ 20000) ∧ row bound ids = true then (rowB bound ids, 0) else ([], 13)

/-- The numbers, from the k-th last on, of which the high bits stand from p on. -/
def readH (l : List UInt8) (w : Nat) (bound : Int) : Nat → Nat → Nat → List Int → List Int × Nat × Int
  | 0, p, _, out => (out, p, 0)
  | k + 1, p, h, out =>
    if unErr l p ≠ 0 then ([], p, 1)
    else if 0 < out.length ∧ (((h + unNum l p) * 2 ^ w + getNum l (out.length * w) (w : Int) : Nat) : Int) ≤ out.getD (out.length - 1) 0 then ([], p, 2)
    else if bound ≤ (((h + unNum l p) * 2 ^ w + getNum l (out.length * w) (w : Int) : Nat) : Int) then ([], p, 8)
    else readH l w bound k (unTo l p) (h + unNum l p) (out ++ [(((h + unNum l p) * 2 ^ w + getNum l (out.length * w) (w : Int) : Nat) : Int)])
/-- Are the bits up to the whole byte 0? -/
def padZ (l : List UInt8) (q : Nat) : Bool := decide (∀ i, i < (8 - q % 8) % 8 → at_ l (q + i) = false)
/-- n numbers (1 or more) from bytes. -/
def readN (l : List UInt8) (bound : Int) (n : Nat) : List Int × Nat × Int :=
  if 8 * l.length < n * widE bound n then ([], 0, 1)
  else if (readH l (widE bound n) bound n (n * widE bound n) 0 []).2.2 ≠ 0 then ([], 0, (readH l (widE bound n) bound n (n * widE bound n) 0 []).2.2)
  else if padZ l (readH l (widE bound n) bound n (n * widE bound n) 0 []).2.1 = false then ([], 0, 2)
  else ((readH l (widE bound n) bound n (n * widE bound n) 0 []).1, ((readH l (widE bound n) bound n (n * widE bound n) 0 []).2.1 + 7) / 8, 0)
def readE (bound : Int) (b : List UInt8) : List Int × Nat × Int :=
  if 0 ≤ bound ∧ bound ≤ 20000 then
    if (intR b 0 0 bound).2.2 ≠ 0 then ([], 0, (intR b 0 0 bound).2.2)
    else if (intR b 0 0 bound).1 = 0 then ([], (intR b 0 0 bound).2.1, 0)
    else if (readN (b.drop (intR b 0 0 bound).2.1) bound (intR b 0 0 bound).1).2.2 ≠ 0 then ([], 0, (readN (b.drop (intR b 0 0 bound).2.1) bound (intR b 0 0 bound).1).2.2)
    else ((readN (b.drop (intR b 0 0 bound).2.1) bound (intR b 0 0 bound).1).1, (intR b 0 0 bound).2.1 + (readN (b.drop (intR b 0 0 bound).2.1) bound (intR b 0 0 bound).1).2.1, 0)
  else ([], 0, 13)

section
variable {bound : Int} {ids : List Int} {w : Nat}
theorem row_at (h : row bound ids = true) {i : Nat} (hi : i < ids.length) : 0 ≤ ids.getD i 0 ∧ ids.getD i 0 < bound ∧ (0 < i → ids.getD (i - 1) 0 < ids.getD i 0) := of_decide_eq_true h i hi
theorem row_ge (h : row bound ids = true) : ∀ {i : Nat}, i < ids.length → (i : Int) ≤ ids.getD i 0
  | 0, hi => (row_at h hi).1
  | i + 1, hi => by
    have h1 := row_ge h (i := i) (by omega)
    have h2 := (row_at h hi).2.2 (by omega)
    rw [Nat.add_sub_cancel] at h2
    omega
theorem row_len (h : row bound ids = true) : ids.length = 0 ∨ (ids.length : Int) ≤ bound := by
  rcases Nat.eq_zero_or_pos ids.length with e | e
  · exact .inl e
  · have h1 := row_ge h (i := ids.length - 1) (by omega)
    have h2 := (row_at h (i := ids.length - 1) (by omega)).2.1
    omega
theorem lowTo_len (w : Nat) (ids : List Int) : ∀ k, (lowTo w ids k).length = k * w
  | 0 => by simp [lowTo]
  | k + 1 => by
    have := lowTo_len w ids k
    unfold lowTo at this ⊢
    rw [flat_succ, List.length_append, this, num_length, Nat.succ_mul]
theorem was_le (h : row bound ids = true) {i : Nat} (hi' : i < ids.length) : was w ids i ≤ hi w ids i := by
  unfold was
  split
  · omega
  · have h1 := (row_at h hi').2.2 (by omega)
    exact Nat.div_le_div_right (by omega)
theorem highTo_len (h : row bound ids = true) : ∀ k, k ≤ ids.length → (highTo w ids k).length = k + was w ids k
  | 0, _ => by simp [highTo, was]
  | k + 1, hk => by
    have := highTo_len h k (by omega)
    have h2 := was_le (w := w) h (i := k) (by omega)
    unfold highTo at this ⊢
    rw [flat_succ, List.length_append, this]
    have e : was w ids (k + 1) = hi w ids k := by unfold was; rw [if_neg (by omega), Nat.add_sub_cancel]
    have e2 : ∀ n, (unBits n).length = n + 1 := fun n => by simp [unBits]
    rw [e2, e]
    omega
end
end Ef
end Go.Proofs.YtcphapdjimeoaaaGreat

namespace Go.Proofs.YtcphapdjimeoaaaGreat

theorem Bit.at_app (a m : List UInt8) {i : Nat} (h : i < 8 * a.length) : Bit.at_ (a ++ m) i = Bit.at_ a i := by
  unfold Bit.at_
  rw [List.getD_eq_getElem?_getD, List.getD_eq_getElem?_getD, List.getElem?_append_left (by omega)]
theorem Bit.at_take (a : List UInt8) {m i : Nat} (h : i < 8 * m) : Bit.at_ (a.take m) i = Bit.at_ a i := by
  unfold Bit.at_
  rw [List.getD_eq_getElem?_getD, List.getD_eq_getElem?_getD, List.getElem?_take, if_pos (by omega)]
theorem Bit.packs_front {a m : List UInt8} {B : List Bool} (h : Bit.Packs a B) : ∃ Q, Bit.Packs (a ++ m) (B ++ Q) := by
  have hl := h.1
  refine ⟨Bit.sub (a ++ m) B.length (8 * (a ++ m).length - B.length), ?_, fun i hi => ?_⟩
  · rw [List.length_append, List.length_append, Bit.sub_len]; omega
  · rcases Nat.lt_or_ge i B.length with hb | hb
    · rw [Bit.getD_app_left _ _ _ hb, Bit.at_app a m (by omega), h.2 i (by omega)]
    · rw [Bit.getD_app_right _ _ _ hb, Bit.sub_get _ _ _ _ (by omega)]
      congr 1; omega

namespace Ef
open Num Bit

section
variable {bound : Int} {ids : List Int} {w : Nat} {l : List UInt8}
theorem int_fine {b : List UInt8} {q x q' : Nat} {most : Int} (h : scan b q = (x, q', 0)) (hm : (x : Int) ≤ most) : intR b q 0 most = (x, q', 0) := by
  unfold intR numR
  rw [if_pos rfl, h]
  dsimp only
  rw [if_pos rfl, if_neg (by omega)]
theorem int_is {b : List UInt8} {most : Int} (h : (intR b 0 0 most).2.2 = 0) : ((intR b 0 0 most).1 : Int) ≤ most ∧ (intR b 0 0 most).2.1 ≤ b.length ∧ enc (intR b 0 0 most).1 = b.take (intR b 0 0 most).2.1 := by
  by_cases h1 : (numR b 0 0).2.2 = 0
  · by_cases h2 : most < ((numR b 0 0).1 : Int)
    · exfalso
      unfold intR at h
      rw [if_pos h1, if_pos h2] at h
      simp at h
    · have e : intR b 0 0 most = scan b 0 := by
        unfold intR
        rw [if_pos h1, if_neg h2]
        rfl
      have h3 : (scan b 0).2.2 = 0 := h1
      have h4 : ((scan b 0).1 : Int) ≤ most := by have : ¬ most < ((scan b 0).1 : Int) := h2; omega
      obtain ⟨y, hv, ht, _⟩ := scanF_one b 0 10 0 0 (scan b 0).1 (scan b 0).2.1 (by rw [← h3]; rfl)
      simp only [Nat.pow_zero, Nat.mul_one, Nat.zero_add] at hv ht
      rw [List.drop_zero, Nat.sub_zero] at ht
      rw [e]
      refine ⟨h4, ((scan_facts b 0).2.1 h3).2, ?_⟩
      rw [hv]
      exact ht.symm
  · exfalso
    unfold intR at h
    rw [if_neg h1] at h
    exact h1 h
theorem un_len (n : Nat) : (unBits n).length = n + 1 := by simp [unBits]
theorem readH_back (hr : row bound ids = true) (hw : w ≤ 64) {Q : List Bool} (hP : Packs l (bitsE w ids ++ Q)) : ∀ k, k ≤ ids.length →
    readH l w bound k (ids.length * w + (highTo w ids (ids.length - k)).length) (was w ids (ids.length - k)) (ids.take (ids.length - k)) = (ids, (bitsE w ids).length, 0)
  | 0, _ => by
    rw [readH, Nat.sub_zero, List.take_length]
    unfold bitsE
    rw [List.length_append, lowTo_len]
  | k + 1, hk => by
    obtain ⟨i, hi'⟩ : ∃ i, i = ids.length - (k + 1) := ⟨_, rfl⟩
    rw [← hi']
    have hin : i < ids.length := by omega
    have IH := readH_back hr hw hP k (by omega)
    rw [show ids.length - k = i + 1 by omega] at IH
    have hrow := row_at hr hin
    have hwas := was_le (w := w) hr hin
    obtain ⟨R, eR⟩ := flat_at (fun i => unBits (hi w ids i - was w ids i)) hin
    obtain ⟨S, eS⟩ := flat_at (fun i => num ((ids.getD i 0).toNat % 2 ^ w) w) hin
    have hun := un_back (l := l) (P := lowTo w ids ids.length ++ highTo w ids i) (Q := R ++ Q) (n := hi w ids i - was w ids i) (by
      have : highTo w ids ids.length = highTo w ids i ++ unBits (hi w ids i - was w ids i) ++ R := eR
      unfold bitsE at hP
      rw [this] at hP
      simpa [List.append_assoc] using hP)
    rw [List.length_append, lowTo_len] at hun
    have hget := get_back (l := l) (P := lowTo w ids i) (Q := S ++ highTo w ids ids.length ++ Q) (x := (ids.getD i 0).toNat % 2 ^ w) (k := w) (by
      have : lowTo w ids ids.length = lowTo w ids i ++ num ((ids.getD i 0).toNat % 2 ^ w) w ++ S := eS
      unfold bitsE at hP
      rw [this] at hP
      simpa [List.append_assoc] using hP) hw (Nat.mod_lt _ (Nat.pow_pos (by omega)))
    rw [lowTo_len] at hget
    have hlen : (ids.take i).length = i := by rw [List.length_take]; omega
    have hid : (((was w ids i + (hi w ids i - was w ids i)) * 2 ^ w + (ids.getD i 0).toNat % 2 ^ w : Nat) : Int) = ids.getD i 0 := by
      rw [show was w ids i + (hi w ids i - was w ids i) = hi w ids i by omega]
      unfold hi
      rw [Nat.div_add_mod']
      omega
    rw [readH, if_neg (by rw [hun.1]; simp), hun.2.1, hlen, hget.2.1, hid, if_neg (by
      rintro ⟨h1, h2⟩
      have e : (ids.take i).getD (i - 1) 0 = ids.getD (i - 1) 0 := by
        rw [List.getD_eq_getElem?_getD, List.getD_eq_getElem?_getD, List.getElem?_take, if_pos (by omega)]
      rw [e] at h2
      have := hrow.2.2 h1
      omega), if_neg (by omega), hun.2.2]
    have e1 : ids.take i ++ [ids.getD i 0] = ids.take (i + 1) := by
      rw [List.take_add_one, List.getElem?_eq_getElem hin, List.getD_eq_getElem?_getD, List.getElem?_eq_getElem hin]; rfl
    have e2 : was w ids i + (hi w ids i - was w ids i) = was w ids (i + 1) := by
      have : was w ids (i + 1) = hi w ids i := by unfold was; rw [if_neg (by omega), Nat.add_sub_cancel]
      omega
    have e3 : ids.length * w + (highTo w ids i).length + (hi w ids i - was w ids i) + 1 = ids.length * w + (highTo w ids (i + 1)).length := by
      have : (highTo w ids (i + 1)).length = (highTo w ids i).length + (unBits (hi w ids i - was w ids i)).length := by
        unfold highTo
        rw [flat_succ, List.length_append]
      rw [this, un_len]
      omega
    rw [e1, e2, e3]
    exact IH
theorem widE_le {bound : Int} {n : Nat} (hb : bound ≤ 20000) : widE bound n ≤ 14 := by
  unfold widE wid
  have h1 : bound.toNat / n ≤ 20000 := Nat.le_trans (Nat.div_le_self _ _) (by omega)
  rcases Nat.eq_zero_or_pos (bound.toNat / n) with e | e
  · rw [e]; simp
  · have := (Nat.log2_lt (by omega)).2 (show bound.toNat / n < 2 ^ 15 by omega)
    omega
theorem padZ_pack (B : List Bool) (m : List UInt8) : padZ (pack B ++ m) B.length = true := by
  refine decide_eq_true fun i hi => ?_
  have hl := pack_len B
  have h1 : B.length + i < 8 * (pack B).length := by omega
  rw [at_app _ _ h1, (packs_pack B).2 _ h1, getD_far _ _ (by omega)]
theorem readN_back (hr : row bound ids = true) (hb : bound ≤ 20000) (m : List UInt8) :
    readN (pack (bitsE (widE bound ids.length) ids) ++ m) bound ids.length = (ids, (pack (bitsE (widE bound ids.length) ids)).length, 0) := by
  have hw := widE_le (n := ids.length) hb
  obtain ⟨w, ew⟩ : ∃ w, w = widE bound ids.length := ⟨_, rfl⟩
  unfold readN
  rw [← ew] at hw ⊢
  obtain ⟨Q, hQ⟩ := packs_front (m := m) (packs_pack (bitsE w ids))
  have h := readH_back (w := w) hr (by omega) hQ ids.length (Nat.le_refl _)
  have e0 : (highTo w ids (ids.length - ids.length)).length = 0 := by rw [Nat.sub_self]; simp [highTo]
  have e1 : was w ids (ids.length - ids.length) = 0 := by rw [Nat.sub_self]; rfl
  rw [e0, e1, Nat.sub_self, List.take_zero, Nat.add_zero] at h
  have hb2 : ids.length * w ≤ (bitsE w ids).length := by unfold bitsE; rw [List.length_append, lowTo_len]; omega
  have hp := pack_len (bitsE w ids)
  rw [if_neg (by rw [List.length_append]; omega), h]
  dsimp only
  rw [if_neg (by simp), padZ_pack, if_neg (by simp), pack_len]
theorem enc_lt {b : List UInt8} (n : Nat) (hn : n ≤ 20000) (hb : b = enc n ++ l) : scan b 0 = (n, (enc n).length, 0) := by
  have h := scan_enc [] l n (by omega)
  simp only [List.nil_append, List.length_nil, Nat.zero_add] at h
  rw [hb]
  exact h
/-- What was written is read, whatever stands behind it. -/
theorem read_back (h : (writeE bound ids).2 = 0) (m : List UInt8) : readE bound ((writeE bound ids).1 ++ m) = (ids, (writeE bound ids).1.length, 0) := by
  unfold writeE at h ⊢
  split at h
  · rename_i hc
    obtain ⟨⟨h0, h1⟩, hr⟩ := hc
    rw [if_pos ⟨⟨h0, h1⟩, hr⟩]
    dsimp only
    have hlen := row_len hr
    have hnb : (ids.length : Int) ≤ bound := by rcases hlen with e | e <;> omega
    unfold rowB readE
    rw [if_pos ⟨h0, h1⟩, List.append_assoc, int_fine (enc_lt ids.length (by omega) rfl) hnb]
    dsimp only
    rw [if_neg (by simp)]
    by_cases hz : ids.length = 0
    · rw [if_pos hz, if_pos hz, List.append_nil]
      have : ids = [] := List.length_eq_zero_iff.1 hz
      rw [this]
    · rw [if_neg hz, if_neg hz, List.drop_left, readN_back hr h1 m]
      dsimp only
      rw [if_neg (by simp), List.length_append]
  · simp at h

/-! ### What was read is as it is written -/
theorem getD_snoc (L : List Int) (x : Int) {i : Nat} (h : i < L.length) : (L ++ [x]).getD i 0 = L.getD i 0 := by
  rw [List.getD_eq_getElem?_getD, List.getD_eq_getElem?_getD, List.getElem?_append_left h]
theorem getD_last (L : List Int) (x : Int) : (L ++ [x]).getD L.length 0 = x := by
  rw [List.getD_eq_getElem?_getD, List.getElem?_append_right (Nat.le_refl _), Nat.sub_self]; rfl
theorem was_snoc (w : Nat) (L : List Int) (x : Int) {i : Nat} (h : i ≤ L.length) : was w (L ++ [x]) i = was w L i := by
  unfold was hi
  split
  · rfl
  · rw [getD_snoc _ _ (by omega)]
theorem highTo_snoc (w : Nat) (L : List Int) (x : Int) : ∀ {k : Nat}, k ≤ L.length → highTo w (L ++ [x]) k = highTo w L k
  | 0, _ => rfl
  | k + 1, h => by
    have := highTo_snoc w L x (k := k) (by omega)
    unfold highTo at this ⊢
    rw [flat_succ, flat_succ, this, was_snoc w L x (by omega)]
    unfold hi
    rw [getD_snoc _ _ (by omega)]
theorem row_snoc {L : List Int} {x : Int} (h : row bound L = true) (h0 : 0 ≤ x) (hb : x < bound) (hp : 0 < L.length → L.getD (L.length - 1) 0 < x) : row bound (L ++ [x]) = true := by
  refine decide_eq_true fun i hi' => ?_
  rw [List.length_append, List.length_singleton] at hi'
  rcases Nat.lt_or_ge i L.length with hi | hi
  · have := row_at h hi
    rw [getD_snoc _ _ hi]
    refine ⟨this.1, this.2.1, fun hp => ?_⟩
    rw [getD_snoc _ _ (by omega)]
    exact this.2.2 hp
  · obtain rfl : i = L.length := by omega
    rw [getD_last]
    refine ⟨h0, hb, fun h1 => ?_⟩
    rw [getD_snoc _ _ (by omega)]
    exact hp h1
/-- What is read of the numbers out, whose high bits stand from s to p. -/
structure Have (l : List UInt8) (w : Nat) (bound : Int) (s p : Nat) (out : List Int) : Prop where
  row : row bound out = true
  low : ∀ i, i < out.length → (out.getD i 0).toNat % 2 ^ w = getNum l (i * w) (w : Int)
  high : sub l s (p - s) = highTo w out out.length
  ge : s ≤ p
  le : p ≤ 8 * l.length
theorem readH_one {s : Nat} : ∀ (k p : Nat) (out r : List Int) (p' : Nat), Have l w bound s p out → readH l w bound k p (was w out out.length) out = (r, p', 0) → Have l w bound s p' r ∧ r.length = out.length + k
  | 0, p, out, r, p', H, h => by
    rw [readH] at h
    obtain ⟨rfl, rfl, _⟩ := Prod.mk.inj h |>.imp id fun e => Prod.mk.inj e
    exact ⟨H, rfl⟩
  | k + 1, p, out, r, p', H, h => by
    rw [readH] at h
    by_cases h1 : unErr l p ≠ 0
    · rw [if_pos h1] at h
      simp at h
    rw [if_neg h1] at h
    obtain ⟨u1, u2, u3⟩ := un_sub (Decidable.not_not.1 h1)
    obtain ⟨g, hg⟩ : ∃ g, g = getNum l (out.length * w) (w : Int) := ⟨_, rfl⟩
    have hg2 : g < 2 ^ w := by rw [hg]; exact getNum_lt _ _ _
    obtain ⟨A, hA⟩ : ∃ A, A = was w out out.length := ⟨_, rfl⟩
    obtain ⟨u, hu⟩ : ∃ u, u = unNum l p := ⟨_, rfl⟩
    rw [← hg, ← hA, ← hu] at h
    rw [← hu] at u1 u3
    obtain ⟨id, hid⟩ : ∃ id : Nat, id = (A + u) * 2 ^ w + g := ⟨_, rfl⟩
    rw [← hid] at h
    by_cases h2 : 0 < out.length ∧ (id : Int) ≤ out.getD (out.length - 1) 0
    · rw [if_pos h2] at h
      simp at h
    rw [if_neg h2] at h
    by_cases h3 : bound ≤ (id : Int)
    · rw [if_pos h3] at h
      simp at h
    rw [if_neg h3] at h
    have d1 : id / 2 ^ w = A + u := by
      rw [hid, Nat.mul_comm, Nat.mul_add_div (Nat.pow_pos (by omega)), Nat.div_eq_of_lt hg2, Nat.add_zero]
    have d2 : id % 2 ^ w = g := by
      rw [hid, Nat.mul_comm, Nat.mul_add_mod, Nat.mod_eq_of_lt hg2]
    have eh : hi w (out ++ [(id : Int)]) out.length = A + u := by
      unfold hi
      rw [getD_last, Int.toNat_natCast, d1]
    have ew : was w (out ++ [(id : Int)]) (out ++ [(id : Int)]).length = A + u := by
      rw [List.length_append, List.length_singleton]
      unfold was
      rw [if_neg (by omega), Nat.add_sub_cancel, eh]
    rw [← ew] at h
    have hge := H.ge
    have H2 : Have l w bound s (unTo l p) (out ++ [(id : Int)]) := by
      refine ⟨row_snoc H.row (by omega) (by omega) (fun hp => ?_), fun i hi' => ?_, ?_, by omega, u2⟩
      · have : ¬ (id : Int) ≤ out.getD (out.length - 1) 0 := fun e => h2 ⟨hp, e⟩
        omega
      · rw [List.length_append, List.length_singleton] at hi'
        rcases Nat.lt_or_ge i out.length with hi | hi
        · rw [getD_snoc _ _ hi]
          exact H.low i hi
        · obtain rfl : i = out.length := by omega
          rw [getD_last, Int.toNat_natCast, d2, hg]
      · have e : highTo w (out ++ [(id : Int)]) (out ++ [(id : Int)]).length = highTo w out out.length ++ unBits u := by
          rw [List.length_append, List.length_singleton]
          have := highTo_snoc w out (id : Int) (k := out.length) (Nat.le_refl _)
          unfold highTo at this ⊢
          rw [flat_succ, this, eh, was_snoc w out _ (Nat.le_refl _), ← hA, Nat.add_sub_cancel_left]
        rw [e, ← H.high, u3, show unTo l p - s = (p - s) + (u + 1) by omega, sub_add, show s + (p - s) = p by omega]
    obtain ⟨H3, e3⟩ := readH_one k (unTo l p) (out ++ [(id : Int)]) r p' H2 h
    refine ⟨H3, ?_⟩
    rw [e3, List.length_append, List.length_singleton]
    omega
theorem low_sub (hw : w ≤ 64) (h : ∀ i, i < ids.length → (ids.getD i 0).toNat % 2 ^ w = getNum l (i * w) (w : Int)) (hl : ids.length * w ≤ 8 * l.length) : ∀ k, k ≤ ids.length → sub l 0 (k * w) = lowTo w ids k
  | 0, _ => by rw [Nat.zero_mul]; rfl
  | k + 1, hk => by
    have IH := low_sub hw h hl k (by omega)
    have hkw : (k + 1) * w ≤ ids.length * w := Nat.mul_le_mul_right w hk
    rw [Nat.succ_mul] at hkw ⊢
    have he : getErr (8 * l.length - k * w) (w : Int) = 0 := by unfold getErr; rw [if_pos ⟨by omega, by omega⟩, if_pos (by omega)]
    rw [sub_add, IH, Nat.zero_add]
    unfold lowTo
    rw [flat_succ, h k (by omega), num_sub he]
theorem readN_one {n m : Nat} {r : List Int} (hb : bound ≤ 20000) (h : readN l bound n = (r, m, 0)) : row bound r = true ∧ r.length = n ∧ m ≤ l.length ∧ pack (bitsE (widE bound n) r) = l.take m := by
  have hw := widE_le (n := n) hb
  unfold readN at h
  obtain ⟨w, ew⟩ : ∃ w, w = widE bound n := ⟨_, rfl⟩
  rw [← ew] at h hw ⊢
  by_cases h1 : 8 * l.length < n * w
  · rw [if_pos h1] at h; simp at h
  rw [if_neg h1] at h
  obtain ⟨r2, p', e', hR⟩ : ∃ r2 p' e', readH l w bound n (n * w) 0 [] = (r2, p', e') := ⟨_, _, _, rfl⟩
  rw [hR] at h
  dsimp only at h
  by_cases h2 : e' ≠ 0
  · rw [if_pos h2] at h
    simp only [Prod.mk.injEq] at h
    exact absurd h.2.2 h2
  rw [if_neg h2] at h
  have he' : e' = 0 := Decidable.not_not.1 h2
  subst he'
  by_cases h3 : padZ l p' = false
  · rw [if_pos h3] at h; simp at h
  rw [if_neg h3] at h
  simp only [Prod.mk.injEq] at h
  obtain ⟨rfl, rfl, _⟩ := h
  have H0 : Have l w bound (n * w) (n * w) [] := ⟨decide_eq_true (fun i hi => by simp at hi), fun i hi => by simp at hi, by rw [Nat.sub_self]; rfl, Nat.le_refl _, by omega⟩
  obtain ⟨H, hl⟩ := readH_one n (n * w) [] r2 p' H0 hR
  rw [List.length_nil, Nat.zero_add] at hl
  have hge := H.ge
  have hle := H.le
  refine ⟨H.row, hl, by omega, ?_⟩
  have hz : ∀ i, i < (8 - p' % 8) % 8 → at_ l (p' + i) = false := of_decide_eq_true (by simpa [padZ] using h3)
  have eB : bitsE w r2 = sub l 0 p' := by
    unfold bitsE
    have h4 := sub_add l 0 (n * w) (p' - n * w)
    rw [Nat.zero_add, show n * w + (p' - n * w) = p' by omega] at h4
    rw [← low_sub (by omega) H.low (by rw [hl]; omega) r2.length (Nat.le_refl _), ← H.high, hl]
    exact h4.symm
  refine (Packs.is ⟨?_, fun i hi => ?_⟩).symm
  · rw [eB, sub_len, List.length_take]; omega
  · rw [List.length_take] at hi
    rw [at_take _ (by omega), eB]
    rcases Nat.lt_or_ge i p' with hp | hp
    · rw [sub_get _ _ _ _ hp, Nat.zero_add]
    · rw [getD_far _ _ (by rw [sub_len]; exact hp)]
      have := hz (i - p') (by omega)
      rwa [show p' + (i - p') = i by omega] at this
/-- What was read is as it is written. -/
theorem read_one {b : List UInt8} {n : Nat} (h : readE bound b = (ids, n, 0)) : writeE bound ids = (b.take n, 0) ∧ n ≤ b.length := by
  unfold readE at h
  by_cases h0 : 0 ≤ bound ∧ bound ≤ 20000
  rotate_left
  · rw [if_neg h0] at h; simp at h
  rw [if_pos h0] at h
  by_cases h1 : (intR b 0 0 bound).2.2 ≠ 0
  · rw [if_pos h1] at h
    simp only [Prod.mk.injEq] at h
    exact absurd h.2.2 h1
  rw [if_neg h1] at h
  obtain ⟨i1, i2, i3⟩ := int_is (Decidable.not_not.1 h1)
  obtain ⟨x, hx⟩ : ∃ x, x = (intR b 0 0 bound).1 := ⟨_, rfl⟩
  obtain ⟨q, hq⟩ : ∃ q, q = (intR b 0 0 bound).2.1 := ⟨_, rfl⟩
  rw [← hx, ← hq] at h i3
  rw [← hx] at i1
  rw [← hq] at i2
  unfold writeE rowB
  by_cases h2 : x = 0
  · rw [if_pos h2] at h
    simp only [Prod.mk.injEq] at h
    obtain ⟨rfl, rfl, _⟩ := h
    rw [if_pos ⟨h0, decide_eq_true (fun i hi => by simp at hi)⟩, if_pos List.length_nil, List.append_nil, List.length_nil, ← h2, i3]
    exact ⟨rfl, i2⟩
  rw [if_neg h2] at h
  obtain ⟨r, m, e, hR⟩ : ∃ r m e, readN (b.drop q) bound x = (r, m, e) := ⟨_, _, _, rfl⟩
  rw [hR] at h
  dsimp only at h
  by_cases h3 : e ≠ 0
  · rw [if_pos h3] at h
    simp only [Prod.mk.injEq] at h
    exact absurd h.2.2 h3
  rw [if_neg h3] at h
  have he : e = 0 := Decidable.not_not.1 h3
  subst he
  simp only [Prod.mk.injEq] at h
  obtain ⟨rfl, rfl, _⟩ := h
  obtain ⟨n1, n2, n3, n4⟩ := readN_one h0.2 hR
  rw [List.length_drop] at n3
  rw [if_pos ⟨h0, n1⟩, if_neg (by omega), n2, i3, n4, ← List.take_add]
  exact ⟨rfl, by omega⟩

/-! ### How long -/
theorem short (h : (writeE bound ids).2 = 0) (hn : 0 < ids.length) (hn2 : ids.length ≤ 2000) : 8 * (writeE bound ids).1.length ≤ ids.length * (widE bound ids.length + 3) + 31 := by
  unfold writeE at h ⊢
  split at h
  rotate_left
  · simp at h
  rename_i hc
  rw [if_pos hc]
  dsimp only
  obtain ⟨⟨h0, h1⟩, hr⟩ := hc
  have hlen := row_len hr
  obtain ⟨n, en⟩ : ∃ n, n = ids.length := ⟨_, rfl⟩
  have hq : 0 < bound.toNat / ids.length := Nat.div_pos (by omega) hn
  have hw2 := (wid_le hq).2
  have ew : wid (bound.toNat / ids.length) = widE bound ids.length := rfl
  rw [ew] at hw2
  obtain ⟨w, hw⟩ : ∃ w, w = widE bound ids.length := ⟨_, rfl⟩
  unfold rowB
  rw [← hw] at hw2 ⊢
  rw [if_neg (by omega), List.length_append, pack_len]
  unfold bitsE
  rw [List.length_append, lowTo_len, highTo_len hr _ (Nat.le_refl _)]
  have hlast := (row_at hr (i := ids.length - 1) (by omega)).2.1
  have hb2 : bound.toNat < ids.length * 2 ^ (w + 1) := by
    have := Nat.lt_mul_of_div_lt hw2 hn
    rwa [Nat.mul_comm] at this
  have hwas : was w ids ids.length < 2 * ids.length := by
    unfold was hi
    rw [if_neg (by omega)]
    refine Nat.div_lt_of_lt_mul ?_
    have e : 2 ^ w * (2 * ids.length) = ids.length * 2 ^ (w + 1) := by rw [Nat.pow_succ, Nat.mul_comm ids.length, Nat.mul_assoc]
    rw [e]
    omega
  have he : (enc ids.length).length ≤ 3 := by
    unfold Num.enc
    by_cases e1 : ids.length < 128
    · rw [encF_small e1]; simp
    · rw [encF_big e1]
      by_cases e2 : ids.length / 128 < 128
      · rw [encF_small e2]; simp
      · omega
  have e3 : ids.length * (w + 3) = ids.length * w + ids.length * 3 := Nat.mul_add _ _ _
  rw [e3]
  omega
end
end Ef
end Go.Proofs.YtcphapdjimeoaaaGreat

namespace Go.Proofs.YtcphapdjimeoaaaGreat
/-- An index. -/
structure Ix where
  terms : List (List UInt8)
  lists : List (List Int)
deriving DecidableEq
namespace Pst
open Wrd

def termsOf (r : Rc) : List (List UInt8) := termsE r.text r.src
def gatherF (out : List (List UInt8)) (l : List Rc) : List (List UInt8) := l.foldl (fun out r => (termsOf r).foldl putT out) out
/-- The terms of all records, each once, rising. -/
def gather (l : List Rc) : List (List UInt8) := gatherF [] l
def idsF (s : List UInt8) : Nat → List Rc → List Int
  | _, [] => []
  | k, r :: t => if s ∈ termsOf r then (k : Int) :: idsF s (k + 1) t else idsF s (k + 1) t
/-- The numbers of the records that have a term. -/
def idsE (l : List Rc) (s : List UInt8) : List Int := idsF s 0 l
def buildE (l : List Rc) : Ix := ⟨gather l, (gather l).map (idsE l)⟩
def listOk (bound : Int) (l : List Int) : Bool := decide (l ≠ []) && Ef.row bound l
def mayE (bound : Int) (x : Ix) : Bool := decide (0 ≤ bound ∧ bound ≤ 20000 ∧ x.terms.length = x.lists.length) && (Dic.mayD x.terms && x.lists.all (listOk bound))
def bytesE (size bound : Int) (x : Ix) : List UInt8 × Int :=
  if size < 1 ∨ 64 < size ∨ mayE bound x = false then ([], 13) else (Dic.dictB size.toNat x.terms ++ x.lists.flatMap (Ef.rowB bound), 0)
/-- n lists from the place q on, the place behind them, an error. -/
def listsR (bound : Int) (b : List UInt8) : Nat → Nat → List (List Int) × Nat × Int
  | 0, q => ([], q, 0)
  | n + 1, q => if (Ef.readE bound (b.drop q)).2.2 ≠ 0 then ([], 0, (Ef.readE bound (b.drop q)).2.2) else
      if (Ef.readE bound (b.drop q)).1 = [] then ([], 0, 2) else
      if (listsR bound b n (q + (Ef.readE bound (b.drop q)).2.1)).2.2 ≠ 0 then ([], 0, (listsR bound b n (q + (Ef.readE bound (b.drop q)).2.1)).2.2)
      else ((Ef.readE bound (b.drop q)).1 :: (listsR bound b n (q + (Ef.readE bound (b.drop q)).2.1)).1, (listsR bound b n (q + (Ef.readE bound (b.drop q)).2.1)).2.1, 0)
def readE (size bound : Int) (b : List UInt8) : Ix × Int :=
  if size < 1 ∨ 64 < size ∨ bound < 0 ∨ 20000 < bound then (⟨[], []⟩, 13) else
  if (Dic.readR b size.toNat).2.2 ≠ 0 then (⟨[], []⟩, (Dic.readR b size.toNat).2.2) else
  if (listsR bound b (Dic.readR b size.toNat).1.length (Dic.readR b size.toNat).2.1).2.2 ≠ 0 then (⟨[], []⟩, (listsR bound b (Dic.readR b size.toNat).1.length (Dic.readR b size.toNat).2.1).2.2) else
  if (listsR bound b (Dic.readR b size.toNat).1.length (Dic.readR b size.toNat).2.1).2.1 < b.length then (⟨[], []⟩, 2)
  else (⟨(Dic.readR b size.toNat).1, (listsR bound b (Dic.readR b size.toNat).1.length (Dic.readR b size.toNat).2.1).1⟩, 0)

/- The terms. -/
theorem gatherF_facts : ∀ (l : List Rc) (out : List (List UInt8)), Rising out → Rising (gatherF out l) ∧ ∀ z, z ∈ gatherF out l ↔ z ∈ out ∨ ∃ r, r ∈ l ∧ z ∈ termsOf r
  | [], out, h => ⟨h, fun z => by simp [gatherF]⟩
  | r :: t, out, h => by
    obtain ⟨h1, h2⟩ := fold_facts (termsOf r) out h
    obtain ⟨h3, h4⟩ := gatherF_facts t _ h1
    refine ⟨h3, fun z => ?_⟩
    have := h4 z
    rw [h2 z] at this
    show z ∈ gatherF ((termsOf r).foldl putT out) t ↔ _
    rw [this, or_assoc]
    simp
theorem gather_rising (l : List Rc) : Rising (gather l) := (gatherF_facts l [] List.Pairwise.nil).1
theorem mem_gather {l : List Rc} {z : List UInt8} : z ∈ gather l ↔ ∃ r, r ∈ l ∧ z ∈ termsOf r := by
  have := (gatherF_facts l [] List.Pairwise.nil).2 z
  unfold gather
  simpa using this
theorem fold_len : ∀ (l out : List (List UInt8)), (l.foldl putT out).length ≤ out.length + l.length
  | [], out => by simp
  | s :: t, out => by
    have h1 := fold_len t (putT out s)
    have h2 := putT_len s out
    simp only [List.foldl_cons, List.length_cons]
    omega
theorem terms_few (r : Rc) : (termsOf r).length ≤ r.src.length + r.text.length := by
  have h1 := fold_len ((wordsE r.src).map fun w => 64 :: w) ((wordsE r.text).foldl putT [])
  have h2 := fold_len (wordsE r.text) []
  have h3 := words_len r.text
  have h4 := words_len r.src
  unfold termsOf termsE
  rw [List.length_map] at h1
  simp only [List.length_nil] at h2
  omega
theorem gatherF_len : ∀ (l : List Rc) (out : List (List UInt8)), (gatherF out l).length + 16 * l.length ≤ out.length + Rcs.weightE l
  | [], out => by simp [gatherF, Rcs.weightE]
  | r :: t, out => by
    have h1 := gatherF_len t ((termsOf r).foldl putT out)
    have h2 := fold_len (termsOf r) out
    have h3 := terms_few r
    have e : Rcs.weightE (r :: t) = 16 + r.src.length + r.text.length + Rcs.weightE t := by unfold Rcs.weightE; simp
    have e2 : gatherF out (r :: t) = gatherF ((termsOf r).foldl putT out) t := rfl
    rw [e, e2, List.length_cons]
    omega
theorem gather_len (l : List Rc) : (gather l).length ≤ Rcs.weightE l := by
  have := gatherF_len l []
  simp only [List.length_nil] at this
  unfold gather
  omega
theorem term_size {l : List Rc} {z : List UInt8} (h : z ∈ gather l) : 1 ≤ z.length ∧ z.length ≤ 25 := by
  obtain ⟨r, -, hz⟩ := mem_gather.1 h
  rcases mem_terms.1 hz with hw | ⟨w, hw, rfl⟩
  · have := (words_each hw).1; omega
  · have := (words_each hw).1; simp; omega

/- The lists. -/
theorem mem_idsF {s : List UInt8} : ∀ {l : List Rc} {k : Nat} {z : Int}, z ∈ idsF s k l ↔ ∃ j : Nat, j < l.length ∧ z = ((k + j : Nat) : Int) ∧ s ∈ termsOf (l.getD j default)
  | [], k, z => by simp [idsF]
  | r :: t, k, z => by
    have ih := @mem_idsF s t (k + 1) z
    have key : (∃ j : Nat, j < (r :: t).length ∧ z = ((k + j : Nat) : Int) ∧ s ∈ termsOf ((r :: t).getD j default)) ↔ (z = (k : Int) ∧ s ∈ termsOf r) ∨ ∃ j : Nat, j < t.length ∧ z = ((k + 1 + j : Nat) : Int) ∧ s ∈ termsOf (t.getD j default) := by
      constructor
      · rintro ⟨j, h1, h2, h3⟩
        match j, h1, h2, h3 with
        | 0, _, h2, h3 => exact .inl ⟨by simpa using h2, by simpa using h3⟩
        | j + 1, h1, h2, h3 => exact .inr ⟨j, by simpa using h1, by omega, by simpa using h3⟩
      · rintro (⟨h1, h2⟩ | ⟨j, h1, h2, h3⟩)
        · exact ⟨0, by simp, by simpa using h1, by simpa using h2⟩
        · exact ⟨j + 1, by simpa using h1, by omega, by simpa using h3⟩
    rw [key, ← ih, idsF]
    split <;> rename_i hs
    · simp [hs]
    · simp [hs]
theorem ids_above {s : List UInt8} : ∀ (l : List Rc) (k : Nat), (idsF s k l).Pairwise (· < ·)
  | [], _ => List.Pairwise.nil
  | r :: t, k => by
    rw [idsF]
    split
    · refine List.Pairwise.cons (fun z hz => ?_) (ids_above t (k + 1))
      obtain ⟨j, -, rfl, -⟩ := mem_idsF.1 hz
      omega
    · exact ids_above t (k + 1)
theorem mem_ids {l : List Rc} {s : List UInt8} {i : Nat} (hi : i < l.length) : (i : Int) ∈ idsE l s ↔ s ∈ termsOf (l.getD i default) := by
  unfold idsE
  rw [mem_idsF]
  constructor
  · rintro ⟨j, h1, h2, h3⟩
    obtain rfl : i = j := by omega
    exact h3
  · intro h
    exact ⟨i, hi, by omega, h⟩
theorem ids_nil {l : List Rc} {s : List UInt8} : idsE l s = [] ↔ ¬ s ∈ gather l := by
  constructor
  · intro h hs
    obtain ⟨r, hr, hz⟩ := mem_gather.1 hs
    obtain ⟨i, hi, rfl⟩ := List.getElem_of_mem hr
    have := (mem_ids (s := s) hi).2 (by rw [List.getD_eq_getElem?_getD, List.getElem?_eq_getElem hi]; exact hz)
    rw [h] at this
    simp at this
  · intro h
    cases he : idsE l s with
    | nil => rfl
    | cons z t =>
      have hz : z ∈ idsE l s := by rw [he]; simp
      obtain ⟨j, h1, -, h3⟩ := mem_idsF.1 hz
      exact absurd (mem_gather.2 ⟨l.getD j default, by rw [List.getD_eq_getElem?_getD, List.getElem?_eq_getElem h1]; exact List.getElem_mem _, h3⟩) h
theorem idsF_snoc (s : List UInt8) (r : Rc) : ∀ (l : List Rc) (k : Nat), idsF s k (l ++ [r]) = idsF s k l ++ if s ∈ termsOf r then [((k + l.length : Nat) : Int)] else []
  | [], k => by simp [idsF]
  | a :: t, k => by
    have := idsF_snoc s r t (k + 1)
    rw [List.cons_append, idsF, idsF, this, List.length_cons, show k + 1 + t.length = k + (t.length + 1) by omega]
    split <;> simp
theorem ids_snoc (l : List Rc) (r : Rc) (s : List UInt8) : idsE (l ++ [r]) s = idsE l s ++ if s ∈ termsOf r then [(l.length : Int)] else [] := by
  have := idsF_snoc s r l 0
  rw [Nat.zero_add] at this
  exact this
theorem row_of {bound : Int} {l : List Int} (h : l.Pairwise (· < ·)) (hb : ∀ z, z ∈ l → 0 ≤ z ∧ z < bound) : Ef.row bound l = true := by
  unfold Ef.row
  refine decide_eq_true fun i hi => ?_
  have e : ∀ j (hj : j < l.length), l.getD j 0 = l[j] := fun j hj => by rw [List.getD_eq_getElem?_getD, List.getElem?_eq_getElem hj]; rfl
  have h1 := hb _ (List.getElem_mem hi)
  rw [e i hi]
  refine ⟨h1.1, h1.2, fun h0 => ?_⟩
  rw [e (i - 1) (by omega)]
  exact List.pairwise_iff_getElem.1 h (i - 1) i (by omega) hi (by omega)
theorem ids_row (l : List Rc) (s : List UInt8) : Ef.row (l.length : Int) (idsE l s) = true := row_of (ids_above l 0) fun z hz => by
  obtain ⟨j, h1, rfl, -⟩ := mem_idsF.1 hz
  omega
theorem build_may {l : List Rc} (hl : l.length ≤ 20000) (hw : Rcs.weightE l ≤ 1048576) : mayE (l.length : Int) (buildE l) = true := by
  have h1 := gather_len l
  unfold mayE buildE
  rw [Bool.and_eq_true, Bool.and_eq_true]
  refine ⟨decide_eq_true ⟨by omega, by omega, by simp⟩, Dic.may_of (by show (gather l).length ≤ _; omega) (fun s hs => term_size hs) (gather_rising l), ?_⟩
  rw [List.all_eq_true]
  intro ids hi
  obtain ⟨s, hs, rfl⟩ := List.mem_map.1 hi
  unfold listOk
  rw [Bool.and_eq_true]
  exact ⟨decide_eq_true fun e => ids_nil.1 e hs, ids_row l s⟩
/-- Two rising lists with the same texts are one. -/
theorem rising_ext : ∀ {a b : List (List UInt8)}, Rising a → Rising b → (∀ z, z ∈ a ↔ z ∈ b) → a = b
  | [], [], _, _, _ => rfl
  | [], y :: b, _, _, h => by have := (h y).2 (by simp); simp at this
  | x :: a, [], _, _, h => by have := (h x).1 (by simp); simp at this
  | x :: a, y :: b, ha, hb, h => by
    have ha1 := List.pairwise_cons.1 ha
    have hb1 := List.pairwise_cons.1 hb
    have hxy : x = y := by
      rcases List.mem_cons.1 ((h x).1 (by simp)) with e | hx
      · exact e
      rcases List.mem_cons.1 ((h y).2 (by simp)) with e | hy
      · exact e.symm
      have h1 := less_trans _ _ _ (ha1.1 y hy) (hb1.1 x hx)
      rw [less_self] at h1
      cases h1
    subst hxy
    congr 1
    refine rising_ext ha1.2 hb1.2 fun z => ?_
    have hz := h z
    rw [List.mem_cons, List.mem_cons] at hz
    constructor
    · intro hm
      rcases hz.1 (.inr hm) with e | e
      · subst e
        have := ha1.1 _ hm
        rw [less_self] at this
        cases this
      · exact e
    · intro hm
      rcases hz.2 (.inr hm) with e | e
      · subst e
        have := hb1.1 _ hm
        rw [less_self] at this
        cases this
      · exact e
/-- One more record: the terms that were there are still there, in their order. -/
theorem gather_more (l : List Rc) (r : Rc) : gather l = (gather (l ++ [r])).filter fun s => decide (s ∈ gather l) :=
  rising_ext (gather_rising l) ((gather_rising (l ++ [r])).filter _) fun z => by
    rw [List.mem_filter, decide_eq_true_iff]
    constructor
    · intro h
      refine ⟨?_, h⟩
      obtain ⟨x, hx, hz⟩ := mem_gather.1 h
      exact mem_gather.2 ⟨x, by simp [hx], hz⟩
    · exact fun h => h.2
theorem example18 : buildE [⟨0, 0, [], [100, 105, 115, 107, 32, 102, 117, 108, 108]⟩, ⟨0, 0, [], [102, 117, 108, 108]⟩] = ⟨[[100, 105, 115, 107], [102, 117, 108, 108]], [[0], [0, 1]]⟩ := by decide +kernel
end Pst
end Go.Proofs.YtcphapdjimeoaaaGreat

namespace Go.Proofs.YtcphapdjimeoaaaGreat
open Go.ChangeShapes Go.WideShapes Go.ChangeAt Go.WideMaps Go.WideElems Go.RowKit

/-- An index, and where its terms and its lists lie. -/
structure IxV where
  a1 : Option Addr
  n1 : Nat
  c1 : Nat
  a2 : Option Addr
  n2 : Nat
  c2 : Nat
  x : Ix
def IxV.lies (m : IxV) (W : World) : Prop := (m.n1 ≤ m.c1 ∧ m.c1 ≤ maxLen ∧ TextsAt W W.heap.size m.a1 m.n1 m.x.terms) ∧ m.n2 ≤ m.c2 ∧ m.c2 ≤ maxLen ∧ ILists W W.heap.size m.a2 m.n2 m.x.lists
theorem IxV.lies.later {m : IxV} {W W' : World} (h : m.lies W) (hE : Ext W W') : m.lies W' := ⟨⟨h.1.1, h.1.2.1, h.1.2.2.later hE⟩, h.2.1, h.2.2.1, h.2.2.2.ext hE⟩
theorem ix_cells : Tryz.prog.cellsOf 27 = 2 := by kernel_rfl
set_option maxRecDepth 1000000 in
theorem open_ix_cs {H : Type} {enc : TypeId × Value → H} {W : World} {fuel : Nat} {cs : List Value} {x : DataW H × List MemPlace} (hl : cs.length = 2) (hf : DataW.trod enc Tryz.prog W 0 (fun _ => true) true fuel 27 cs = some x) :
    ∃ m : IxV, cs = [.slice m.a1 m.n1 m.c1, .slice m.a2 m.n2 m.c2] ∧ m.lies W := by
  obtain ⟨d, p⟩ := x
  obtain ⟨xs, q, _, _, _, hlx, hxs⟩ := DataW.trod_struct Tryz.underlying27 hf
  have c0 : Tryz.prog.cellsOf 24 = 1 := by kernel_rfl
  have c1 : Tryz.prog.cellsOf 25 = 1 := by kernel_rfl
  match cs, hl, xs, hlx with
  | [v0, v1], _, [(d0, p0), (d1, p1)], _ =>
    have g0 := hxs 0 _ rfl
    have g1 := hxs 1 _ rfl
    simp [c0, c1] at g0 g1
    have s0 : ∃ a n c, v0 = .slice a n c := by
      rcases Deep.open_slice1 Tryz.underlying24 (by kernel_rfl) g0 with ⟨hcs, _⟩ | ⟨x, n', c', m, k, V, D, Pl, hcs, _⟩
      · exact ⟨none, 0, 0, by simpa using hcs⟩
      · exact ⟨_, _, _, by simpa using hcs⟩
    have s1 : ∃ a n c, v1 = .slice a n c := by
      rcases Deep.open_slice1 Tryz.underlying25 (by kernel_rfl) g1 with ⟨hcs, _⟩ | ⟨x, n', c', m, k, V, D, Pl, hcs, _⟩
      · exact ⟨none, 0, 0, by simpa using hcs⟩
      · exact ⟨_, _, _, by simpa using hcs⟩
    obtain ⟨a1, n1, k1, rfl⟩ := s0
    obtain ⟨a2, n2, k2, rfl⟩ := s1
    obtain ⟨T, t1, t2, t3⟩ := open_texts (a := a1) (n := n1) (c := k1) ⟨_, g0⟩
    obtain ⟨U, u1, u2, u3⟩ := open_intss (a := a2) (n := n2) (c := k2) ⟨_, g1⟩
    exact ⟨⟨a1, n1, k1, a2, n2, k2, ⟨T, U⟩⟩, rfl, ⟨t1, t2, t3⟩, u1, u2, u3⟩
theorem open_ix {H : Type} {enc : TypeId × Value → H} {W : World} {cs : Array Value} {d : DataW H} {p : List MemPlace} (hs : cs.size = Tryz.prog.cellsOf 27) (h : DataW.Trod enc Tryz.prog W 0 (fun _ => true) true 27 (.agg cs) d p) :
    ∃ m : IxV, cs = #[.slice m.a1 m.n1 m.c1, .slice m.a2 m.n2 m.c2] ∧ m.lies W := by
  obtain ⟨fuel, hf⟩ := h
  obtain ⟨m, he, hm⟩ := open_ix_cs (cs := cs.toList) (by rw [Array.length_toList, hs, ix_cells]) hf
  exact ⟨m, by rw [← Array.toArray_toList (xs := cs), he], hm⟩
end Go.Proofs.YtcphapdjimeoaaaGreat

namespace Go.Proofs.YtcphapdjimeoaaaGreat
open Go.RowKit

/-- Two rows of the call's own that hold values of different types lie in different blocks. -/
theorem ownsRow_apart {w : World} {b1 b2 : Nat} {e1 e2 : TypeId} {s1 s2 : Nat} {v1 v2 : Value} {n1 n2 : Nat} {x1 x2 : List Value} (h1 : w.ownsRow b1 e1 s1 v1 n1 x1) (h2 : w.ownsRow b2 e2 s2 v2 n2 x2) (ht : e1 ≠ e2) : v1.ownBlock = none ∨ v1.ownBlock ≠ v2.ownBlock := by
  rcases h1.2 with ⟨rfl, _⟩ | ⟨g1, _, _, rfl, _, hg1, _⟩
  · exact .inl rfl
  rcases h2.2 with ⟨rfl, _⟩ | ⟨g2, _, _, rfl, _, hg2, _⟩
  · exact .inr (by simp [Value.ownBlock])
  · refine .inr fun e => ?_
    simp only [Value.ownBlock, Option.some.injEq] at e
    subst e
    rw [hg1] at hg2
    simp only [Option.some.injEq, Obj.cells.injEq] at hg2
    exact ht hg2.2.1
theorem OwnI.lower {w : World} {base b' : Nat} {v : Value} {L : List Int} (h : OwnI w base v L) (hb : b' ≤ base) : OwnI w b' v L := ⟨h.1, h.2.imp_right fun ⟨g, cap, cur, e, hg, r⟩ => ⟨g, cap, cur, e, Nat.le_trans hb hg, r⟩⟩
/-- v is nil, or lies in a block of the call's own, and its elements are the call's own and read as these lists. -/
def OwnLs (w : World) (base : Nat) (v : Value) (ls : List (List Int)) : Prop :=
  ∃ vs : List Value, vs.length = ls.length ∧ w.ownsRow base 43 1 v vs.length vs ∧ ∀ i, i < ls.length → OwnI w base (vs.getD i undef) (ls.getD i [])
theorem ints_type : 43 ≠ 3 := by decide
theorem ints_info : (Tryz.prog.info? 43).map (fun i => (i.zero, i.size, i.bytes)) = some (some (.slice none 0 0), 1, 24) := by kernel_rfl
theorem OwnLs.nil (w : World) (base : Nat) : OwnLs w base (.slice none 0 0) [] := ⟨[], rfl, World.ownsRow_nil w base _ _, fun i hi => by simp at hi⟩
theorem OwnLs.ext {w w' : World} {base : Nat} {v : Value} {ls : List (List Int)} (h : OwnLs w base v ls) (hE : Ext w w') : OwnLs w' base v ls := by
  obtain ⟨vs, h1, h2, h3⟩ := h
  exact ⟨vs, h1, World.ownsRow.kept h2 (hE.grown none) (by cases hv : v.ownBlock <;> simp), fun i hi => (h3 i hi).ext hE⟩
theorem OwnLs.lt {w : World} {base : Nat} {v : Value} {ls : List (List Int)} (h : OwnLs w base v ls) : ∀ k, v.ownBlock = some k → base ≤ k ∧ k < w.heap.size := by
  obtain ⟨vs, h1, h2, h3⟩ := h
  exact World.ownsRow.lt h2
theorem OwnLs.kept {w w' : World} {base : Nat} {v : Value} {ls : List (List Int)} {b : Nat} {t : TypeId} {cs : Array Value} (h : OwnLs w base v ls) (hW : Whole w b t cs) (h1 : t ≠ 43) (h2 : t ≠ 3) (hG : w.grownBy w' (some b)) : OwnLs w' base v ls := by
  obtain ⟨vs, q1, q2, q3⟩ := h
  have key : ∀ {e : TypeId} {s : Nat} {v : Value} {n : Nat} {x : List Value}, w.ownsRow base e s v n x → t ≠ e → v.ownBlock = none ∨ v.ownBlock ≠ some b := fun {e s v n x} hr ht => by
    rcases hr.2 with ⟨rfl, _⟩ | ⟨g, _, _, rfl, _, hg, _⟩
    · exact .inl rfl
    · refine .inr fun e => ?_
      simp only [Value.ownBlock, Option.some.injEq] at e
      subst e
      unfold Whole at hW
      rw [hW] at hg
      simp only [Option.some.injEq, Obj.cells.injEq] at hg
      exact ht hg.2.1
  exact ⟨vs, q1, World.ownsRow.kept q2 hG (key q2 h1), fun i hi => World.ownsRow.kept (q3 i hi) hG (key (q3 i hi) h2)⟩
theorem OwnLs.form {w : World} {base : Nat} {v : Value} {ls : List (List Int)} (h : OwnLs w base v ls) : ∃ A c, v = .slice A ls.length c ∧ ls.length ≤ c ∧ c ≤ maxLen ∧ ILists w w.heap.size A ls.length ls := by
  have hl := h.lt
  obtain ⟨vs, q1, q2, q3⟩ := h
  have hrow : ∀ i, i < ls.length → IRow w w.heap.size (vs.getD i undef) (ls.getD i []) := fun i hi => by
    obtain ⟨A, c, e, h1, h2, h3⟩ := (q3 i hi).form2
    exact ⟨A, c, e, h1, h2, h3⟩
  rcases q2.2 with ⟨rfl, h0⟩ | ⟨g, cap, cur, rfl, hb, hg, hn, hc, hs, ht⟩
  · exact ⟨none, 0, by rw [← q1, h0], by omega, by unfold maxLen; omega, rfl, .inl (by omega)⟩
  · refine ⟨_, cap, by rw [q1], by omega, hc, rfl, .inr ⟨g, 0, rfl, (hl g rfl).2, fun i hi => ⟨_, ?_, hrow i hi⟩⟩⟩
    have hk := World.ownsRow.cellAt q2 i (by omega)
    rw [Nat.zero_add, hk, List.getD_eq_getElem?_getD, List.getElem?_eq_getElem (by omega)]
    rfl
section
variable {o : Oper} {a : Act} {Q : Exit → Act → World → Prop} {w : World} {base : Nat} {v : Value} {ls : List (List Int)}
/-- append of one list, whose slice lies in a block of its own. -/
theorem wpList_appLs {ops : Array Oper} {rest : List Oper} (hgd : o.guard = none) (s x : Operand) (ho : o.op = .call { callee := .builtin .append, args := #[s, x], argTypes := #[25, 25] }) (hs : a.eval s = v) {u : Value} {p : List Int} (hown : OwnLs w base v ls) (hu : OwnI w base u p)
    {c : Nat} (hx : a.eval x = .slice (some ⟨w.heap.size, 0, none⟩) 1 c) (hlen : ls.length ≤ 1000000) (hbase : base ≤ w.heap.size)
    (h : ∀ v' w', OwnLs w' base v' (ls ++ [p]) → (w.alloc (.cells #[u] 43)).grownBy w' v.ownBlock → NewOb (w.alloc (.cells #[u] 43)) v.ownBlock v'.ownBlock → wpList Tryz.prog ops Q rest (a.put o.dst v') w') :
    wpList Tryz.prog ops Q (o :: rest) a (w.alloc (.cells #[u] 43)) := by
  have hE := extNew w (.cells #[u] 43)
  obtain ⟨vs, q1, q2, q3⟩ := hown.ext hE
  have hu' := hu.ext hE
  obtain ⟨A, cu, eu, -, -, -⟩ := hu.form2
  obtain ⟨i, hi, hz, hsz, hby⟩ := info_parts ints_info
  refine wpList_append_own_at _ hgd s x 25 ho base 43 i _ 1 24 Tryz.underlying25 hi hz hsz hby rfl (by omega) v vs.length vs hs q2 ⟨w.heap.size, 0, none⟩ 1 c [u] hx rfl (by
    intro j z hz
    match j, hz with
    | 0, hz =>
      have : (⟨w.heap.size, 0, none⟩ : Addr).add 0 = ⟨w.heap.size, 0, none⟩ := rfl
      rw [this, cellNew]
      simpa using hz
    | j + 1, hz => simp at hz) (by
    intro z hz
    simp at hz
    subst hz
    subst eu
    rfl) (by unfold maxLen; omega) (by omega) (by simp; omega) ?_
  intro v' w' h2 h3 _ h5
  have keep : ∀ {z : Value} {l : List Int}, OwnI (w.alloc (.cells #[u] 43)) base z l → OwnI w' base z l := fun {z l} hz => World.ownsRow.kept hz h3 (ownsRow_apart hz q2 (fun e => ints_type e.symm))
  refine h v' w' ⟨vs ++ [u], by simp [q1], by rw [List.length_append]; exact h2, fun i hi => ?_⟩ h3 (h5.imp id fun h => ⟨_, h, Nat.le_refl _⟩)
  rw [List.length_append, List.length_singleton] at hi
  by_cases hlt : i < ls.length
  · have e1 : (vs ++ [u]).getD i undef = vs.getD i undef := by simp [List.getD_eq_getElem?_getD, List.getElem?_append_left (show i < vs.length by omega)]
    have e2 : (ls ++ [p]).getD i [] = ls.getD i [] := by simp [List.getD_eq_getElem?_getD, List.getElem?_append_left hlt]
    rw [e1, e2]
    exact keep (q3 i hlt)
  · obtain rfl : i = ls.length := by omega
    have e1 : (vs ++ [u]).getD ls.length undef = u := by rw [← q1]; simp [List.getD_eq_getElem?_getD]
    have e2 : (ls ++ [p]).getD ls.length [] = p := by simp [List.getD_eq_getElem?_getD]
    rw [e1, e2]
    exact keep hu'
end
end Go.Proofs.YtcphapdjimeoaaaGreat

namespace Go.Proofs.YtcphapdjimeoaaaGreat
namespace Pst

theorem lists_at {bound : Int} {b : List UInt8} (hb : 0 ≤ bound ∧ bound ≤ 20000) : ∀ (ls : List (List Int)) (pre post : List UInt8), b = pre ++ (ls.flatMap (Ef.rowB bound) ++ post) → (∀ l, l ∈ ls → listOk bound l = true) →
    listsR bound b ls.length pre.length = (ls, pre.length + (ls.flatMap (Ef.rowB bound)).length, 0)
  | [], pre, post, _, _ => by simp [listsR]
  | l :: t, pre, post, h, hl => by
    have h0 := hl l (by simp)
    unfold listOk at h0
    rw [Bool.and_eq_true] at h0
    have hne : l ≠ [] := of_decide_eq_true h0.1
    have hw : Ef.writeE bound l = (Ef.rowB bound l, 0) := by unfold Ef.writeE; rw [if_pos ⟨hb, h0.2⟩]
    have hd : b.drop pre.length = Ef.rowB bound l ++ (t.flatMap (Ef.rowB bound) ++ post) := by
      rw [h, List.drop_left, List.flatMap_cons, List.append_assoc]
    have hr := Ef.read_back (bound := bound) (ids := l) (by rw [hw]) (t.flatMap (Ef.rowB bound) ++ post)
    rw [hw] at hr
    dsimp only at hr
    rw [← hd] at hr
    have ih := lists_at (b := b) hb t (pre ++ Ef.rowB bound l) post (by rw [h, List.flatMap_cons]; simp) (fun x hx => hl x (by simp [hx]))
    rw [List.length_append] at ih
    rw [List.length_cons, listsR, hr]
    dsimp only
    rw [if_neg (by simp), if_neg hne, ih]
    dsimp only
    rw [if_neg (by simp), List.flatMap_cons, List.length_append, Nat.add_assoc]
theorem lists_is {bound : Int} {b : List UInt8} (hb : 0 ≤ bound ∧ bound ≤ 20000) : ∀ (n q : Nat) (ls : List (List Int)) (q' : Nat), q ≤ b.length → listsR bound b n q = (ls, q', 0) →
    ls.length = n ∧ (∀ l, l ∈ ls → listOk bound l = true) ∧ q ≤ q' ∧ q' ≤ b.length ∧ b.drop q = ls.flatMap (Ef.rowB bound) ++ b.drop q'
  | 0, q, ls, q', hq, h => by
    simp only [listsR, Prod.mk.injEq, and_true] at h
    obtain ⟨h1, h2⟩ := h
    subst h1 h2
    exact ⟨rfl, by simp, Nat.le_refl _, hq, by simp⟩
  | n + 1, q, ls, q', hq, h => by
    rw [listsR] at h
    split at h
    · rename_i he
      obtain ⟨-, h⟩ := Prod.mk.inj h
      exact absurd (Prod.mk.inj h).2 he
    rename_i he
    split at h
    · obtain ⟨-, h⟩ := Prod.mk.inj h
      exact absurd (Prod.mk.inj h).2 (by decide)
    rename_i hne
    split at h
    · rename_i hf
      obtain ⟨-, h⟩ := Prod.mk.inj h
      exact absurd (Prod.mk.inj h).2 hf
    rename_i hf
    obtain ⟨l, m, er, hr⟩ : ∃ l m er, Ef.readE bound (b.drop q) = (l, m, er) := ⟨_, _, _, rfl⟩
    rw [hr] at h he hne hf
    dsimp only at h he hne hf
    have her : er = 0 := by omega
    subst her
    obtain ⟨h1, h2⟩ := Ef.read_one hr
    rw [List.length_drop] at h2
    obtain ⟨ls2, q2, er2, hr2⟩ : ∃ u v z, listsR bound b n (q + m) = (u, v, z) := ⟨_, _, _, rfl⟩
    rw [hr2] at h hf
    dsimp only at h hf
    have her2 : er2 = 0 := by omega
    subst her2
    obtain ⟨e1, h⟩ := Prod.mk.inj h
    obtain ⟨e2, -⟩ := Prod.mk.inj h
    subst e1 e2
    obtain ⟨g1, g2, g3, g4, g5⟩ := lists_is hb n (q + m) ls2 q2 (by omega) hr2
    have hrow : Ef.row bound l = true ∧ Ef.rowB bound l = (b.drop q).take m := by
      unfold Ef.writeE at h1
      split at h1
      · rename_i hc
        exact ⟨hc.2, (Prod.mk.inj h1).1⟩
      · exact absurd (Prod.mk.inj h1).2 (by decide)
    refine ⟨by simp [g1], fun x hx => ?_, by omega, g4, ?_⟩
    · rcases List.mem_cons.1 hx with rfl | hx
      · unfold listOk
        rw [Bool.and_eq_true]
        exact ⟨decide_eq_true hne, hrow.1⟩
      · exact g2 x hx
    · rw [List.flatMap_cons, List.append_assoc, ← g5, hrow.2, ← List.drop_drop, List.take_append_drop]
theorem may_facts {bound : Int} {x : Ix} (h : mayE bound x = true) : (0 ≤ bound ∧ bound ≤ 20000) ∧ x.terms.length = x.lists.length ∧ Dic.mayD x.terms = true ∧ ∀ l, l ∈ x.lists → listOk bound l = true := by
  unfold mayE at h
  rw [Bool.and_eq_true, Bool.and_eq_true] at h
  have h1 := of_decide_eq_true h.1
  exact ⟨⟨h1.1, h1.2.1⟩, h1.2.2, h.2.1, List.all_eq_true.1 h.2.2⟩
theorem may_of {bound : Int} {x : Ix} (h : 0 ≤ bound ∧ bound ≤ 20000) (h2 : x.terms.length = x.lists.length) (h3 : Dic.mayD x.terms = true) (h4 : ∀ l, l ∈ x.lists → listOk bound l = true) : mayE bound x = true := by
  unfold mayE
  rw [Bool.and_eq_true, Bool.and_eq_true]
  exact ⟨decide_eq_true ⟨h.1, h.2, h2⟩, h3, List.all_eq_true.2 h4⟩
/-- What was written is read. -/
theorem read_back {size bound : Int} {x : Ix} (h : (bytesE size bound x).2 = 0) : readE size bound (bytesE size bound x).1 = (x, 0) := by
  unfold bytesE at h ⊢
  split at h
  · exact absurd h (by decide)
  rename_i hc
  rw [if_neg hc]
  have hm : mayE bound x = true := by cases hm : mayE bound x with
    | true => rfl
    | false => exact absurd (.inr (.inr hm)) hc
  obtain ⟨hb, hl, hd, ho⟩ := may_facts hm
  have r1 := Dic.read_back (size := size.toNat) (by omega) (by omega) hd (x.lists.flatMap (Ef.rowB bound))
  have r2 := lists_at (b := Dic.dictB size.toNat x.terms ++ x.lists.flatMap (Ef.rowB bound)) hb x.lists (Dic.dictB size.toNat x.terms) [] (by simp) ho
  unfold readE
  dsimp only
  rw [if_neg (by omega), r1]
  dsimp only
  rw [if_neg (by simp), hl, r2]
  dsimp only
  rw [if_neg (by simp), if_neg (by rw [List.length_append]; omega)]
/-- What is read is as it is written. -/
theorem read_one {size bound : Int} {b : List UInt8} {x : Ix} (h : readE size bound b = (x, 0)) : mayE bound x = true ∧ bytesE size bound x = (b, 0) := by
  unfold readE at h
  split at h
  · exact absurd (Prod.mk.inj h).2 (by decide)
  rename_i hs
  obtain ⟨t, m, er, hr⟩ : ∃ t m er, Dic.readR b size.toNat = (t, m, er) := ⟨_, _, _, rfl⟩
  rw [hr] at h
  dsimp only at h
  split at h
  · rename_i he; exact absurd (Prod.mk.inj h).2 he
  rename_i he
  have her : er = 0 := by omega
  subst her
  obtain ⟨d1, d2, d3⟩ := Dic.read_one (by omega) hr
  obtain ⟨ls, q, er2, hr2⟩ : ∃ u v z, listsR bound b t.length m = (u, v, z) := ⟨_, _, _, rfl⟩
  rw [hr2] at h
  dsimp only at h
  split at h
  · rename_i he; exact absurd (Prod.mk.inj h).2 he
  rename_i he2
  have her2 : er2 = 0 := by omega
  subst her2
  split at h
  · exact absurd (Prod.mk.inj h).2 (by decide)
  rename_i hq
  have e1 := (Prod.mk.inj h).1
  subst e1
  obtain ⟨g1, g2, g3, g4, g5⟩ := lists_is (by omega) t.length m ls q d2 hr2
  have hm : mayE bound ⟨t, ls⟩ = true := may_of (by omega) g1.symm d1 g2
  refine ⟨hm, ?_⟩
  unfold bytesE
  rw [if_neg (by rw [hm]; simp; omega)]
  have e : b.drop q = [] := List.drop_eq_nil_of_le (by omega)
  rw [e, List.append_nil] at g5
  dsimp only
  rw [d3, ← g5, List.take_append_drop]
end Pst
end Go.Proofs.YtcphapdjimeoaaaGreat

namespace Go.Proofs.YtcphapdjimeoaaaGreat
open Go.RowKit Num Ef

theorem Ef.wid_is {q j : Nat} (h : j = 0 ∨ 2 ^ j ≤ q) (h2 : q < 2 ^ (j + 1)) : wid q = j := by
  unfold wid
  rcases Nat.eq_zero_or_pos q with e | e
  · subst e
    rcases h with h | h
    · subst h; rfl
    · have := Nat.pow_pos (n := j) (show 0 < 2 by omega); omega
  · refine (Nat.log2_eq_iff (by omega)).2 ⟨?_, h2⟩
    rcases h with h | h
    · subst h; rw [Nat.pow_zero]; omega
    · exact h
/-- What Next tells: the place, the number. -/
def Ef.nextE (ids : List Int) (x : Int) : Int × Int × Bool :=
  match (List.range ids.length).find? fun i => decide (x ≤ ids.getD i 0) with
  | some i => ((i : Int), ids.getD i 0, true)
  | none => (0, 0, false)
theorem Ef.find_first {p : Nat → Bool} : ∀ {n i : Nat}, i < n → p i = true → (∀ j, j < i → p j = false) → (List.range n).find? p = some i
  | 0, i, h, _, _ => by omega
  | n + 1, i, h, hp, ha => by
    rw [List.range_succ, List.find?_append]
    rcases Nat.lt_or_ge i n with hi | hi
    · rw [find_first hi hp ha]; rfl
    · obtain rfl : i = n := by omega
      have : (List.range i).find? p = none := List.find?_eq_none.2 fun j hj => by rw [ha j (List.mem_range.1 hj)]; simp
      rw [this]
      simp [hp]
theorem Ef.next_at {ids : List Int} {x : Int} {i : Nat} (hi : i < ids.length) (h : x ≤ ids.getD i 0) (ha : ∀ j, j < i → ids.getD j 0 < x) : nextE ids x = ((i : Int), ids.getD i 0, true) := by
  unfold nextE
  have e : (List.range ids.length).find? (fun i => decide (x ≤ ids.getD i 0)) = some i := find_first hi (decide_eq_true h) fun j hj => decide_eq_false (by have := ha j hj; omega)
  rw [e]
theorem Ef.next_none {ids : List Int} {x : Int} (ha : ∀ j, j < ids.length → ids.getD j 0 < x) : nextE ids x = (0, 0, false) := by
  unfold nextE
  have : (List.range ids.length).find? (fun i => decide (x ≤ ids.getD i 0)) = none := List.find?_eq_none.2 fun j hj => by
    have := ha j (List.mem_range.1 hj)
    rw [decide_eq_false (by omega)]
    simp
  rw [this]

set_option maxHeartbeats 1000000 in
set_option maxRecDepth 100000 in
theorem refMay13_any (A : Option Addr) (n c : Nat) (L : List Int) (bound : Int) (w : World) (h : IntsAt w w.heap.size A n L) (hn : n ≤ 1000000) :
    Calls Tryz.prog 27 #[.int .i64 bound, .slice A n c] w fun e w' => e = .returned (.bool (row bound L)) ∧ Ext w w' := by
  have hl := h.1
  have HA := hide h
  have HYes := hide (show (∀ i, i < n → 0 ≤ L.getD i 0 ∧ L.getD i 0 < bound ∧ (0 < i → L.getD (i - 1) 0 < L.getD i 0)) → row bound L = true from fun h => decide_eq_true (by rw [hl]; exact h))
  have HNo := hide (show ∀ i, i < n → ¬ (0 ≤ L.getD i 0 ∧ L.getD i 0 < bound ∧ (0 < i → L.getD (i - 1) 0 < L.getD i 0)) → row bound L = false from fun i hi h => decide_eq_false fun e => h (e i (by omega)))
  generalize row bound L = res at *
  clear h hl
  go_enter Tryz.func27, Tryz.ntmps27
  go_wp2
  go_loopw [5] (fun x wr => ∃ i : Nat, i ≤ n ∧ x = .int .i64 (i : Int) ∧ (∀ j, j < i → 0 ≤ L.getD j 0 ∧ L.getD j 0 < bound ∧ (0 < j → L.getD (j - 1) 0 < L.getD j 0)) ∧ Qt w wr) (fun x _ => n - (intOf x).toNat)
  case atStart => exact ⟨0, by omega, rfl, fun j hj => absurd hj (by omega), Qt.refl _⟩
  case round =>
    obtain ⟨i, hi, rfl, hall, hQ⟩ := hrel
    have HAll := hide hall
    clear hall
    by_cases hlt : i < n
    · have hiI : (i : Int) < (n : Int) := by omega
      rcases (HA.out.later hQ.ext).2 with hn0 | ⟨b1, o1, rfl, _, hc1⟩
      · omega
      have e1 := hc1 i hlt
      have HNi := hide (HNo.out i hlt)
      have HNext := hide (show (0 ≤ L.getD i 0 ∧ L.getD i 0 < bound ∧ (0 < i → L.getD (i - 1) 0 < L.getD i 0)) → ∀ j, j < i + 1 → 0 ≤ L.getD j 0 ∧ L.getD j 0 < bound ∧ (0 < j → L.getD (j - 1) 0 < L.getD j 0) from fun h j hj => by
        by_cases e : j = i
        · rw [e]; exact h
        · exact HAll.out j (by omega))
      rcases Nat.eq_zero_or_pos i with hi0 | hi0
      · obtain ⟨y, hy⟩ : ∃ y, y = L.getD i 0 := ⟨_, rfl⟩
        rw [← hy] at e1 HNi
        have HY := hide hy
        have hd0 : decide ((0 : Int) < (i : Int)) = false := decide_eq_false (by omega)
        have hdn : decide (0 < i) = false := decide_eq_false (by omega)
        have HI0 := hide hi0
        clear hc1 hy hi0
        by_cases g1 : y < 0
        · have hd1 : decide (y < 0) = true := decide_eq_true g1
          have HR := hide (HNi.out fun h => by omega)
          clear HNext HNi
          go_wp2_with fail
          go_quiet (fail)
          go_wp2
          go_ret
          exact ⟨ret_bool HR.out.symm, (hQ.drewN _).ext⟩
        have hd1 : decide (y < 0) = false := decide_eq_false g1
        by_cases g2 : y < bound
        · have hg2 : ¬ bound ≤ y := by omega
          have hd2 : decide (bound ≤ y) = false := decide_eq_false hg2
          have hNx := hide (HNext.out (by rw [← HY.out]; exact ⟨by omega, g2, fun h => absurd h (by have := HI0.out; omega)⟩))
          clear HNext HNi
          go_wp2_with fail
          go_quiet (fail)
          go_wp2
          go_roundw
          case rel => exact ⟨i + 1, by omega, by go_num, hNx.out, hQ.drewN _⟩
          case measure => simp [intOf]; omega
        · have hg2 : bound ≤ y := by omega
          have hd2 : decide (bound ≤ y) = true := decide_eq_true hg2
          have HR := hide (HNi.out fun h => g2 h.2.1)
          clear HNext HNi
          go_wp2_with fail
          go_quiet (fail)
          go_wp2
          go_ret
          exact ⟨ret_bool HR.out.symm, (hQ.drewN _).ext⟩
      · obtain ⟨k, rfl⟩ : ∃ k, i = k + 1 := ⟨i - 1, by omega⟩
        have e2 := hc1 k (by omega)
        rw [Nat.add_sub_cancel] at HNi HNext
        obtain ⟨y, hy⟩ : ∃ y, y = L.getD (k + 1) 0 := ⟨_, rfl⟩
        obtain ⟨z, hz⟩ : ∃ z, z = L.getD k 0 := ⟨_, rfl⟩
        rw [← hy] at e1 HNi HNext
        rw [← hz] at e2 HNi HNext
        have hk : ((k + 1 : Nat) : Int) - 1 = (k : Int) := by omega
        have hk0 : (0 : Int) < ((k + 1 : Nat) : Int) := by omega
        have hd0 : decide ((0 : Int) < ((k + 1 : Nat) : Int)) = true := decide_eq_true hk0
        clear hc1 hy hz
        by_cases g1 : y < 0
        · have hd1 : decide (y < 0) = true := decide_eq_true g1
          have HR := hide (HNi.out fun h => by omega)
          clear HNext HNi
          go_wp2_with fail
          go_quiet (fail)
          go_wp2
          go_ret
          exact ⟨ret_bool HR.out.symm, (hQ.drewN _).ext⟩
        have hd1 : decide (y < 0) = false := decide_eq_false g1
        by_cases g2 : y < bound
        · have hg2 : ¬ bound ≤ y := by omega
          have hd2 : decide (bound ≤ y) = false := decide_eq_false hg2
          by_cases g3 : z < y
          · have hg3 : ¬ y ≤ z := by omega
            have hd3 : decide (y ≤ z) = false := decide_eq_false hg3
            have hNx := hide (HNext.out ⟨by omega, g2, fun _ => g3⟩)
            clear HNext HNi
            go_wp2_with fail
            go_quiet (fail)
            go_wp2
            go_roundw
            case rel => exact ⟨k + 1 + 1, by omega, by go_num, hNx.out, hQ.drewN _⟩
            case measure => simp [intOf]; omega
          · have hg3 : y ≤ z := by omega
            have hd3 : decide (y ≤ z) = true := decide_eq_true hg3
            have HR := hide (HNi.out fun h => g3 (h.2.2 (by omega)))
            clear HNext HNi
            go_wp2_with fail
            go_quiet (fail)
            go_wp2
            go_ret
            exact ⟨ret_bool HR.out.symm, (hQ.drewN _).ext⟩
        · have hg2 : bound ≤ y := by omega
          have hd2 : decide (bound ≤ y) = true := decide_eq_true hg2
          have HR := hide (HNi.out fun h => g2 h.2.1)
          clear HNext HNi
          go_wp2_with fail
          go_quiet (fail)
          go_wp2
          go_ret
          exact ⟨ret_bool HR.out.symm, (hQ.drewN _).ext⟩
    · obtain rfl : n = i := by omega
      have HN := hide (HYes.out HAll.out)
      go_wp2
      go_ret
      exact ⟨ret_bool HN.out.symm, hQ.ext⟩

def WidTo (q : Nat) (e : Ending) : Prop := ∃ p : Nat, p = 2 ^ wid q ∧ e = .returned (.tuple #[.int .i64 (wid q : Int), .int .i64 (p : Int)])
set_option maxHeartbeats 1000000 in
set_option maxRecDepth 100000 in
theorem refWidth_any (q : Nat) (w : World) (hq : q ≤ 20000) : Calls Tryz.prog 42 #[.int .i64 (q : Int)] w fun e w' => WidTo q e ∧ w' = w := by
  go_enter Tryz.func42, Tryz.ntmps42
  go_wp2
  go_loopw [4, 5] (fun x y wr => ∃ j : Nat, x = .int .i64 (j : Int) ∧ y = .int .i64 ((2 ^ j : Nat) : Int) ∧ (j = 0 ∨ 2 ^ j ≤ q) ∧ j ≤ 20 ∧ wr = w) (fun x _ _ => 20 - (intOf x).toNat)
  case atStart => exact ⟨0, rfl, rfl, .inl rfl, by omega, rfl⟩
  case round =>
    obtain ⟨j, rfl, rfl, hj, hj2, rfl⟩ := hrel
    obtain ⟨p, hp⟩ : ∃ p, p = 2 ^ j := ⟨_, rfl⟩
    have hp1 : 0 < p := by rw [hp]; exact Nat.pow_pos (by omega)
    have hps : 2 ^ (j + 1) = 2 * p := by rw [Nat.pow_succ, hp]; omega
    have hpq : p ≤ 20000 := by
      rcases hj with h | h
      · subst h; rw [hp]; simp
      · omega
    rw [← hp] at hj ⊢
    by_cases hlt : 2 * p ≤ q
    · have hI : 2 * (p : Int) ≤ (q : Int) := by omega
      have hj15 : j < 20 := by
        refine Decidable.byContradiction fun h => ?_
        have : 2 ^ 20 ≤ 2 ^ j := Nat.pow_le_pow_right (by omega) (by omega)
        omega
      have HP := hide hp
      have HPS := hide hps
      clear hp hps
      go_wp2
      go_roundw
      case rel => exact ⟨j + 1, by go_num, (by rw [HPS.out]; go_num), .inr (by rw [HPS.out]; exact hlt), by omega, trivial⟩
      case measure => simp [intOf]; omega
    · have hI : ¬ 2 * (p : Int) ≤ (q : Int) := by omega
      have HW := hide (wid_is (q := q) (j := j) (by rw [← hp]; exact hj) (by omega))
      have HP := hide hp
      clear hp hps
      go_wp2
      go_ret2
      exact ⟨⟨p, by rw [HW.out]; exact HP.out, by rw [HW.out]; rfl⟩, rfl⟩

end Go.Proofs.YtcphapdjimeoaaaGreat

namespace Go.Proofs.YtcphapdjimeoaaaGreat
open Go.RowKit Pst

/-- Is an index more than statements look at? -/
def Pst.greatX (x : Ix) : Bool := decide (100 < x.terms.length ∨ 100 < x.lists.length ∨ (∃ i, i < x.terms.length ∧ 60 < (x.terms.getD i []).length) ∨ ∃ i, i < x.lists.length ∧ 100 < (x.lists.getD i []).length)
theorem Pst.great_no {x : Ix} (h : greatX x = false) : x.terms.length ≤ 100 ∧ x.lists.length ≤ 100 ∧ (∀ s, s ∈ x.terms → s.length ≤ 60) ∧ ∀ l, l ∈ x.lists → l.length ≤ 100 := by
  have h := of_decide_eq_false h
  refine ⟨Nat.le_of_not_lt fun e => h (.inl e), Nat.le_of_not_lt fun e => h (.inr (.inl e)), fun s hs => ?_, fun l hl => ?_⟩
  · obtain ⟨i, hi, rfl⟩ := List.getElem_of_mem hs
    exact Nat.le_of_not_lt fun e => h (.inr (.inr (.inl ⟨i, hi, by rw [List.getD_eq_getElem?_getD, List.getElem?_eq_getElem hi]; exact e⟩)))
  · obtain ⟨i, hi, rfl⟩ := List.getElem_of_mem hl
    exact Nat.le_of_not_lt fun e => h (.inr (.inr (.inr ⟨i, hi, by rw [List.getD_eq_getElem?_getD, List.getElem?_eq_getElem hi]; exact e⟩)))
attribute [local go_sem ↓] run_txtLen
set_option maxHeartbeats 1000000 in
set_option maxRecDepth 10000 in
theorem refGreat18_any (m : IxV) (w : World) (h : m.lies w) : Calls Tryz.prog 9 #[.agg #[.slice m.a1 m.n1 m.c1, .slice m.a2 m.n2 m.c2]] w fun e w' => e = .returned (.bool (greatX m.x)) ∧ Ext w w' := by
  obtain ⟨a1, n1, c1, a2, n2, c2, x⟩ := m
  obtain ⟨⟨-, -, hT⟩, -, -, hL⟩ := h
  dsimp only at hT hL ⊢
  have hl1 := hT.1
  have hl2 := hL.1
  have HY1 := hide (show 100 < n1 → greatX x = true from fun e => decide_eq_true (.inl (by omega)))
  have HY2 := hide (show 100 < n2 → greatX x = true from fun e => decide_eq_true (.inr (.inl (by omega))))
  have HY3 := hide (show ∀ i, i < n1 → 60 < (x.terms.getD i []).length → greatX x = true from fun i hi e => decide_eq_true (.inr (.inr (.inl ⟨i, by omega, e⟩))))
  have HY4 := hide (show ∀ i, i < n2 → 100 < (x.lists.getD i []).length → greatX x = true from fun i hi e => decide_eq_true (.inr (.inr (.inr ⟨i, by omega, e⟩))))
  have HNo := hide (show ¬ 100 < n1 → ¬ 100 < n2 → (∀ i, i < n1 → ¬ 60 < (x.terms.getD i []).length) → (∀ i, i < n2 → ¬ 100 < (x.lists.getD i []).length) → greatX x = false from fun e1 e2 e3 e4 => decide_eq_false (by
    rintro (e | e | ⟨i, hi, e⟩ | ⟨i, hi, e⟩)
    · omega
    · omega
    · exact e3 i (by omega) e
    · exact e4 i (by omega) e))
  obtain ⟨w1, hw1⟩ : ∃ w1, w1 = w.alloc (.cells #[.slice a1 n1 c1, .slice a2 n2 c2] 27) := ⟨_, rfl⟩
  have HE1 := hide (show Ext w w1 by rw [hw1]; exact extNew w _)
  have HW := hide (show Whole w1 w.heap.size 27 #[.slice a1 n1 c1, .slice a2 n2 c2] by rw [hw1]; exact Whole.new w _ _)
  have HT := hide (hT.later HE1.out)
  have HL := hide (hL.ext HE1.out)
  obtain ⟨T, hTe⟩ : ∃ T, T = x.terms := ⟨_, rfl⟩
  obtain ⟨U, hUe⟩ : ∃ U, U = x.lists := ⟨_, rfl⟩
  rw [← hTe] at HT HY3 HNo
  rw [← hUe] at HL HY4 HNo
  clear hT hL hl1 hl2 hTe hUe
  generalize greatX x = res at *
  by_cases g1 : 100 < n1
  · have g1I : (n1 : Int) > 100 := by omega
    have HR := hide (HY1.out g1)
    clear hw1
    go_enter Tryz.func9, Tryz.ntmps9
    go_wp2
    go_ret
    exact ⟨ret_bool HR.out.symm, extNew w _⟩
  have g1I : ¬ (n1 : Int) > 100 := by omega
  by_cases g2 : 100 < n2
  · have g2I : (n2 : Int) > 100 := by omega
    have HR := hide (HY2.out g2)
    clear hw1
    go_enter Tryz.func9, Tryz.ntmps9
    go_wp2
    go_ret
    exact ⟨ret_bool HR.out.symm, extNew w _⟩
  have g2I : ¬ (n2 : Int) > 100 := by omega
  go_enter Tryz.func9, Tryz.ntmps9
  go_wp2
  rw [← hw1]
  clear hw1
  go_loopw [3] (fun y wr => ∃ i : Nat, i ≤ n1 ∧ y = .int .i64 (i : Int) ∧ (∀ j, j < i → ¬ 60 < (T.getD j []).length) ∧ Ext w1 wr) (fun y _ => n1 - (intOf y).toNat)
  case atStart => exact ⟨0, by omega, rfl, fun j hj => absurd hj (by omega), Ext.refl _⟩
  case round =>
    obtain ⟨i, hi, rfl, hall, hE⟩ := hrel
    have HAll := hide hall
    have HE := hide hE
    have d0 := (HW.out.ext HE.out).at 0 (u := .slice a1 n1 c1) rfl
    have d1 := (HW.out.ext HE.out).at 1 (u := .slice a2 n2 c2) rfl
    clear hall hE
    by_cases hlt : i < n1
    · have hiI : (i : Int) < (n1 : Int) := by omega
      rcases (HT.out.later HE.out).2 with hn0 | ⟨b1, o1, rfl, _, hc1⟩
      · omega
      have e1 := hc1 i hlt
      have HYi := hide (HY3.out i hlt)
      obtain ⟨y, hy⟩ : ∃ y, y = T.getD i [] := ⟨_, rfl⟩
      rw [← hy] at e1 HYi
      have HY := hide hy
      clear hc1 hy
      by_cases g : 60 < y.length
      · have gI : (y.length : Int) > 60 := by omega
        have HR := hide (HYi.out g)
        clear g
        go_wp2
        go_ret
        exact ⟨ret_bool HR.out.symm, HE1.out.trans HE.out⟩
      · have gI : ¬ (y.length : Int) > 60 := by omega
        have HG := hide g
        clear g
        go_wp2
        go_roundw
        case rel => exact ⟨i + 1, by omega, by go_num, fun j hj => (by
          by_cases e : j = i
          · rw [e, ← HY.out]; exact HG.out
          · exact HAll.out j (by omega)), HE.out⟩
        case measure => simp [intOf]; omega
    · have hiI : ¬ (i : Int) < (n1 : Int) := by omega
      obtain rfl : n1 = i := by omega
      obtain ⟨wa, rfl⟩ : ∃ W, W = wr := ⟨_, rfl⟩
      go_wp2
      clear d0 d1
      go_loopw [4] (fun y wr => ∃ i : Nat, i ≤ n2 ∧ y = .int .i64 (i : Int) ∧ (∀ j, j < i → ¬ 100 < (U.getD j []).length) ∧ Ext w1 wr) (fun y _ => n2 - (intOf y).toNat)
      case atStart => exact ⟨0, by omega, rfl, fun j hj => absurd hj (by omega), HE.out⟩
      case round =>
        obtain ⟨i, hi, rfl, hall, hE⟩ := hrel
        have HAl2 := hide hall
        have HE2 := hide hE
        have d1 := (HW.out.ext HE2.out).at 1 (u := .slice a2 n2 c2) rfl
        clear hall hE
        by_cases hlt : i < n2
        · have hiI : (i : Int) < (n2 : Int) := by omega
          obtain ⟨b1, o1, a3, c3, rfl, e1, _, _, _⟩ := (HL.out.ext HE2.out).at hlt
          have HYi := hide (HY4.out i hlt)
          obtain ⟨k, hk⟩ : ∃ k, k = (U.getD i []).length := ⟨_, rfl⟩
          rw [← hk] at e1 HYi
          have HK := hide hk
          clear hk
          by_cases g : 100 < k
          · have gI : (k : Int) > 100 := by omega
            have HR := hide (HYi.out g)
            clear g
            go_wp2
            go_ret
            exact ⟨ret_bool HR.out.symm, HE1.out.trans HE2.out⟩
          · have gI : ¬ (k : Int) > 100 := by omega
            have HG := hide g
            clear g
            go_wp2
            go_roundw
            case rel => exact ⟨i + 1, by omega, by go_num, fun j hj => (by
              by_cases e : j = i
              · rw [e, ← HK.out]; exact HG.out
              · exact HAl2.out j (by omega)), HE2.out⟩
            case measure => simp [intOf]; omega
        · have hiI : ¬ (i : Int) < (n2 : Int) := by omega
          obtain rfl : n2 = i := by omega
          have HN := hide (HNo.out g1 g2 HAll.out HAl2.out)
          go_wp2
          go_ret
          exact ⟨ret_bool HN.out.symm, HE1.out.trans HE2.out⟩
end Go.Proofs.YtcphapdjimeoaaaGreat

namespace Go.Proofs.YtcphapdjimeoaaaGreat
open Go.RowKit Pst

set_option maxHeartbeats 1000000 in
set_option maxRecDepth 10000 in
theorem refMay18_any (bound : Int) (m : IxV) (w : World) (h : m.lies w) (hn : m.n1 ≤ 1000000) (hs : ∀ s, s ∈ m.x.terms → s.length ≤ 1000000) (hls : ∀ l, l ∈ m.x.lists → l.length ≤ 1000000) : Calls Tryz.prog 12 #[.int .i64 bound, .agg #[.slice m.a1 m.n1 m.c1, .slice m.a2 m.n2 m.c2]] w fun e w' => e = .returned (.bool (mayE bound m.x)) ∧ Ext w w' := by
  obtain ⟨a1, n1, c1, a2, n2, c2, x⟩ := m
  obtain ⟨⟨-, -, hT⟩, -, -, hL⟩ := h
  dsimp only at hT hL hn hs hls ⊢
  have hl1 := hT.1
  have hl2 := hL.1
  have HN1 := hide (show (bound < 0 ∨ 20000 < bound ∨ n1 ≠ n2) → mayE bound x = false from fun e => by unfold mayE; rw [decide_eq_false (by omega)]; rfl)
  have HN2 := hide (show Dic.mayD x.terms = false → mayE bound x = false from fun e => by unfold mayE; rw [e]; simp)
  have HN3 := hide (show ∀ i, i < n2 → listOk bound (x.lists.getD i []) = false → mayE bound x = false from fun i hi e => by
    cases hm : mayE bound x with
    | false => rfl
    | true =>
      have h1 := (may_facts hm).2.2.2 (x.lists.getD i []) (by rw [List.getD_eq_getElem?_getD, List.getElem?_eq_getElem (by omega)]; exact List.getElem_mem _)
      rw [e] at h1
      cases h1)
  have HYes := hide (show 0 ≤ bound → bound ≤ 20000 → n1 = n2 → Dic.mayD x.terms = true → (∀ i, i < n2 → listOk bound (x.lists.getD i []) = true) → mayE bound x = true from fun e1 e2 e3 e4 e5 => may_of ⟨e1, e2⟩ (by omega) e4 fun l hl => by
    obtain ⟨i, hi, rfl⟩ := List.getElem_of_mem hl
    have := e5 i (by omega)
    rw [List.getD_eq_getElem?_getD, List.getElem?_eq_getElem hi] at this
    exact this)
  have HLs := hide (show ∀ i, i < n2 → (x.lists.getD i []).length ≤ 1000000 from fun i hi => hls _ (by rw [List.getD_eq_getElem?_getD, List.getElem?_eq_getElem (by omega)]; exact List.getElem_mem _))
  obtain ⟨w1, hw1⟩ : ∃ w1, w1 = w.alloc (.cells #[.slice a1 n1 c1, .slice a2 n2 c2] 27) := ⟨_, rfl⟩
  have HE1 := hide (show Ext w w1 by rw [hw1]; exact extNew w _)
  have HW := hide (show Whole w1 w.heap.size 27 #[.slice a1 n1 c1, .slice a2 n2 c2] by rw [hw1]; exact Whole.new w _ _)
  have HL := hide (hL.ext HE1.out)
  have CM := refMay16_any a1 n1 c1 x.terms w1 (hT.later HE1.out) (by omega) hs
  generalize mayE bound x = res at *
  obtain ⟨U, hUe⟩ : ∃ U, U = x.lists := ⟨_, rfl⟩
  obtain ⟨dd, hd⟩ : ∃ d, d = Dic.mayD x.terms := ⟨_, rfl⟩
  rw [← hUe] at HL HN3 HYes HLs
  rw [← hd] at HN2 HYes CM
  clear hT hL hl1 hl2 hUe hd hs hls
  by_cases g1 : bound < 0
  · have HR := hide (HN1.out (.inl g1))
    clear hw1 CM
    go_enter Tryz.func12, Tryz.ntmps12
    go_wp2
    go_ret
    exact ⟨ret_bool HR.out.symm, extNew w _⟩
  by_cases g2 : 20000 < bound
  · have HR := hide (HN1.out (.inr (.inl g2)))
    clear hw1 CM
    go_enter Tryz.func12, Tryz.ntmps12
    go_wp2
    go_ret
    exact ⟨ret_bool HR.out.symm, extNew w _⟩
  by_cases g3 : n1 ≠ n2
  · have HR := hide (HN1.out (.inr (.inr g3)))
    have gb : ((n1 : Int) != (n2 : Int)) = true := by simp; omega
    clear hw1 CM
    go_enter Tryz.func12, Tryz.ntmps12
    go_wp2
    go_ret
    exact ⟨ret_bool HR.out.symm, extNew w _⟩
  obtain rfl : n1 = n2 := by omega
  clear g3
  have gb : ((n1 : Int) != (n1 : Int)) = false := by simp
  cases dd with
  | false =>
    have HR := hide (HN2.out rfl)
    go_enter Tryz.func12, Tryz.ntmps12
    go_wp2_with fail
    rw [← hw1]
    clear hw1
    refine CM.mono ?_
    rintro e w2 ⟨rfl, hQ2⟩
    have HE2 := hide (HE1.out.trans hQ2.ext)
    clear CM hQ2
    go_wp2
    go_ret
    exact ⟨ret_bool HR.out.symm, HE2.out⟩
  | true =>
    have HYe := hide (HYes.out (by omega) (by omega) rfl rfl)
    clear HN1 HN2 HYes
    go_enter Tryz.func12, Tryz.ntmps12
    go_wp2_with fail
    rw [← hw1]
    clear hw1
    refine CM.mono ?_
    rintro e w2 ⟨rfl, hQ2⟩
    have HE2 := hide hQ2.ext
    clear CM hQ2
    go_wp2
    go_loopw [5] (fun y wr => ∃ i : Nat, i ≤ n1 ∧ y = .int .i64 (i : Int) ∧ (∀ j, j < i → listOk bound (U.getD j []) = true) ∧ Ext w1 wr) (fun y _ => n1 - (intOf y).toNat)
    case atStart => exact ⟨0, by omega, rfl, fun j hj => absurd hj (by omega), HE2.out⟩
    case round =>
      obtain ⟨i, hi, rfl, hall, hE⟩ := hrel
      have HAll := hide hall
      have HE := hide hE
      have d1 := (HW.out.ext HE.out).at 1 (u := .slice a2 n1 c2) rfl
      clear hall hE HE2
      by_cases hlt : i < n1
      · have hiI : (i : Int) < (n1 : Int) := by omega
        obtain ⟨b1, o1, a3, c3, rfl, e1, _, _, q1⟩ := (HL.out.ext HE.out).at hlt
        have C := refMay13_any a3 _ c3 _ bound wr q1 (HLs.out i hlt)
        have HNi := hide (HN3.out i hlt)
        obtain ⟨l, hl⟩ : ∃ l, l = U.getD i [] := ⟨_, rfl⟩
        rw [← hl] at e1 C HNi
        have HLe := hide hl
        have HOk := hide (show listOk bound l = (decide (l ≠ []) && Ef.row bound l) from rfl)
        obtain ⟨k, hk⟩ : ∃ k, k = l.length := ⟨_, rfl⟩
        have HNe := hide (show l = [] ↔ k = 0 by rw [hk, List.length_eq_zero_iff])
        rw [← hk] at e1 C
        clear hl q1 hk
        by_cases gk : k = 0
        · subst gk
          have HR := hide (HNi.out (by rw [HOk.out, HNe.out.2 rfl]; rfl))
          clear HNi C
          go_wp2
          go_ret
          exact ⟨ret_bool HR.out.symm, HE1.out.trans HE.out⟩
        · have gkb : ((k : Int) == 0) = false := by simp; omega
          have HNe2 := hide (show decide (l ≠ []) = true from decide_eq_true fun e => gk (HNe.out.1 e))
          cases hr : Ef.row bound l with
          | false =>
            rw [hr] at C
            have HR := hide (HNi.out (by rw [HOk.out, hr, Bool.and_false]))
            clear HNi hr gk
            go_wp2_with fail
            refine C.mono ?_
            rintro e w3 ⟨rfl, hE3⟩
            clear C
            go_wp2
            go_ret
            exact ⟨ret_bool HR.out.symm, HE1.out.trans (HE.out.trans hE3)⟩
          | true =>
            rw [hr] at C
            have HR := hide (show listOk bound l = true by rw [HOk.out, hr, HNe2.out]; rfl)
            clear HNi hr gk
            go_wp2_with fail
            refine C.mono ?_
            rintro e w3 ⟨rfl, hE3⟩
            clear C
            go_wp2
            go_roundw
            case rel => exact ⟨i + 1, by omega, by go_num, fun j hj => (by
              by_cases e : j = i
              · rw [e, ← HLe.out]; exact HR.out
              · exact HAll.out j (by omega)), HE.out.trans hE3⟩
            case measure => simp [intOf]; omega
      · have hiI : ¬ (i : Int) < (n1 : Int) := by omega
        obtain rfl : n1 = i := by omega
        have HN := hide (HYe.out HAll.out)
        go_wp2
        go_ret
        exact ⟨ret_bool HN.out.symm, HE1.out.trans HE.out⟩
end Go.Proofs.YtcphapdjimeoaaaGreat

namespace Go.Proofs.YtcphapdjimeoaaaGreat
open Go.RowKit Pst

theorem Pst.lists_ext {a b : List (List Int)} (hl : a.length = b.length) (h : ∀ i, i < a.length → a.getD i [] = b.getD i []) : a = b := by
  refine List.ext_getElem hl fun i h1 h2 => ?_
  have := h i h1
  rwa [List.getD_eq_getElem?_getD, List.getD_eq_getElem?_getD, List.getElem?_eq_getElem h1, List.getElem?_eq_getElem h2] at this
set_option maxHeartbeats 1000000 in
set_option maxRecDepth 10000 in
theorem refSame18_any (m m' : IxV) (w : World) (h : m.lies w) (h' : m'.lies w) (hn : m.n1 ≤ 1000000) (hn2 : m.n2 ≤ 1000000) (hls : ∀ l, l ∈ m.x.lists → l.length ≤ 1000000) : Calls Tryz.prog 8 #[.agg #[.slice m.a1 m.n1 m.c1, .slice m.a2 m.n2 m.c2], .agg #[.slice m'.a1 m'.n1 m'.c1, .slice m'.a2 m'.n2 m'.c2]] w fun e w' => e = .returned (.bool (decide (m.x = m'.x))) ∧ Ext w w' := by
  obtain ⟨a1, n1, c1, a2, n2, c2, x⟩ := m
  obtain ⟨b1, k1, d1, b2, k2, d2, y⟩ := m'
  obtain ⟨⟨-, -, hT⟩, -, -, hL⟩ := h
  obtain ⟨⟨-, -, hT'⟩, -, -, hL'⟩ := h'
  dsimp only at hT hL hT' hL' hn hn2 hls ⊢
  obtain ⟨xt, xl⟩ := x
  obtain ⟨yt, yl⟩ := y
  dsimp only at hT hL hT' hL' hls
  have hl1 := hT.1
  have hl2 := hL.1
  have hl3 := hT'.1
  have hl4 := hL'.1
  have HN1 := hide (show xt ≠ yt → decide (Ix.mk xt xl = Ix.mk yt yl) = false from fun e => decide_eq_false fun h => e (by injection h))
  have HN2 := hide (show n2 ≠ k2 → decide (Ix.mk xt xl = Ix.mk yt yl) = false from fun e => decide_eq_false fun h => e (by injection h with _ h; rw [← hl2, ← hl4, h]))
  have HN3 := hide (show ∀ i, xl.getD i [] ≠ yl.getD i [] → decide (Ix.mk xt xl = Ix.mk yt yl) = false from fun i e => decide_eq_false fun h => e (by injection h with _ h; rw [h]))
  have HYes := hide (show xt = yt → n2 = k2 → (∀ i, i < n2 → xl.getD i [] = yl.getD i []) → decide (Ix.mk xt xl = Ix.mk yt yl) = true from fun e1 e2 e3 => decide_eq_true (by rw [e1, lists_ext (by omega) (fun i hi => e3 i (by omega))]))
  have HLs := hide (show ∀ i, i < n2 → (xl.getD i []).length ≤ 1000000 from fun i hi => hls _ (by rw [List.getD_eq_getElem?_getD, List.getElem?_eq_getElem (by omega)]; exact List.getElem_mem _))
  obtain ⟨w1, hw1⟩ : ∃ w1, w1 = w.alloc (.cells #[.slice a1 n1 c1, .slice a2 n2 c2] 27) := ⟨_, rfl⟩
  obtain ⟨w2, hw2⟩ : ∃ w2, w2 = w1.alloc (.cells #[.slice b1 k1 d1, .slice b2 k2 d2] 27) := ⟨_, rfl⟩
  have hE1 : Ext w w1 := by rw [hw1]; exact extNew w _
  have hE2 : Ext w1 w2 := by rw [hw2]; exact extNew w1 _
  have HE2 := hide (hE1.trans hE2)
  have hW1 : Whole w1 w.heap.size 27 #[.slice a1 n1 c1, .slice a2 n2 c2] := by rw [hw1]; exact Whole.new w _ _
  have HW1 := hide (hW1.ext hE2)
  have hsz : w1.heap.size = w.heap.size + 1 := by rw [hw1]; simp
  have hW2 : Whole w2 w1.heap.size 27 #[.slice b1 k1 d1, .slice b2 k2 d2] := by rw [hw2]; exact Whole.new w1 _ _
  rw [hsz] at hW2
  have HW2 := hide hW2
  have HL := hide (hL.ext HE2.out)
  have HL' := hide (hL'.ext HE2.out)
  have CS := refSame15_any a1 b1 c1 d1 xt yt w2 (by rw [hl1]; exact hT.later HE2.out) (by rw [hl3]; exact hT'.later HE2.out) (by omega)
  rw [hl1, hl3] at CS
  rw [hw1] at hw2
  generalize decide (Ix.mk xt xl = Ix.mk yt yl) = res at *
  clear hT hL hT' hL' hl1 hl2 hl3 hl4 hls hE1 hE2 hW1 hW2 hsz hw1
  by_cases g1 : xt = yt
  · have HYe := hide (HYes.out g1)
    rw [decide_eq_true g1] at CS
    clear HN1 g1 HYes
    by_cases g2 : n2 = k2
    · subst g2
      have HYf := hide (HYe.out rfl)
      have gb : ((n2 : Int) != (n2 : Int)) = false := by simp
      clear HN2 HYe
      go_enter Tryz.func8, Tryz.ntmps8
      go_wp2_with fail
      rw [← hw2]
      clear hw2
      refine CS.mono ?_
      rintro e w3 ⟨rfl, hE3⟩
      have HE3 := hide hE3
      have d10 := (HW1.out.ext HE3.out).at 1 (u := .slice a2 n2 c2) rfl
      have d20 := (HW2.out.ext HE3.out).at 1 (u := .slice b2 n2 d2) rfl
      clear CS hE3
      go_wp2
      clear d10 d20
      go_loopw [5] (fun y wr => ∃ i : Nat, i ≤ n2 ∧ y = .int .i64 (i : Int) ∧ (∀ j, j < i → xl.getD j [] = yl.getD j []) ∧ Ext w2 wr) (fun y _ => n2 - (intOf y).toNat)
      case atStart => exact ⟨0, by omega, rfl, fun j hj => absurd hj (by omega), HE3.out⟩
      case round =>
        obtain ⟨i, hi, rfl, hall, hE⟩ := hrel
        have HAll := hide hall
        have HE := hide hE
        have d10 := (HW1.out.ext HE.out).at 1 (u := .slice a2 n2 c2) rfl
        have d20 := (HW2.out.ext HE.out).at 1 (u := .slice b2 n2 d2) rfl
        clear hall hE HE3
        by_cases hlt : i < n2
        · have hiI : (i : Int) < (n2 : Int) := by omega
          obtain ⟨p1, o1, a3, c3, rfl, e1, _, _, q1⟩ := (HL.out.ext HE.out).at hlt
          obtain ⟨p2, o2, a4, c4, rfl, e2, _, _, q2⟩ := (HL'.out.ext HE.out).at hlt
          have C := fun m => refSame9Q_any a3 a4 c3 c4 _ _ (wr.drewN m) (q1.later ((Ext.refl wr).drewN m)) (q2.later ((Ext.refl wr).drewN m)) (by have := HLs.out i hlt; omega)
          have HNi := hide (HN3.out i)
          by_cases g : xl.getD i [] = yl.getD i []
          · rw [decide_eq_true g] at C
            have HG := hide g
            generalize (xl.getD i []).length = m1 at *
            generalize (yl.getD i []).length = m2 at *
            clear g HNi q1 q2
            go_wp2_with fail
            go_quiet (first | (go_at_call 22; exact Calls.quiet_of (C _)))
            go_wp2
            go_roundw
            case rel => exact ⟨i + 1, by omega, by go_num, fun j hj => (by
              by_cases e : j = i
              · rw [e]; exact HG.out
              · exact HAll.out j (by omega)), HE.out.drewN _⟩
            case measure => simp [intOf]; omega
          · rw [decide_eq_false g] at C
            have HR := hide (HNi.out g)
            generalize (xl.getD i []).length = m1 at *
            generalize (yl.getD i []).length = m2 at *
            clear g HNi q1 q2
            go_wp2_with fail
            go_quiet (first | (go_at_call 22; exact Calls.quiet_of (C _)))
            go_wp2
            go_ret
            exact ⟨ret_bool HR.out.symm, HE2.out.trans (HE.out.drewN _)⟩
        · have hiI : ¬ (i : Int) < (n2 : Int) := by omega
          obtain rfl : n2 = i := by omega
          have HN := hide (HYf.out HAll.out)
          go_wp2
          go_ret
          exact ⟨ret_bool HN.out.symm, HE2.out.trans HE.out⟩
    · have HR := hide (HN2.out g2)
      have gb : ((n2 : Int) != (k2 : Int)) = true := by simp; omega
      clear g2 HN2 HYe
      go_enter Tryz.func8, Tryz.ntmps8
      go_wp2_with fail
      rw [← hw2]
      clear hw2
      refine CS.mono ?_
      rintro e w3 ⟨rfl, hE3⟩
      have d10 := (HW1.out.ext hE3).at 1 (u := .slice a2 n2 c2) rfl
      have d20 := (HW2.out.ext hE3).at 1 (u := .slice b2 k2 d2) rfl
      clear CS
      go_wp2
      go_ret
      exact ⟨ret_bool HR.out.symm, HE2.out.trans hE3⟩
  · have HR := hide (HN1.out g1)
    rw [decide_eq_false g1] at CS
    clear HN1 g1 HYes HN2
    go_enter Tryz.func8, Tryz.ntmps8
    go_wp2_with fail
    rw [← hw2]
    clear hw2
    refine CS.mono ?_
    rintro e w3 ⟨rfl, hE3⟩
    clear CS
    go_wp2
    go_ret
    exact ⟨ret_bool HR.out.symm, HE2.out.trans hE3⟩
end Go.Proofs.YtcphapdjimeoaaaGreat

namespace Go.Proofs.YtcphapdjimeoaaaGreat
open Go.RowKit Num Ef

theorem Ef.put_num {x k : Nat} (hk : k ≤ 64) (h : x < 2 ^ k) : Bit.putBits x (k : Int) = Bit.num x k := by
  have : Bit.fits x (k : Int) = true := decide_eq_true ⟨by omega, by omega, by rw [Int.toNat_natCast]; exact h⟩
  unfold Bit.putBits
  rw [if_pos this, Int.toNat_natCast]
theorem Ef.un_num {k : Nat} (hk : k ≤ 100000) : Bit.unaryBits (k : Int) = Bit.unBits k := by
  have : Bit.runs (k : Int) = true := decide_eq_true ⟨by omega, by omega⟩
  unfold Bit.unaryBits
  rw [if_pos this, Int.toNat_natCast]
theorem Ef.lowTo_succ (w : Nat) (ids : List Int) (k : Nat) : lowTo w ids (k + 1) = lowTo w ids k ++ Bit.num ((ids.getD k 0).toNat % 2 ^ w) w := flat_succ _ _
theorem Ef.highTo_succ (w : Nat) (ids : List Int) (k : Nat) : highTo w ids (k + 1) = highTo w ids k ++ Bit.unBits (hi w ids k - was w ids k) := flat_succ _ _
theorem Ef.was_succ (w : Nat) (ids : List Int) (k : Nat) : was w ids (k + 1) = (ids.getD k 0).toNat / 2 ^ w := by
  unfold was hi
  rw [if_neg (by omega), Nat.add_sub_cancel]

end Go.Proofs.YtcphapdjimeoaaaGreat

namespace Go.Proofs.YtcphapdjimeoaaaGreat
open Go.RowKit Pst

theorem Pst.row_small {bound : Int} {l : List Int} (hb : 0 ≤ bound ∧ bound ≤ 20000) (h : listOk bound l = true) (hn : l.length ≤ 2000) : Ef.writeE bound l = (Ef.rowB bound l, 0) ∧ (Ef.rowB bound l).length ≤ 4300 := by
  unfold listOk at h
  rw [Bool.and_eq_true] at h
  have hw : Ef.writeE bound l = (Ef.rowB bound l, 0) := by unfold Ef.writeE; rw [if_pos ⟨hb, h.2⟩]
  refine ⟨hw, ?_⟩
  have hne : 0 < l.length := List.length_pos_iff.2 (of_decide_eq_true h.1)
  have h1 := Ef.short (bound := bound) (ids := l) (by rw [hw]) hne hn
  rw [hw] at h1
  have h2 := Ef.widE_le (bound := bound) (n := l.length) hb.2
  have h3 : l.length * (Ef.widE bound l.length + 3) ≤ 2000 * 17 := Nat.mul_le_mul hn (by omega)
  dsimp only at h1
  omega
theorem Pst.rows_take {bound : Int} {U : List (List Int)} {i : Nat} (h : i < U.length) : (U.take (i + 1)).flatMap (Ef.rowB bound) = (U.take i).flatMap (Ef.rowB bound) ++ Ef.rowB bound (U.getD i []) := by
  rw [List.take_add_one, List.getElem?_eq_getElem h, List.getD_eq_getElem?_getD, List.getElem?_eq_getElem h, List.flatMap_append]
  show _ ++ [U[i]].flatMap _ = _ ++ Ef.rowB bound U[i]
  rw [List.flatMap_cons, List.flatMap_nil, List.append_nil]
theorem Pst.rows_len {bound : Int} {U : List (List Int)} (h : ∀ l, l ∈ U → (Ef.rowB bound l).length ≤ 4300) : (U.flatMap (Ef.rowB bound)).length ≤ 4300 * U.length := by
  induction U with
  | nil => simp
  | cons a t ih =>
    have h1 := h a (by simp)
    have h2 := ih fun l hl => h l (by simp [hl])
    rw [List.flatMap_cons, List.length_append, List.length_cons]
    omega
end Go.Proofs.YtcphapdjimeoaaaGreat

namespace Go.Proofs.YtcphapdjimeoaaaGreat
open Go.RowKit Pst

/-- An index is told. -/
def BuildTo (W : World) (x : Ix) (e : Ending) (w' : World) : Prop := ∃ m : IxV, e = .returned (.agg #[.slice m.a1 m.n1 m.c1, .slice m.a2 m.n2 m.c2]) ∧ m.x = x ∧ m.lies w' ∧ Ext W w'
def PBuildC (w : World) : Prop := ∀ (l : List Rc) (A : Option Addr) (n c : Nat) (W : World), Ext w W → n ≤ c → c ≤ maxLen → Rcs.weightE l ≤ 10000 → RcsAt W W.heap.size A n l → Calls Tryz.prog 13 #[.slice A n c] W (BuildTo W (buildE l))
/-- The index of the example, written out. -/
theorem ixNew (W W4 : World) (f1 f2 f3 f4 : Nat × Nat) (h : W4 = (((W.alloc (.cells #[.string ⟨#[100, 105, 115, 107]⟩, .string ⟨#[102, 117, 108, 108]⟩] 9 f1)).alloc (.cells #[.int .i64 0] 3 f2)).alloc (.cells #[.int .i64 0, .int .i64 1] 3 f3)).alloc (.cells #[.slice (some ⟨W.heap.size + 1, 0, none⟩) 1 1, .slice (some ⟨W.heap.size + 1 + 1, 0, none⟩) 2 2] 43 f4)) :
    (IxV.mk (some ⟨W.heap.size, 0, none⟩) 2 2 (some ⟨W.heap.size + 1 + 1 + 1, 0, none⟩) 2 2 ⟨[[100, 105, 115, 107], [102, 117, 108, 108]], [[0], [0, 1]]⟩).lies W4 ∧ Ext W W4 := by
  have hT := textsNew W [[100, 105, 115, 107], [102, 117, 108, 108]] #[.string ⟨#[100, 105, 115, 107]⟩, .string ⟨#[102, 117, 108, 108]⟩] 9 f1 rfl 2 rfl
  obtain ⟨W1, h1⟩ : ∃ W1, W1 = W.alloc (.cells #[.string ⟨#[100, 105, 115, 107]⟩, .string ⟨#[102, 117, 108, 108]⟩] 9 f1) := ⟨_, rfl⟩
  rw [← h1] at hT h
  have hE1 : Ext W W1 := by rw [h1]; exact extNew W _
  have s1 : W1.heap.size = W.heap.size + 1 := by rw [h1]; simp
  have hI := intsNew W1 [0] #[.int .i64 0] 3 f2 rfl 1 rfl
  obtain ⟨W2, h2⟩ : ∃ W2, W2 = W1.alloc (.cells #[.int .i64 0] 3 f2) := ⟨_, rfl⟩
  rw [← h2] at hI h
  have hE2 : Ext W1 W2 := by rw [h2]; exact extNew W1 _
  have s2 : W2.heap.size = W.heap.size + 1 + 1 := by rw [h2, ← s1]; simp
  have hJ := intsNew W2 [0, 1] #[.int .i64 0, .int .i64 1] 3 f3 rfl 2 rfl
  obtain ⟨W3, h3⟩ : ∃ W3, W3 = W2.alloc (.cells #[.int .i64 0, .int .i64 1] 3 f3) := ⟨_, rfl⟩
  rw [← h3] at hJ h
  have hE3 : Ext W2 W3 := by rw [h3]; exact extNew W2 _
  have s3 : W3.heap.size = W.heap.size + 1 + 1 + 1 := by rw [h3, ← s2]; simp
  have hE4 : Ext W3 W4 := by rw [h]; exact extNew W3 _
  have hI4 := (hI.later hE3).later hE4
  have hJ4 := hJ.later hE4
  have hT4 := ((hT.later hE2).later hE3).later hE4
  have hc : ∀ i v, #[Value.slice (some ⟨W.heap.size + 1, 0, none⟩) 1 1, Value.slice (some ⟨W.heap.size + 1 + 1, 0, none⟩) 2 2][i]? = some v → W4.cell? ⟨W.heap.size + 1 + 1 + 1, 0 + i, none⟩ = some v := fun i v hv => by rw [h, ← s3, Nat.zero_add, cellNew]; exact hv
  have s4 : W4.heap.size = W.heap.size + 1 + 1 + 1 + 1 := by rw [h, ← s3]; simp
  rw [s1] at hI4
  rw [s2] at hJ4
  refine ⟨⟨⟨Nat.le_refl _, by show 2 ≤ maxLen; unfold maxLen; omega, hT4⟩, Nat.le_refl _, by show 2 ≤ maxLen; unfold maxLen; omega, rfl, .inr ⟨_, 0, rfl, by omega, fun i hi => ?_⟩⟩, ((hE1.trans hE2).trans hE3).trans hE4⟩
  dsimp only at hi
  match i, hi with
  | 0, _ => exact ⟨_, hc 0 _ rfl, _, 1, rfl, Nat.le_refl _, by unfold maxLen; omega, hI4⟩
  | 1, _ => exact ⟨_, hc 1 _ rfl, _, 2, rfl, Nat.le_refl _, by unfold maxLen; omega, hJ4⟩
set_option maxHeartbeats 2000000 in
set_option maxRecDepth 100000 in
theorem alive18_any {w W : World} (hB : PBuildC w) (hE : Ext w W) : Calls Tryz.prog 5 #[] W fun e W' => e = .returned (.bool true) ∧ Ext W W' := by
  have hE1 := extNew W (.cells #[.int .u64 0, .int .u8 0, .string ⟨#[]⟩, .string ⟨#[100, 105, 115, 107, 32, 102, 117, 108, 108]⟩, .int .u64 0, .int .u8 0, .string ⟨#[]⟩, .string ⟨#[102, 117, 108, 108]⟩] 42)
  have hL1 := rcsNew W [⟨0, 0, [], [100, 105, 115, 107, 32, 102, 117, 108, 108]⟩, ⟨0, 0, [], [102, 117, 108, 108]⟩] #[.int .u64 0, .int .u8 0, .string ⟨#[]⟩, .string ⟨#[100, 105, 115, 107, 32, 102, 117, 108, 108]⟩, .int .u64 0, .int .u8 0, .string ⟨#[]⟩, .string ⟨#[102, 117, 108, 108]⟩] 42 (0, 0) rfl 2 rfl (by unfold Rc.ok maxLen; simp)
  have C := hB _ _ 2 2 _ (hE.trans hE1) (Nat.le_refl _) (by unfold maxLen; omega) (by decide) hL1
  rw [example18] at C
  unfold BuildTo at C
  clear hL1 hB
  go_enter Tryz.func5, Tryz.ntmps5
  go_wp2_with fail
  refine C.mono ?_
  rintro e w2 ⟨m, rfl, hx, hm, hE2⟩
  have HX := hide hx
  have HM := hide hm
  have HE2 := hide (hE1.trans hE2)
  clear C hx hm hE2
  have hE0 := extNew w2 (.cells #[.slice m.a1 m.n1 m.c1, .slice m.a2 m.n2 m.c2] 27)
  obtain ⟨w0, hw0⟩ : ∃ w0, w0 = w2.alloc (.cells #[.slice m.a1 m.n1 m.c1, .slice m.a2 m.n2 m.c2] 27) := ⟨_, rfl⟩
  have hs0 : w0.heap.size = w2.heap.size + 1 := by rw [hw0]; simp
  have CS : ∀ w5, w5 = (((w0.alloc (.cells #[.string ⟨#[100, 105, 115, 107]⟩, .string ⟨#[102, 117, 108, 108]⟩] 9)).alloc (.cells #[.int .i64 0] 3)).alloc (.cells #[.int .i64 0, .int .i64 1] 3)).alloc (.cells #[.slice (some ⟨w2.heap.size + 1 + 1, 0, none⟩) 1 1, .slice (some ⟨w2.heap.size + 1 + 1 + 1, 0, none⟩) 2 2] 43) →
      Calls Tryz.prog 8 #[.agg #[.slice m.a1 m.n1 m.c1, .slice m.a2 m.n2 m.c2], .agg #[.slice (some ⟨w2.heap.size + 1, 0, none⟩) 2 2, .slice (some ⟨w2.heap.size + 1 + 1 + 1 + 1, 0, none⟩) 2 2]] w5 fun e w' => e = .returned (.bool true) ∧ Ext W w' := fun w5 h5 => by
    rw [← hs0] at h5 ⊢
    obtain ⟨q1, q2⟩ := ixNew w0 w5 _ _ _ _ h5
    rw [← hw0] at hE0
    have q3 := HM.out.later (hE0.trans q2)
    have n1 : m.n1 = 2 := by have := q3.1.2.2.1; rw [HX.out] at this; exact this.symm
    have n2 : m.n2 = 2 := by have := q3.2.2.2.1; rw [HX.out] at this; exact this.symm
    have C := refSame18_any m _ w5 q3 q1 (by omega) (by omega) (by rw [HX.out]; intro l hl; simp at hl; rcases hl with rfl | rfl <;> simp)
    dsimp only at C
    rw [HX.out, decide_eq_true rfl] at C
    exact C.mono fun _ _ ⟨h1, h2⟩ => ⟨h1, HE2.out.trans (hE0.trans (q2.trans h2))⟩
  have CS2 := CS _ rfl
  rw [hw0] at CS2
  clear CS hs0 hw0 hE0
  go_wp2_with fail
  refine CS2.mono ?_
  rintro e w6 ⟨rfl, hE6⟩
  go_wp2
  go_ret
  exact ⟨rfl, hE6⟩
def PBytesC (w : World) : Prop := ∀ (size bound : Int) (m : IxV) (W : World), Ext w W → IsI64 size → IsI64 bound → m.n1 ≤ 1000 → m.n2 ≤ 1000 → (∀ s, s ∈ m.x.terms → s.length ≤ 60) → (∀ l, l ∈ m.x.lists → l.length ≤ 20000) → m.lies W → Calls Tryz.prog 10 #[.int .i64 size, .int .i64 bound, .agg #[.slice m.a1 m.n1 m.c1, .slice m.a2 m.n2 m.c2]] W (MadeE W (bytesE size bound m.x).1 (bytesE size bound m.x).2)

end Go.Proofs.YtcphapdjimeoaaaGreat

namespace Go.Proofs.YtcphapdjimeoaaaGreat

namespace Num
theorem scanF_cut {b : List UInt8} {q K : Nat} (h1 : q + 10 ≤ K) (h2 : K ≤ b.length) : ∀ f i x, i + f = 10 → scanF (b.take K) q f i x = scanF b q f i x
  | 0, _, _, _ => rfl
  | f + 1, i, x, hf => by
    have hg : (b.take K).getD (q + i) 0 = b.getD (q + i) 0 := by
      rw [List.getD_eq_getElem?_getD, List.getElem?_take_of_lt (by omega), ← List.getD_eq_getElem?_getD]
    have hl : (b.take K).length = K := by rw [List.length_take]; omega
    rw [scanF, scanF, hl, hg, if_neg (show ¬ K ≤ q + i by omega), if_neg (show ¬ b.length ≤ q + i by omega), scanF_cut h1 h2 f (i + 1) _ (by omega)]
theorem intR_cut (b : List UInt8) (most : Int) : intR (b.take (min b.length 10)) 0 0 most = intR b 0 0 most := by
  rcases Nat.lt_or_ge b.length 10 with h | h
  · rw [Nat.min_eq_left (by omega), List.take_length]
  · rw [Nat.min_eq_right h]
    unfold intR numR scan
    rw [scanF_cut (by omega) h 10 0 0 rfl]
end Num

namespace Ef
open Num Bit

section
variable {l : List UInt8} {m : Nat} {bound : Int} {w : Nat}
theorem rest_take {p i : Nat} (h : p + i < 8 * (l.take m).length) : rest (l.take m) p i = rest l p i := by
  unfold rest
  rw [List.length_take] at h
  exact at_take l (by omega)
theorem un_take {p : Nat} (h : unErr (l.take m) p = 0) : unErr l p = 0 ∧ unNum l p = unNum (l.take m) p ∧ unTo l p = unTo (l.take m) p := by
  have hle : (l.take m).length ≤ l.length := by rw [List.length_take]; omega
  have hne : zs (l.take m) p ≠ 8 * (l.take m).length - p := by
    intro e
    unfold unErr at h
    rw [if_pos e] at h
    exact absurd h (by decide)
  have hz : zs (l.take m) p ≤ 8 * (l.take m).length - p := zeros_le _ _
  have hzt := zeros_true (8 * (l.take m).length - p) (rest (l.take m) p) (by have : zs (l.take m) p = zeros (8 * (l.take m).length - p) (rest (l.take m) p) := rfl; omega)
  have e : zs l p = zs (l.take m) p := by
    refine zeros_eq (by omega) (fun i hi => ?_) (fun _ => ?_)
    · rw [← rest_take (m := m) (by omega)]
      exact zeros_false _ _ i hi
    · rw [← rest_take (m := m) (by omega)]
      exact hzt
  have n1 : zs l p ≠ 8 * l.length - p := by rw [e]; omega
  exact ⟨by unfold unErr; rw [if_neg n1], by unfold unNum; rw [if_neg n1, if_neg hne, e], by unfold unTo; rw [if_neg n1, if_neg hne, e]⟩
theorem get_take {q k : Nat} (hk : k ≤ 64) (h : q + k ≤ 8 * (l.take m).length) : getNum l q (k : Int) = getNum (l.take m) q (k : Int) := by
  have hle : (l.take m).length ≤ l.length := by rw [List.length_take]; omega
  have e1 : getErr (8 * l.length - q) (k : Int) = 0 := by unfold getErr; rw [if_pos ⟨by omega, by omega⟩, if_pos (by omega)]
  have e2 : getErr (8 * (l.take m).length - q) (k : Int) = 0 := by unfold getErr; rw [if_pos ⟨by omega, by omega⟩, if_pos (by omega)]
  unfold getNum
  rw [if_pos e1, if_pos e2, Int.toNat_natCast]
  exact val_congr k fun i hi => (rest_take (by omega)).symm
theorem readH_take (hw : w ≤ 14) : ∀ (k p h : Nat) (out : List Int), (out.length + k) * w ≤ 8 * (l.take m).length → p ≤ 8 * (l.take m).length → (readH (l.take m) w bound k p h out).2.2 ≠ 1 →
    readH l w bound k p h out = readH (l.take m) w bound k p h out ∧ ((readH (l.take m) w bound k p h out).2.2 = 0 → (readH (l.take m) w bound k p h out).2.1 ≤ 8 * (l.take m).length)
  | 0, p, h, out, _, hp, _ => ⟨rfl, fun _ => hp⟩
  | k + 1, p, h, out, hl, hp, hne => by
    rw [readH] at hne
    by_cases h1 : unErr (l.take m) p = 0
    case neg =>
      rw [if_pos h1] at hne
      exact absurd rfl hne
    obtain ⟨u1, u2, u3⟩ := un_take h1
    have u4 := (un_sub h1).2.1
    have hw2 : out.length * w + w ≤ 8 * (l.take m).length := by
      have : (out.length + 1) * w ≤ (out.length + (k + 1)) * w := Nat.mul_le_mul_right _ (by omega)
      rw [Nat.add_mul, Nat.one_mul] at this
      omega
    have g := get_take (l := l) (m := m) (q := out.length * w) (k := w) (by omega) hw2
    rw [if_neg (by rw [h1]; simp)] at hne
    rw [readH, readH, u1, u2, u3, g, h1, if_neg (show ¬ ((0 : Int) ≠ 0) by simp), if_neg (show ¬ ((0 : Int) ≠ 0) by simp)]
    by_cases h2 : 0 < out.length ∧ (((h + unNum (l.take m) p) * 2 ^ w + getNum (l.take m) (out.length * w) (w : Int) : Nat) : Int) ≤ out.getD (out.length - 1) 0
    · rw [if_pos h2, if_pos h2]
      exact ⟨rfl, fun h => by simp at h⟩
    rw [if_neg h2] at hne
    rw [if_neg h2, if_neg h2]
    by_cases h3 : bound ≤ (((h + unNum (l.take m) p) * 2 ^ w + getNum (l.take m) (out.length * w) (w : Int) : Nat) : Int)
    · rw [if_pos h3, if_pos h3]
      exact ⟨rfl, fun h => by simp at h⟩
    rw [if_neg h3] at hne
    rw [if_neg h3, if_neg h3]
    exact readH_take hw k _ _ _ (by rw [List.length_append, List.length_singleton, show out.length + 1 + k = out.length + (k + 1) by omega]; exact hl) u4 hne
theorem padZ_take {p : Nat} (h : p ≤ 8 * (l.take m).length) : padZ l p = padZ (l.take m) p := by
  unfold padZ
  refine decide_eq_decide.2 ?_
  have hle : (l.take m).length ≤ m := by rw [List.length_take]; omega
  constructor <;> intro H i hi
  · rw [at_take l (by omega)]; exact H i hi
  · rw [← at_take l (m := m) (by omega)]; exact H i hi
/-- What a prefix tells that doesn't fall short, all bytes tell. -/
theorem readN_take {n : Nat} (hb : bound ≤ 20000) (h : (readN (l.take m) bound n).2.2 ≠ 1) : readN l bound n = readN (l.take m) bound n := by
  have hw := widE_le (n := n) hb
  have hle : (l.take m).length ≤ l.length := by rw [List.length_take]; omega
  unfold readN at h ⊢
  obtain ⟨w, ew⟩ : ∃ w, w = widE bound n := ⟨_, rfl⟩
  rw [← ew] at h hw ⊢
  by_cases h1 : 8 * (l.take m).length < n * w
  · rw [if_pos h1] at h; simp at h
  rw [if_neg h1] at h
  rw [if_neg h1, if_neg (by omega)]
  by_cases h2 : (readH (l.take m) w bound n (n * w) 0 []).2.2 = 1
  · rw [h2, if_pos (by simp)] at h
    simp at h
  obtain ⟨H1, H2⟩ := readH_take (l := l) (m := m) (bound := bound) hw n (n * w) 0 [] (by rw [List.length_nil, Nat.zero_add]; omega) (by omega) h2
  rw [H1]
  by_cases h3 : (readH (l.take m) w bound n (n * w) 0 []).2.2 = 0
  · rw [padZ_take (H2 h3)]
  · rw [if_pos h3, if_pos h3]
end
/-- How the program reads n numbers from bytes. -/
def readP (l : List UInt8) (bound : Int) (n : Nat) : List Int × Nat × Int := if n = 0 then ([], 0, 0) else readN l bound n
theorem readP_take {l : List UInt8} {m n : Nat} {bound : Int} (hb : bound ≤ 20000) (h : (readP (l.take m) bound n).2.2 ≠ 1) : readP l bound n = readP (l.take m) bound n := by
  unfold readP at h ⊢
  split
  · rfl
  · rename_i hn
    rw [if_neg hn] at h
    exact readN_take hb h
theorem readP_bad {l : List UInt8} {n : Nat} {bound : Int} (h : (readP l bound n).2.2 ≠ 0) : (readP l bound n).1 = [] ∧ (readP l bound n).2.1 = 0 := by
  unfold readP at h ⊢
  by_cases h0 : n = 0
  · rw [if_pos h0]; exact ⟨rfl, rfl⟩
  rw [if_neg h0] at h ⊢
  unfold readN at h ⊢
  split
  · exact ⟨rfl, rfl⟩
  · split
    · exact ⟨rfl, rfl⟩
    · split
      · exact ⟨rfl, rfl⟩
      · rename_i h1 h2 h3
        rw [if_neg h1, if_neg h2, if_neg h3] at h
        exact absurd rfl h
/-- How the program reads a row: the number from the first bytes, then the numbers. -/
theorem readE_prog {bound : Int} {b : List UInt8} (h0 : 0 ≤ bound) (h1 : bound ≤ 20000) :
    ((intR b 0 0 bound).2.2 ≠ 0 → readE bound b = ([], 0, (intR b 0 0 bound).2.2)) ∧
    ((intR b 0 0 bound).2.2 = 0 → (readP (b.drop (intR b 0 0 bound).2.1) bound (intR b 0 0 bound).1).2.2 ≠ 0 → readE bound b = ([], 0, (readP (b.drop (intR b 0 0 bound).2.1) bound (intR b 0 0 bound).1).2.2)) ∧
    ((intR b 0 0 bound).2.2 = 0 → (readP (b.drop (intR b 0 0 bound).2.1) bound (intR b 0 0 bound).1).2.2 = 0 →
      readE bound b = ((readP (b.drop (intR b 0 0 bound).2.1) bound (intR b 0 0 bound).1).1, (intR b 0 0 bound).2.1 + (readP (b.drop (intR b 0 0 bound).2.1) bound (intR b 0 0 bound).1).2.1, 0)) := by
  have hx : 0 ≤ bound ∧ bound ≤ 20000 := ⟨h0, h1⟩
  refine ⟨fun h => ?_, fun h h2 => ?_, fun h h2 => ?_⟩
  · unfold readE
    rw [if_pos hx, if_pos h]
  · unfold readP at h2 ⊢
    unfold readE
    rw [if_pos hx, if_neg (by rw [h]; simp)]
    by_cases hz : (intR b 0 0 bound).1 = 0
    · rw [if_pos hz] at h2
      exact absurd rfl h2
    · rw [if_neg hz] at h2 ⊢
      rw [if_neg hz, if_pos h2]
  · unfold readP at h2 ⊢
    unfold readE
    rw [if_pos hx, if_neg (by rw [h]; simp)]
    by_cases hz : (intR b 0 0 bound).1 = 0
    · rw [if_pos hz, if_pos hz]
      rfl
    · rw [if_neg hz] at h2
      rw [if_neg hz, if_neg hz, if_neg (by rw [h2]; simp)]

/-! ### Parts -/
theorem part_or (h x k : Nat) (hx : x < 2 ^ k) : h * 2 ^ k ||| x = h * 2 ^ k + x := by
  rw [Nat.mul_comm, ← Nat.two_pow_add_eq_or_of_lt hx]
/-- The parts of numbers: low ones of k bits, and what is above them. -/
def Parts (k : Nat) (ids L H : List Int) : Prop :=
  k ≤ 14 ∧ ids.length = H.length ∧ H.length ≤ L.length ∧ ∀ i, i < ids.length → ∃ h x : Nat, H.getD i 0 = (h : Int) ∧ L.getD i 0 = (x : Int) ∧ x < 2 ^ k ∧ h ≤ 1000000 ∧ ids.getD i 0 = ((h * 2 ^ k + x : Nat) : Int)
theorem Parts.nil {k : Nat} (hk : k ≤ 14) (L : List Int) : Parts k [] L [] := ⟨hk, rfl, by simp, fun i hi => by simp at hi⟩
theorem getD_snoc' (L : List Int) (x : Int) {i : Nat} (h : i < L.length) : (L ++ [x]).getD i 0 = L.getD i 0 := getD_snoc L x h
/-- One number more, its low part behind the others. -/
theorem Parts.more {k h x : Nat} {ids L H : List Int} (hP : Parts k ids L H) (hl : L.length = ids.length) (hx : x < 2 ^ k) (hh : h ≤ 1000000) : Parts k (ids ++ [((h * 2 ^ k + x : Nat) : Int)]) (L ++ [(x : Int)]) (H ++ [(h : Int)]) := by
  obtain ⟨hk, h1, h2, h3⟩ := hP
  refine ⟨hk, by simp [h1], by simp; omega, fun i hi => ?_⟩
  rw [List.length_append, List.length_singleton] at hi
  rcases Nat.lt_or_ge i ids.length with hlt | hge
  · rw [getD_snoc ids _ hlt, getD_snoc L _ (by omega), getD_snoc H _ (by omega)]
    exact h3 i hlt
  · obtain rfl : i = ids.length := by omega
    refine ⟨h, x, ?_, ?_, hx, hh, getD_last _ _⟩
    · rw [h1]; exact getD_last _ _
    · rw [← hl]; exact getD_last _ _
/-- One number more, its low part is there. -/
theorem Parts.high {k h x : Nat} {ids L H : List Int} (hP : Parts k ids L H) (hl : ids.length < L.length) (hL : L.getD ids.length 0 = (x : Int)) (hx : x < 2 ^ k) (hh : h ≤ 1000000) : Parts k (ids ++ [((h * 2 ^ k + x : Nat) : Int)]) L (H ++ [(h : Int)]) := by
  obtain ⟨hk, h1, h2, h3⟩ := hP
  refine ⟨hk, by simp [h1], by simp; omega, fun i hi => ?_⟩
  rw [List.length_append, List.length_singleton] at hi
  rcases Nat.lt_or_ge i ids.length with hlt | hge
  · rw [getD_snoc ids _ hlt, getD_snoc H _ (by omega)]
    exact h3 i hlt
  · obtain rfl : i = ids.length := by omega
    refine ⟨h, x, ?_, hL, hx, hh, getD_last _ _⟩
    rw [h1]; exact getD_last _ _
/-- The parts of a number that isn't below 0. -/
theorem part_is (x k : Nat) : x / 2 ^ k * 2 ^ k + x % 2 ^ k = x := Nat.div_add_mod' x (2 ^ k)
/-- The row's test as the program makes it. -/
theorem row_yes {bound : Int} {ids : List Int} (h : ∀ i, i < ids.length → (if i = 0 then -1 else ids.getD (i - 1) 0) < ids.getD i 0 ∧ ids.getD i 0 < bound) : row bound ids = true := by
  have hge : ∀ i, i < ids.length → 0 ≤ ids.getD i 0 := by
    intro i
    induction i with
    | zero => intro hi; have := (h 0 hi).1; simp at this; simp; omega
    | succ i ih =>
      intro hi
      have h1 := ih (by omega)
      have h2 := (h (i + 1) hi).1
      rw [if_neg (by omega), Nat.add_sub_cancel] at h2
      omega
  refine decide_eq_true fun i hi => ⟨hge i hi, (h i hi).2, fun h0 => ?_⟩
  have := (h i hi).1
  rwa [if_neg (by omega)] at this
theorem row_no {bound : Int} {ids : List Int} {i : Nat} (hi : i < ids.length) (h : ids.getD i 0 ≤ (if i = 0 then -1 else ids.getD (i - 1) 0) ∨ bound ≤ ids.getD i 0) : row bound ids = false := by
  refine decide_eq_false fun H => ?_
  have h1 := H i hi
  rcases h with h | h
  · by_cases h0 : i = 0
    · rw [if_pos h0] at h; omega
    · rw [if_neg h0] at h
      have := h1.2.2 (by omega)
      omega
  · omega
end Ef

theorem i64_and_nat (a b : Nat) (ha : a < 4611686018427387904) (hb : b < 4611686018427387904) : bits .and .i64 (a : Int) (b : Int) = ((a &&& b : Nat) : Int) := by
  have hx : a &&& b < 2 ^ 62 := Nat.and_lt_two_pow _ (by omega)
  have h1 : (BitVec.ofInt 64 (a : Int)).toNat = a := by rw [BitVec.ofInt_natCast, BitVec.toNat_ofNat]; exact Nat.mod_eq_of_lt (by omega)
  have h2 : (BitVec.ofInt 64 (b : Int)).toNat = b := by rw [BitVec.ofInt_natCast, BitVec.toNat_ofNat]; exact Nat.mod_eq_of_lt (by omega)
  show IntKind.i64.wrap ((BitVec.ofInt 64 (a : Int) &&& BitVec.ofInt 64 (b : Int)).toNat : Int) = _
  rw [BitVec.toNat_and, h1, h2, IntKind.wrap_i64]
  omega
theorem i64_or_nat (a b : Nat) (ha : a < 4611686018427387904) (hb : b < 4611686018427387904) : bits .or .i64 (a : Int) (b : Int) = ((a ||| b : Nat) : Int) := by
  have hx : a ||| b < 2 ^ 62 := Nat.or_lt_two_pow (by omega) (by omega)
  have h1 : (BitVec.ofInt 64 (a : Int)).toNat = a := by rw [BitVec.ofInt_natCast, BitVec.toNat_ofNat]; exact Nat.mod_eq_of_lt (by omega)
  have h2 : (BitVec.ofInt 64 (b : Int)).toNat = b := by rw [BitVec.ofInt_natCast, BitVec.toNat_ofNat]; exact Nat.mod_eq_of_lt (by omega)
  show IntKind.i64.wrap ((BitVec.ofInt 64 (a : Int) ||| BitVec.ofInt 64 (b : Int)).toNat : Int) = _
  rw [BitVec.toNat_or, h1, h2, IntKind.wrap_i64]
  omega
end Go.Proofs.YtcphapdjimeoaaaGreat

namespace Go.Proofs.YtcphapdjimeoaaaGreat
open Go.RowKit Num Ef

theorem efMay_any (bound : Int) (w : World) : Calls Tryz.prog 60 #[.int .i64 bound] w fun e w' => e = .returned (.bool (decide (0 ≤ bound ∧ bound ≤ 20000))) ∧ w = w' := by
  by_cases h0 : 0 ≤ bound
  · by_cases h1 : bound ≤ 20000
    · have HD := hide (show decide (0 ≤ bound ∧ bound ≤ 20000) = true from decide_eq_true ⟨h0, h1⟩)
      generalize decide (0 ≤ bound ∧ bound ≤ 20000) = res at *
      go_enter Tryz.func60, Tryz.ntmps60
      go_wp2
      go_ret
      exact ⟨ret_bool HD.out.symm, rfl⟩
    · have HD := hide (show decide (0 ≤ bound ∧ bound ≤ 20000) = false from decide_eq_false fun h => h1 h.2)
      generalize decide (0 ≤ bound ∧ bound ≤ 20000) = res at *
      go_enter Tryz.func60, Tryz.ntmps60
      go_wp2
      go_ret
      exact ⟨ret_bool HD.out.symm, rfl⟩
  · have HD := hide (show decide (0 ≤ bound ∧ bound ≤ 20000) = false from decide_eq_false fun h => h0 h.1)
    generalize decide (0 ≤ bound ∧ bound ≤ 20000) = res at *
    go_enter Tryz.func60, Tryz.ntmps60
    go_wp2
    go_ret
    exact ⟨ret_bool HD.out.symm, rfl⟩

/-- The number ahead. -/
def Ef.aheadOf (ids : List Int) (i : Nat) : Int := if i = 0 then -1 else ids.getD (i - 1) 0
theorem Ef.aheadOf_succ (ids : List Int) (i : Nat) : aheadOf ids (i + 1) = ids.getD i 0 := by unfold aheadOf; rw [if_neg (by omega), Nat.add_sub_cancel]

set_option maxHeartbeats 1000000 in
set_option maxRecDepth 100000 in
theorem efIsRow_any (A : Option Addr) (n c : Nat) (ids : List Int) (bound : Int) (w : World) (h : IntsAt w w.heap.size A n ids) (hn : n ≤ 1000000) :
    Calls Tryz.prog 75 #[.int .i64 bound, .slice A n c] w fun e w' => e = .returned (.bool (row bound ids)) ∧ w = w' := by
  have hl := h.1
  have HA := hide h
  have HYes := hide (show (∀ i, i < n → aheadOf ids i < ids.getD i 0 ∧ ids.getD i 0 < bound) → row bound ids = true from fun h => row_yes (by rw [hl]; exact h))
  have HNo := hide (show ∀ i, i < n → (ids.getD i 0 ≤ aheadOf ids i ∨ bound ≤ ids.getD i 0) → row bound ids = false from fun i hi h => row_no (by omega) h)
  generalize row bound ids = res at *
  clear h hl
  go_enter Tryz.func75, Tryz.ntmps75
  go_wp2
  go_loopw [10, 5] (fun x y wr => ∃ i : Nat, i ≤ n ∧ x = .int .i64 (i : Int) ∧ y = .int .i64 (aheadOf ids i) ∧ (∀ j, j < i → aheadOf ids j < ids.getD j 0 ∧ ids.getD j 0 < bound) ∧ wr = w) (fun x _ _ => n - (intOf x).toNat)
  case atStart => exact ⟨0, by omega, rfl, rfl, fun j hj => absurd hj (by omega), rfl⟩
  case round =>
    obtain ⟨i, hi, rfl, rfl, hall, rfl⟩ := hrel
    have HAll := hide hall
    clear hall
    by_cases hlt : i < n
    · have hiI : (i : Int) < (n : Int) := by omega
      rcases HA.out.2 with hn0 | ⟨b1, o1, rfl, _, hc1⟩
      · omega
      have e1 := hc1 i hlt
      have HNi := hide (HNo.out i hlt)
      have HNext := hide (show aheadOf ids i < ids.getD i 0 → ids.getD i 0 < bound → ∀ j, j < i + 1 → aheadOf ids j < ids.getD j 0 ∧ ids.getD j 0 < bound from fun h1 h2 j hj => by
        by_cases e : j = i
        · rw [e]; exact ⟨h1, h2⟩
        · exact HAll.out j (by omega))
      have HS := hide (aheadOf_succ ids i)
      obtain ⟨y, hy⟩ : ∃ y, y = ids.getD i 0 := ⟨_, rfl⟩
      obtain ⟨z, hz⟩ : ∃ z, z = aheadOf ids i := ⟨_, rfl⟩
      rw [← hy] at e1 HNi HNext HS
      rw [← hz] at HNi HNext ⊢
      clear hc1 hy hz
      by_cases g1 : y ≤ z
      · have HR := hide (HNi.out (.inl g1))
        clear HNext HNi HS
        go_wp2
        go_ret
        exact ⟨ret_bool HR.out.symm, rfl⟩
      · by_cases g2 : bound ≤ y
        · have HR := hide (HNi.out (.inr g2))
          clear HNext HNi HS
          go_wp2
          go_ret
          exact ⟨ret_bool HR.out.symm, rfl⟩
        · have hNx := hide (HNext.out (by omega) (by omega))
          clear HNext HNi
          go_wp2
          go_roundw
          case rel => exact ⟨i + 1, by omega, by go_num, by rw [HS.out], hNx.out, trivial⟩
          case measure => simp [intOf]; omega
    · obtain rfl : n = i := by omega
      have HN := hide (HYes.out HAll.out)
      go_wp2
      go_ret
      exact ⟨ret_bool HN.out.symm, rfl⟩

theorem wrap64_pow {k : Nat} (h : k ≤ 20) : wrap64 (2 ^ k) = ((2 ^ k : Nat) : Int) := by
  have h1 : (2 : Nat) ^ k ≤ 2 ^ 20 := Nat.pow_le_pow_right (by omega) h
  rw [show (2 : Int) ^ k = ((2 ^ k : Nat) : Int) by simp]
  generalize 2 ^ k = v at *
  unfold wrap64
  omega

set_option maxHeartbeats 1000000 in
set_option maxRecDepth 100000 in
theorem efLow_any (bd n : Nat) (w : World) (hb : bd ≤ 20000) (hn : n ≤ 20000) : Calls Tryz.prog 98 #[.int .i64 (bd : Int), .int .i64 (n : Int)] w fun e w' => e = .returned (.int .i64 ((widE (bd : Int) n : Nat) : Int)) ∧ Qt w w' := by
  by_cases hz : n = 0
  · subst hz
    have HW := hide (show widE (bd : Int) 0 = 0 by unfold widE wid; rw [Nat.div_zero]; rfl)
    rw [HW.out]
    go_enter Tryz.func98, Tryz.ntmps98
    go_wp2
    go_ret
    exact ⟨rfl, Qt.refl _⟩
  have hzb : ((n : Int) == 0) = false := by rw [beq_eq_false_iff_ne]; omega
  have hnI : (n : Int) ≠ 0 := by omega
  obtain ⟨q, hq⟩ : ∃ q, q = bd / n := ⟨_, rfl⟩
  have hqI : (bd : Int).tdiv (n : Int) = (q : Int) := by rw [hq, Int.tdiv_eq_ediv_of_nonneg (by omega)]; rfl
  have hq2 : q ≤ 20000 := by rw [hq]; exact Nat.le_trans (Nat.div_le_self _ _) (by omega)
  have HWd := hide (show widE (bd : Int) n = wid q by unfold widE; rw [hq, Int.toNat_natCast])
  rw [HWd.out]
  clear hq HWd
  go_enter Tryz.func98, Tryz.ntmps98
  go_wp2
  go_loopw [5] (fun x wr => ∃ j : Nat, x = .int .i64 (j : Int) ∧ (j = 0 ∨ 2 ^ j ≤ q) ∧ j ≤ 16 ∧ Qt w wr) (fun x _ => 20 - (intOf x).toNat)
  case atStart => exact ⟨0, rfl, .inl rfl, by omega, Qt.refl _⟩
  case round =>
    obtain ⟨j, rfl, hj, hj2, hQ⟩ := hrel
    have hwp := wrap64_pow (k := j + 1) (by omega)
    obtain ⟨p, hp⟩ : ∃ p, p = 2 ^ (j + 1) := ⟨_, rfl⟩
    rw [← hp] at hwp
    by_cases hlt : p ≤ q
    · have hI : (p : Int) ≤ (q : Int) := by omega
      have hd : decide ((p : Int) ≤ (q : Int)) = true := decide_eq_true hI
      have hj15 : j < 15 := by
        refine Decidable.byContradiction fun h => ?_
        have : 2 ^ 15 ≤ 2 ^ (j + 1) := Nat.pow_le_pow_right (by omega) (by omega)
        omega
      have HP := hide hp
      have HJ := hide hj
      clear hp hj
      go_wp2_with fail
      go_quiet (fail)
      go_wp2
      go_roundw
      case rel => exact ⟨j + 1, by go_num, .inr (by rw [← HP.out]; exact hlt), by omega, hQ.drewN _⟩
      case measure => simp [intOf]; omega
    · have hI : ¬ (p : Int) ≤ (q : Int) := by omega
      have hd : decide ((p : Int) ≤ (q : Int)) = false := decide_eq_false hI
      have HW := hide (wid_is (q := q) (j := j) hj (by rw [← hp]; omega))
      clear hp hj
      go_wp2_with fail
      go_quiet (fail)
      go_wp2
      go_ret
      exact ⟨ret_i64 (by rw [HW.out]), hQ.drewN _⟩

end Go.Proofs.YtcphapdjimeoaaaGreat

namespace Go.Proofs.YtcphapdjimeoaaaGreat
open Go.RowKit Num Ef

theorem Ef.part_bits (h x k : Nat) (hk : k ≤ 14) (hx : x < 2 ^ k) (hh : h ≤ 1000000) : wrap64 ((h : Int) * 2 ^ k) = ((h * 2 ^ k : Nat) : Int) ∧ bits .or .i64 ((h * 2 ^ k : Nat) : Int) (x : Int) = ((h * 2 ^ k + x : Nat) : Int) := by
  have hpw : (2 : Nat) ^ k ≤ 2 ^ 14 := Nat.pow_le_pow_right (by omega) hk
  have hm : h * 2 ^ k ≤ 1000000 * 2 ^ 14 := Nat.mul_le_mul hh hpw
  have h1 : h * 2 ^ k < 4611686018427387904 := by omega
  have h2 : x < 4611686018427387904 := by omega
  refine ⟨?_, by rw [i64_or_nat (h * 2 ^ k) x h1 h2, part_or h x k hx]⟩
  have e : (h : Int) * 2 ^ k = ((h * 2 ^ k : Nat) : Int) := by push_cast; rfl
  rw [e]
  generalize h * 2 ^ k = m at *
  unfold wrap64
  omega

/-- A row's parts as a value, its memory below block B. -/
structure PartsV (w : World) (B : Nat) (k : Nat) (A1 : Option Addr) (n1 : Nat) (A2 : Option Addr) (n2 : Nat) (ids : List Int) : Prop where
  ex : ∃ L H, IntsAt w B A1 n1 L ∧ IntsAt w B A2 n2 H ∧ Ef.Parts k ids L H
theorem PartsV.ext {w w' : World} {k n1 n2 : Nat} {A1 A2 : Option Addr} {ids : List Int} (h : PartsV w w.heap.size k A1 n1 A2 n2 ids) (hE : Ext w w') : PartsV w' w'.heap.size k A1 n1 A2 n2 ids := by
  obtain ⟨L, H, h1, h2, h3⟩ := h.ex
  exact ⟨L, H, h1.later hE, h2.later hE, h3⟩
/-- Parts as a value. -/
def partsV (k : Nat) (A1 : Option Addr) (n1 c1 : Nat) (A2 : Option Addr) (n2 c2 : Nat) : Value := .agg #[.int .i64 (k : Int), .slice A1 n1 c1, .slice A2 n2 c2]

theorem efCount_any (k : Nat) (A1 : Option Addr) (n1 c1 : Nat) (A2 : Option Addr) (n2 c2 : Nat) (w : World) : Calls Tryz.prog 66 #[partsV k A1 n1 c1 A2 n2 c2] w fun e w' => e = .returned (.int .i64 (n2 : Int)) ∧ Ext w w' := by
  have hE := hide (extNew w (.cells #[.int .i64 (k : Int), .slice A1 n1 c1, .slice A2 n2 c2] 119))
  have hW := Whole.new w 119 #[.int .i64 (k : Int), .slice A1 n1 c1, .slice A2 n2 c2]
  have p2 := hW.at 2 (u := .slice A2 n2 c2) rfl
  clear hW
  unfold partsV
  go_enter Tryz.func66, Tryz.ntmps66
  go_wp2
  go_ret
  exact ⟨rfl, hE.out⟩

set_option maxHeartbeats 400000 in
set_option maxRecDepth 10000 in
theorem efNumber_any {k : Nat} {A1 : Option Addr} {n1 c1 : Nat} {A2 : Option Addr} {n2 c2 : Nat} {ids : List Int} {i : Nat} {w : World} (h : PartsV w w.heap.size k A1 n1 A2 n2 ids) (hi : i < ids.length) :
    Calls Tryz.prog 67 #[partsV k A1 n1 c1 A2 n2 c2, .int .i64 (i : Int)] w fun e w' => e = .returned (.int .i64 (ids.getD i 0)) ∧ Ext w w' := by
  obtain ⟨L, H, h1, h2, hP⟩ := h.ex
  obtain ⟨hk, hl1, hl2, hat⟩ := hP
  obtain ⟨hh, x, eh, ex, hx, hhm, eid⟩ := hat i hi
  have hE := extNew w (.cells #[.int .i64 (k : Int), .slice A1 n1 c1, .slice A2 n2 c2] 119)
  have hW := Whole.new w 119 #[.int .i64 (k : Int), .slice A1 n1 c1, .slice A2 n2 c2]
  have p0 := hW.at 0 (u := .int .i64 (k : Int)) rfl
  have p1 := hW.at 1 (u := .slice A1 n1 c1) rfl
  have p2 := hW.at 2 (u := .slice A2 n2 c2) rfl
  have h1' := h1.later hE
  have h2' := h2.later hE
  have hn1 := h1.1
  have hn2 := h2.1
  have hi1 : (i : Int) < (n1 : Int) := by omega
  have hi2 : (i : Int) < (n2 : Int) := by omega
  rcases h1'.2 with h0 | ⟨b1, o1, rfl, _, hc1⟩
  · omega
  rcases h2'.2 with h0 | ⟨b2, o2, rfl, _, hc2⟩
  · omega
  have e1 := hc1 i (by omega)
  have e2 := hc2 i (by omega)
  rw [ex] at e1
  rw [eh] at e2
  obtain ⟨hwr, hor⟩ := part_bits hh x k hk hx hhm
  rw [eid]
  have HE := hide hE
  clear hW
  unfold partsV
  clear hc1 hc2 h1 h2 h1' h2' hat eid eh ex hl1 hl2 hn1 hn2 h hE hx hhm
  generalize hh * 2 ^ k = m at *
  go_enter Tryz.func67, Tryz.ntmps67
  go_wp2_with fail
  go_quiet (fail)
  go_wp2
  go_ret
  exact ⟨rfl, HE.out.drewN _⟩
end Go.Proofs.YtcphapdjimeoaaaGreat

namespace Go.Proofs.YtcphapdjimeoaaaGreat
open Go.RowKit Num Ef

/-- Block g is a list of these numbers. -/
abbrev LstP := World → Nat → List Int → Prop
def LstKeep (LP : LstP) : Prop := ∀ {W W' : World} {g : Nat} {ids : List Int}, LP W g ids → Ext W W' → LP W' g ids
/-- What Read tells. -/
def RdTo (LP : LstP) (W : World) (r : List Int × Nat × Int) (e : Ending) (w' : World) : Prop :=
  Ext W w' ∧ (r.2.2 = 0 → ∃ g, e = .returned (.tuple #[.pointer (some ⟨g, 0, none⟩), .int .i64 (r.2.1 : Int), .int .i64 0]) ∧ LP w' g r.1) ∧ (r.2.2 ≠ 0 → e = .returned (.tuple #[.pointer none, .int .i64 0, .int .i64 r.2.2]))
/-- What All tells. -/
def AllTo (W : World) (ids : List Int) (e : Ending) (w' : World) : Prop :=
  ∃ A c, e = .returned (.slice A ids.length c) ∧ ids.length ≤ c ∧ c ≤ maxLen ∧ IntsAt w' w'.heap.size A ids.length ids ∧ Ext W w'
/-- What At tells. -/
def Ef.atE (ids : List Int) (i : Int) : Int := if 0 ≤ i ∧ i < (ids.length : Int) then ids.getD i.toNat 0 else 0
def AtTo (W : World) (ids : List Int) (i : Int) (e : Ending) (w' : World) : Prop := e = .returned (.tuple #[.int .i64 (atE ids i), .bool (decide (0 ≤ i ∧ i < (ids.length : Int)))]) ∧ Ext W w'
def NextTo (W : World) (ids : List Int) (x : Int) (e : Ending) (w' : World) : Prop := e = .returned (.tuple #[.int .i64 (nextE ids x).1, .int .i64 (nextE ids x).2.1, .bool (nextE ids x).2.2]) ∧ Ext W w'
/-- From world w on, the program's functions tell what the document's tell. -/
def EfWriteC (w : World) : Prop := ∀ (bound : Int) (ids : List Int) (A : Option Addr) (n c : Nat) (W : World), Ext w W → IsI64 bound → n ≤ c → c ≤ maxLen → n ≤ 20000 → IntsAt W W.heap.size A n ids → Calls Tryz.prog 50 #[.int .i64 bound, .slice A n c] W (MadeE W (writeE bound ids).1 (writeE bound ids).2)
def EfReadC (LP : LstP) (w : World) : Prop := ∀ (bound : Int) (b : List UInt8) (A : Option Addr) (c : Nat) (W : World), Ext w W → IsI64 bound → b.length ≤ c → c ≤ maxLen → b.length ≤ 40000 → Bytes W W.heap.size A b.length b → Calls Tryz.prog 32 #[.int .i64 bound, .slice A b.length c] W (RdTo LP W (readE bound b))
def EfLenC (LP : LstP) (w : World) : Prop := ∀ (ids : List Int) (g : Nat) (W : World), Ext w W → LP W g ids → Calls Tryz.prog 33 #[.pointer (some ⟨g, 0, none⟩)] W fun e w' => e = .returned (.int .i64 (ids.length : Int)) ∧ Ext W w'
def EfAllC (LP : LstP) (w : World) : Prop := ∀ (ids : List Int) (g : Nat) (W : World), Ext w W → LP W g ids → Calls Tryz.prog 34 #[.pointer (some ⟨g, 0, none⟩)] W (AllTo W ids)
theorem Ef.example : writeE 8 [2, 3, 5, 7] = ([4, 0x76, 0xA0], 0) := by decide +kernel

end Go.Proofs.YtcphapdjimeoaaaGreat

namespace Go.Proofs.YtcphapdjimeoaaaGreat
open Go.RowKit Num Ef

theorem Ef.one_len {bound : Int} {b : List UInt8} {ids : List Int} {n : Nat} (h : readE bound b = (ids, n, 0)) : ids.length ≤ 20000 := by
  have h1 := (read_one h).1
  unfold writeE at h1
  split at h1
  · rename_i hc
    have := row_len hc.2
    omega
  · simp at h1

theorem Ef.write_len {bound : Int} {ids : List Int} (he : (writeE bound ids).2 = 0) (hn : ids.length ≤ 2000) : (writeE bound ids).1.length ≤ 4300 := by
  rcases Nat.eq_zero_or_pos ids.length with hz | hz
  · unfold writeE at he ⊢
    split at he
    · rename_i hc
      rw [if_pos hc]
      dsimp only
      unfold rowB
      rw [if_pos hz, List.append_nil]
      have := enc_len ids.length
      omega
    · simp at he
  · have h := short he hz hn
    have hb : bound ≤ 20000 := by
      unfold writeE at he
      split at he
      · rename_i hc; exact hc.1.2
      · simp at he
    have h1 := widE_le (n := ids.length) hb
    have h2 : ids.length * (widE bound ids.length + 3) ≤ 2000 * 17 := Nat.mul_le_mul hn (by omega)
    omega

end Go.Proofs.YtcphapdjimeoaaaGreat

