/- Chapter 23: bytes laid out in stripes, and read back, as plain mathematics. Chapter 23: what was laid out is read, also where some chunks are lost; damage is told: plain mathematics. Chapter 23: what is read, stripe by stripe: how long it is, and where it stops. Chapter 23: the document's Size. Chapter 23: the document's Lay. Chapter 23: counting lost chunks, stripe by stripe, as the statements do; a byte stored in a region that draws its order. -/
import Derived.Test.YtkfipfhmbhmamaaDoorB03
import Derived.Test.YtkfipfhmbhmamaaDoorB06
import Derived.Test.YtkfipfhmbhmamaaDoorB07
import Derived.Test.YtkfipfhmbhmamaaDoorB08
import Derived.Test.YtkfipfhmbhmamaaDoorB09
import Derived.Test.YtkfipfhmbhmamaaDoorB11
namespace Go.Proofs.YtkfipfhmbhmamaaDoor
open Go.RowKit
namespace Stp

/-- May the shape be for n bytes? -/
def mayS (k m c n : Int) : Bool := mayK k m && decide (1 ≤ c ∧ c ≤ 4096 ∧ 0 ≤ n ∧ n ≤ 8388608)
/-- How many stripes n bytes have. -/
def stripesN (k c n : Nat) : Nat := n / (k * c) + if n / (k * c) * k * c < n then 1 else 0
def sizeN (k m c n : Nat) : Nat := stripesN k c n * (k + m) * (c + 4)
/-- How many bytes n bytes have laid out, and an error. -/
def sizeE (k m c n : Int) : Int × Int :=
  if mayS k m c n = true then (if 16777216 < ((sizeN k.toNat m.toNat c.toNat n.toNat : Nat) : Int) then (0, 6) else (((sizeN k.toNat m.toNat c.toNat n.toNat : Nat) : Int), 0)) else (0, 13)
theorem mayS_iff {k m c n : Int} : mayS k m c n = true ↔ (1 ≤ k ∧ 0 ≤ m ∧ k ≤ 255 ∧ m ≤ 255 - k) ∧ (1 ≤ c ∧ c ≤ 4096 ∧ 0 ≤ n ∧ n ≤ 8388608) := by
  unfold mayS
  rw [Bool.and_eq_true, mayK_iff, decide_eq_true_eq]
/-- What is told of a size that is told. -/
theorem size_facts {k m c n : Int} (h : (sizeE k m c n).2 = 0) : ((1 ≤ k ∧ 0 ≤ m ∧ k ≤ 255 ∧ m ≤ 255 - k) ∧ (1 ≤ c ∧ c ≤ 4096 ∧ 0 ≤ n ∧ n ≤ 8388608)) ∧ (sizeE k m c n).1 = ((sizeN k.toNat m.toNat c.toNat n.toNat : Nat) : Int) := by
  unfold sizeE at *
  split at h
  · rename_i hm
    refine ⟨mayS_iff.1 hm, ?_⟩
    rw [if_pos hm]
    split at h
    · simp at h
    · rename_i hs
      rw [if_neg hs]
  · simp at h
theorem size_nat {k m c n : Nat} (hk : 1 ≤ k) (hkm : k + m ≤ 255) (hc : 1 ≤ c) (hc2 : c ≤ 4096) (hn : n ≤ 8388608) (hs : sizeN k m c n ≤ 16777216) : sizeE k m c n = (((sizeN k m c n : Nat) : Int), 0) := by
  unfold sizeE
  rw [if_pos (mayS_iff.2 ⟨⟨by omega, by omega, by omega, by omega⟩, by omega, by omega, by omega, by omega⟩)]
  simp only [Int.toNat_natCast]
  rw [if_neg (by omega)]

/- Stripes laid out. -/
/-- The data of the stripe that begins at a place. -/
def dataAt (k c : Nat) (b : List UInt8) (at_ : Nat) : List (List UInt8) := (List.range k).map fun i => rowB c fun x => b.getD (at_ + i * c + x) 0
theorem data_len (k c : Nat) (b : List UInt8) (a : Nat) : (dataAt k c b a).length = k := by simp [dataAt]
theorem data_at {k c : Nat} {b : List UInt8} {a i : Nat} (h : i < k) : (dataAt k c b a).getD i [] = rowB c fun x => b.getD (a + i * c + x) 0 := by simp [dataAt, List.getD_eq_getElem?_getD, h]
theorem data_alike (k c : Nat) (b : List UInt8) (a : Nat) : alike (dataAt k c b a) := alike_of (N := c) fun i hi => by rw [data_len] at hi; rw [data_at hi, rowB_len]
/-- The chunks of the stripe j. -/
def layS (k m c : Nat) (b : List UInt8) (j : Nat) : List (List UInt8) := codeL k (k + m) (dataAt k c b (j * (k * c)))
theorem layS_len (k m c : Nat) (b : List UInt8) (j : Nat) : (layS k m c b j).length = k + m := codeL_len _ _ _
theorem layS_row {k m c : Nat} {b : List UInt8} {j i : Nat} (hk : 1 ≤ k) (h : i < k + m) : ((layS k m c b j).getD i []).length = c := by
  unfold layS
  rw [codeL_at h, rowB_len, data_at (by omega), rowB_len]
/-- The chunk q of all, counted through the stripes. -/
def chunkQ (k m c : Nat) (b : List UInt8) (q : Nat) : List UInt8 := (layS k m c b (q / (k + m))).getD (q % (k + m)) []
theorem chunkQ_len {k m c : Nat} {b : List UInt8} (hk : 1 ≤ k) (q : Nat) : (chunkQ k m c b q).length = c := layS_row hk (Nat.mod_lt _ (by omega))
theorem chunkQ_at {k m c : Nat} {b : List UInt8} {j i : Nat} (h : i < k + m) : chunkQ k m c b (j * (k + m) + i) = (layS k m c b j).getD i [] := by
  unfold chunkQ
  rw [show j * (k + m) + i = i + (k + m) * j by rw [Nat.mul_comm j, Nat.add_comm], Nat.add_mul_div_left _ _ (by omega), Nat.div_eq_of_lt h, Nat.zero_add, Nat.add_mul_mod_self_left, Nat.mod_eq_of_lt h]
/-- The first q chunks laid out, each with its sum. -/
def layQ (k m c : Nat) (b : List UInt8) (q : Nat) : List UInt8 := (List.range q).flatMap fun i => Crc.put (chunkQ k m c b i)
theorem layQ_zero (k m c : Nat) (b : List UInt8) : layQ k m c b 0 = [] := rfl
theorem layQ_next (k m c : Nat) (b : List UInt8) (q : Nat) : layQ k m c b (q + 1) = layQ k m c b q ++ Crc.put (chunkQ k m c b q) := by
  unfold layQ
  rw [List.range_succ, List.flatMap_append]
  simp
theorem put_len (l : List UInt8) : (Crc.put l).length = l.length + 4 := by unfold Crc.put; simp [Crc.tail]
theorem layQ_len {k m c : Nat} {b : List UInt8} (hk : 1 ≤ k) : ∀ q, (layQ k m c b q).length = q * (c + 4)
  | 0 => by simp [layQ]
  | q + 1 => by rw [layQ_next, List.length_append, layQ_len hk q, put_len, chunkQ_len hk, Nat.succ_mul]
/-- The bytes laid out, and an error. -/
def layE (k m c : Int) (b : List UInt8) : List UInt8 × Int :=
  if (sizeE k m c b.length).2 ≠ 0 then ([], (sizeE k m c b.length).2) else (layQ k.toNat m.toNat c.toNat b (stripesN k.toNat c.toNat b.length * (k.toNat + m.toNat)), 0)

/- Stripes read. -/
/-- The chunk q of bytes, with what stands behind it. -/
def partQ (c : Nat) (s : List UInt8) (q : Nat) : List UInt8 := (s.drop (q * (c + 4))).take (c + 4)
def cutQ (c : Nat) (s : List UInt8) (q : Nat) : List UInt8 := Crc.cutBytes (partQ c s q)
def goodQ (c : Nat) (s : List UInt8) (q : Nat) : Bool := decide (Crc.cutErr (partQ c s q) = 0)
/-- The first i chunks of the stripe j; which of them are good. -/
def partsS (k m c : Nat) (s : List UInt8) (j i : Nat) : List (List UInt8) := (List.range i).map fun x => cutQ c s (j * (k + m) + x)
def goodS (k m c : Nat) (s : List UInt8) (j i : Nat) : List Bool := (List.range i).map fun x => goodQ c s (j * (k + m) + x)
/-- The numbers, of the first q chunks, of those that aren't good. -/
def badN (c : Nat) (s : List UInt8) (q : Nat) : List Nat := (List.range q).filter fun x => !goodQ c s x
def badQ (c : Nat) (s : List UInt8) (q : Nat) : List Int := (badN c s q).map Int.ofNat
/-- How many of the first i chunks of the stripe j aren't good. -/
def lostS (k m c : Nat) (s : List UInt8) (j i : Nat) : Nat := ((List.range i).filter fun x => !goodQ c s (j * (k + m) + x)).length
/-- Is each good chunk of the stripe what is mended? -/
noncomputable def fitsS (k m c : Nat) (s : List UInt8) (j i : Nat) : Bool := (List.range i).all fun x => !(goodQ c s (j * (k + m) + x)) || decide ((mendE k m (partsS k m c s j (k + m)) (goodS k m c s j (k + m))).1.getD x [] = cutQ c s (j * (k + m) + x))
/-- The data of the stripe j, and an error. -/
noncomputable def readS (k m c : Nat) (s : List UInt8) (j : Nat) : List UInt8 × Int :=
  if m < lostS k m c s j (k + m) then ([], 12) else if fitsS k m c s j (k + m) = true then (((mendE k m (partsS k m c s j (k + m)) (goodS k m c s j (k + m))).1.take k).flatten, 0) else ([], 2)
/-- The data of the first j stripes, and an error. -/
noncomputable def readTo (k m c : Nat) (s : List UInt8) : Nat → List UInt8 × Int
  | 0 => ([], 0)
  | j + 1 => if (readTo k m c s j).2 ≠ 0 then ([], (readTo k m c s j).2) else if (readS k m c s j).2 ≠ 0 then ([], (readS k m c s j).2) else ((readTo k m c s j).1 ++ (readS k m c s j).1, 0)
/-- Are all bytes from n on 0? -/
def padded (l : List UInt8) (n : Nat) : Bool := (l.drop n).all fun x => x == 0
/-- What is read: the bytes, the numbers of the chunks that aren't good, and an error. -/
noncomputable def readE (k m c n : Int) (s : List UInt8) : List UInt8 × List Int × Int :=
  if (sizeE k m c n).2 ≠ 0 then ([], [], (sizeE k m c n).2) else
  if (s.length : Int) < (sizeE k m c n).1 then ([], [], 1) else if (sizeE k m c n).1 < (s.length : Int) then ([], [], 2) else
  if (readTo k.toNat m.toNat c.toNat s (stripesN k.toNat c.toNat n.toNat)).2 ≠ 0 then ([], [], (readTo k.toNat m.toNat c.toNat s (stripesN k.toNat c.toNat n.toNat)).2) else
  if padded (readTo k.toNat m.toNat c.toNat s (stripesN k.toNat c.toNat n.toNat)).1 n.toNat = true then
    ((readTo k.toNat m.toNat c.toNat s (stripesN k.toNat c.toNat n.toNat)).1.take n.toNat, badQ c.toNat s (stripesN k.toNat c.toNat n.toNat * (k.toNat + m.toNat)), 0) else ([], [], 2)

/- How many stripes, and how many bytes they hold. -/
theorem stripes_room (k c n : Nat) (h : 1 ≤ k * c) : n ≤ stripesN k c n * (k * c) ∧ stripesN k c n * (k * c) < n + k * c := by
  have h1 := Nat.div_add_mod n (k * c)
  have h2 := Nat.mod_lt n (show k * c > 0 by omega)
  unfold stripesN
  rw [Nat.mul_assoc]
  rw [Nat.mul_comm (k * c)] at h1
  generalize n / (k * c) = q at *
  generalize n % (k * c) = r at *
  generalize k * c = e at *
  split
  · rw [Nat.add_mul, Nat.one_mul]; omega
  · rw [Nat.add_zero]; omega
theorem stripes_zero (k c : Nat) : stripesN k c 0 = 0 := by simp [stripesN]
end Stp
end Go.Proofs.YtkfipfhmbhmamaaDoor

namespace Go.Proofs.YtkfipfhmbhmamaaDoor
open Go.RowKit
namespace Stp

/- Rows of bytes. -/
theorem rowB_add (n m : Nat) (f : Nat → UInt8) : rowB (n + m) f = rowB n f ++ rowB m fun x => f (n + x) := by
  unfold rowB
  rw [List.range_add, List.map_append, List.map_map]
  rfl
theorem data_next (k c : Nat) (b : List UInt8) (a : Nat) : dataAt (k + 1) c b a = dataAt k c b a ++ [rowB c fun x => b.getD (a + k * c + x) 0] := by
  unfold dataAt
  rw [List.range_succ, List.map_append]
  rfl
theorem data_flat (c : Nat) (b : List UInt8) (a : Nat) : ∀ k, (dataAt k c b a).flatten = rowB (k * c) fun x => b.getD (a + x) 0
  | 0 => by simp [dataAt, rowB]
  | k + 1 => by
    rw [data_next, List.flatten_append, data_flat c b a k, Nat.succ_mul, rowB_add]
    simp [Nat.add_assoc]
/-- The bytes of the first j stripes, with padding. -/
def roomTo (k c : Nat) (b : List UInt8) (j : Nat) : List UInt8 := rowB (j * (k * c)) fun x => b.getD x 0
theorem room_next (k c : Nat) (b : List UInt8) (j : Nat) : roomTo k c b (j + 1) = roomTo k c b j ++ (dataAt k c b (j * (k * c))).flatten := by
  unfold roomTo
  rw [data_flat, Nat.succ_mul, rowB_add]
theorem room_take {k c : Nat} {b : List UInt8} {j : Nat} (h : b.length ≤ j * (k * c)) : (roomTo k c b j).take b.length = b := by
  obtain ⟨d, hd⟩ : ∃ d, j * (k * c) = b.length + d := ⟨j * (k * c) - b.length, by omega⟩
  unfold roomTo
  rw [hd, rowB_add, List.take_left' (rowB_len _ _)]
  exact (rowB_of b).symm
theorem room_padded {k c : Nat} {b : List UInt8} {j : Nat} (h : b.length ≤ j * (k * c)) : padded (roomTo k c b j) b.length = true := by
  obtain ⟨d, hd⟩ : ∃ d, j * (k * c) = b.length + d := ⟨j * (k * c) - b.length, by omega⟩
  unfold padded roomTo
  rw [hd, rowB_add, List.drop_left' (rowB_len _ _)]
  rw [List.all_eq_true]
  intro x hx
  unfold rowB at hx
  obtain ⟨i, _, rfl⟩ := List.mem_map.1 hx
  rw [List.getD_eq_getElem?_getD, List.getElem?_eq_none (by omega)]
  rfl

/- Which chunks are good. -/
theorem parts_len (k m c : Nat) (s : List UInt8) (j i : Nat) : (partsS k m c s j i).length = i := by simp [partsS]
theorem parts_at {k m c : Nat} {s : List UInt8} {j i x : Nat} (h : x < i) : (partsS k m c s j i).getD x [] = cutQ c s (j * (k + m) + x) := by simp [partsS, List.getD_eq_getElem?_getD, h]
theorem goods_len (k m c : Nat) (s : List UInt8) (j i : Nat) : (goodS k m c s j i).length = i := by simp [goodS]
theorem goods_at {k m c : Nat} {s : List UInt8} {j i x : Nat} (h : x < i) : (goodS k m c s j i).getD x false = goodQ c s (j * (k + m) + x) := by simp [goodS, List.getD_eq_getElem?_getD, h]
theorem lost_next (k m c : Nat) (s : List UInt8) (j i : Nat) : lostS k m c s j (i + 1) = lostS k m c s j i + if goodQ c s (j * (k + m) + i) = true then 0 else 1 := by
  unfold lostS
  rw [List.range_succ, List.filter_append, List.length_append]
  cases h : goodQ c s (j * (k + m) + i) <;> simp [h]
theorem filter_parts (p : Nat → Bool) : ∀ i, ((List.range i).filter p).length + ((List.range i).filter fun x => !p x).length = i
  | 0 => rfl
  | i + 1 => by
    have h := filter_parts p i
    rw [List.range_succ, List.filter_append, List.filter_append, List.length_append, List.length_append]
    cases hp : p i <;> simp [hp] <;> omega
theorem filter_congr_range {p q : Nat → Bool} {i : Nat} (h : ∀ x, x < i → p x = q x) : (List.range i).filter p = (List.range i).filter q := List.filter_congr fun x hx => h x (List.mem_range.1 hx)
theorem good_many (k m c : Nat) (s : List UInt8) (j i : Nat) : (goodAt (goodS k m c s j i)).length + lostS k m c s j i = i := by
  unfold goodAt lostS
  rw [goods_len, filter_congr_range (q := fun x => goodQ c s (j * (k + m) + x)) fun x hx => goods_at hx]
  exact filter_parts _ i
theorem fits_next (k m c : Nat) (s : List UInt8) (j i : Nat) : fitsS k m c s j (i + 1) = (fitsS k m c s j i && (!(goodQ c s (j * (k + m) + i)) || decide ((mendE k m (partsS k m c s j (k + m)) (goodS k m c s j (k + m))).1.getD i [] = cutQ c s (j * (k + m) + i)))) := by
  unfold fitsS
  rw [List.range_succ, List.all_append]
  simp
theorem bad_next (c : Nat) (s : List UInt8) (q : Nat) : badQ c s (q + 1) = badQ c s q ++ if goodQ c s q = true then [] else [(q : Int)] := by
  unfold badQ badN
  rw [List.range_succ, List.filter_append, List.map_append]
  cases h : goodQ c s q <;> simp [h]

/- A stripe that is hurt, and told. -/
/-- The bytes are those that were laid out, but for chunks that aren't good; of these a stripe has at most m. -/
structure Hurt (k m c : Nat) (b s : List UInt8) : Prop where
  same : ∀ q, q < stripesN k c b.length * (k + m) → goodQ c s q = true → cutQ c s q = chunkQ k m c b q
  few : ∀ j, j < stripesN k c b.length → lostS k m c s j (k + m) ≤ m
theorem place_lt {k m n j i : Nat} (hj : j < n) (hi : i < k + m) : j * (k + m) + i < n * (k + m) :=
  Nat.lt_of_lt_of_le (Nat.add_lt_add_left hi _) (by rw [← Nat.succ_mul]; exact Nat.mul_le_mul_right _ hj)
theorem Hurt.mend {k m c : Nat} {b s : List UInt8} (h : Hurt k m c b s) (hk : 1 ≤ k) (hkm : k + m ≤ 255) {j : Nat} (hj : j < stripesN k c b.length) :
    mendE k m (partsS k m c s j (k + m)) (goodS k m c s j (k + m)) = (layS k m c b j, 0) := by
  have hn := good_many k m c s j (k + m)
  have hf := h.few j hj
  exact mend_code hk hkm (parts_len ..) (goods_len ..) (data_len ..) (data_alike _ _ _ _) (by omega) fun i hi hg => by
    rw [goods_at hi] at hg
    rw [parts_at hi, h.same _ (place_lt hj hi) hg, chunkQ_at hi]
    rfl
theorem lay_data {k m c : Nat} {b : List UInt8} {j : Nat} : (layS k m c b j).take k = dataAt k c b (j * (k * c)) := by
  unfold layS
  refine list_ext ?_ fun i hi => ?_
  · rw [List.length_take, codeL_len, data_len]; omega
  · rw [List.length_take, codeL_len] at hi
    rw [getD_takeP (by omega)]
    exact codeL_data (data_len ..) (data_alike _ _ _ _) (by omega) (by omega)
theorem Hurt.read {k m c : Nat} {b s : List UInt8} (h : Hurt k m c b s) (hk : 1 ≤ k) (hkm : k + m ≤ 255) {j : Nat} (hj : j < stripesN k c b.length) :
    readS k m c s j = ((dataAt k c b (j * (k * c))).flatten, 0) := by
  have hf := h.few j hj
  have hm := h.mend hk hkm hj
  have hfit : fitsS k m c s j (k + m) = true := by
    unfold fitsS
    rw [List.all_eq_true]
    intro x hx
    have hx := List.mem_range.1 hx
    rw [hm]
    dsimp only
    cases hg : goodQ c s (j * (k + m) + x) with
    | false => rfl
    | true =>
      rw [h.same _ (place_lt hj hx) hg, chunkQ_at hx]
      simp
  unfold readS
  rw [if_neg (by omega), if_pos hfit, hm]
  dsimp only
  rw [lay_data]
theorem Hurt.readTo {k m c : Nat} {b s : List UInt8} (h : Hurt k m c b s) (hk : 1 ≤ k) (hkm : k + m ≤ 255) : ∀ j, j ≤ stripesN k c b.length → Stp.readTo k m c s j = (roomTo k c b j, 0)
  | 0, _ => by simp [Stp.readTo, roomTo, rowB]
  | j + 1, hj => by
    rw [Stp.readTo, h.readTo hk hkm j (by omega), h.read hk hkm (by omega), room_next]
    simp
/-- What was laid out, hurt or not, is read as what it was. -/
theorem Hurt.all {k m c : Nat} {b s : List UInt8} (h : Hurt k m c b s) (hk : 1 ≤ k) (hkm : k + m ≤ 255) (hc : 1 ≤ c) (hz : sizeE k m c b.length = (((sizeN k m c b.length : Nat) : Int), 0)) (hs : s.length = sizeN k m c b.length) :
    readE k m c b.length s = (b, badQ c s (stripesN k c b.length * (k + m)), 0) := by
  have hroom := (stripes_room k c b.length (Nat.mul_pos hk hc)).1
  have hr := h.readTo hk hkm _ (Nat.le_refl _)
  unfold readE
  rw [hz]
  dsimp only
  rw [if_neg (by omega), if_neg (by omega), if_neg (by omega)]
  simp only [Int.toNat_natCast]
  rw [hr]
  dsimp only
  rw [if_neg (by omega), if_pos (room_padded hroom), room_take hroom]

/- What was laid out. -/
theorem part_lay {k m c : Nat} {b : List UInt8} (hk : 1 ≤ k) {q : Nat} : ∀ t, q < t → partQ c (layQ k m c b t) q = Crc.put (chunkQ k m c b q)
  | 0, h => by omega
  | t + 1, h => by
    have hl := layQ_len (m := m) (c := c) (b := b) hk t
    rw [layQ_next]
    unfold partQ
    by_cases hq : q = t
    · subst hq
      rw [← hl, List.drop_left' rfl, List.take_of_length_le (by rw [put_len, chunkQ_len hk]; exact Nat.le_refl _)]
    · have hlt : q < t := by omega
      have hle : (q + 1) * (c + 4) ≤ t * (c + 4) := Nat.mul_le_mul_right _ hlt
      rw [Nat.succ_mul] at hle
      rw [List.drop_append_of_le_length (by omega), List.take_append_of_le_length (by rw [List.length_drop]; omega)]
      exact part_lay hk t hlt
theorem lay_good {k m c : Nat} {b : List UInt8} (hk : 1 ≤ k) {q t : Nat} (h : q < t) : goodQ c (layQ k m c b t) q = true ∧ cutQ c (layQ k m c b t) q = chunkQ k m c b q := by
  unfold goodQ cutQ
  rw [part_lay hk t h, (Crc.cut_put _).1, (Crc.cut_put _).2]
  exact ⟨by simp, rfl⟩
theorem layE_nat {k m c : Nat} {b : List UInt8} (hz : sizeE k m c b.length = (((sizeN k m c b.length : Nat) : Int), 0)) : layE k m c b = (layQ k m c b (stripesN k c b.length * (k + m)), 0) := by
  unfold layE
  rw [hz]
  simp
theorem lay_size {k m c : Nat} {b : List UInt8} (hk : 1 ≤ k) : (layQ k m c b (stripesN k c b.length * (k + m))).length = sizeN k m c b.length := by rw [layQ_len hk]; rfl
/-- Nothing that was laid out is lost. -/
theorem lay_hurt {k m c : Nat} {b : List UInt8} (hk : 1 ≤ k) : Hurt k m c b (layQ k m c b (stripesN k c b.length * (k + m))) := ⟨fun q hq _ => (lay_good hk hq).2, fun j hj => by
  unfold lostS
  rw [filter_congr_range (q := fun _ => false) fun x hx => by rw [(lay_good hk (place_lt hj hx)).1]; rfl]
  rw [show (List.range (k + m)).filter (fun _ => false) = [] from by simp]
  exact Nat.zero_le _⟩
theorem lay_none {k m c : Nat} {b : List UInt8} (hk : 1 ≤ k) : badQ c (layQ k m c b (stripesN k c b.length * (k + m))) (stripesN k c b.length * (k + m)) = [] := by
  unfold badQ badN
  rw [filter_congr_range (q := fun _ => false) fun x hx => by rw [(lay_good hk hx).1]; rfl]
  simp
/-- Bytes that have, of those that were laid out, each chunk that is good. -/
theorem hurt_of {k m c : Nat} {b s : List UInt8} (hk : 1 ≤ k) (h : ∀ q, q < stripesN k c b.length * (k + m) → goodQ c s q = true → partQ c s q = partQ c (layQ k m c b (stripesN k c b.length * (k + m))) q)
    (hf : ∀ j, j < stripesN k c b.length → lostS k m c s j (k + m) ≤ m) : Hurt k m c b s := ⟨fun q hq hg => by
  unfold cutQ
  rw [h q hq hg]
  exact (lay_good hk hq).2, hf⟩

/- Damage. -/
theorem readS_err (k m c : Nat) (s : List UInt8) (j : Nat) : (readS k m c s j).2 = 0 ∨ (readS k m c s j).2 = 12 ∨ (readS k m c s j).2 = 2 := by
  unfold readS
  split
  · exact .inr (.inl rfl)
  · split
    · exact .inl rfl
    · exact .inr (.inr rfl)
theorem readTo_err (k m c : Nat) (s : List UInt8) : ∀ j, (Stp.readTo k m c s j).2 = 0 ∨ (Stp.readTo k m c s j).2 = 12 ∨ (Stp.readTo k m c s j).2 = 2
  | 0 => .inl rfl
  | j + 1 => by
    have h1 := readTo_err k m c s j
    have h2 := readS_err k m c s j
    rw [Stp.readTo]
    split
    · exact h1
    · split
      · exact h2
      · exact .inl rfl
theorem readTo_bad {k m c : Nat} {s : List UInt8} {j : Nat} (h : m < lostS k m c s j (k + m)) : ∀ t, j < t → (Stp.readTo k m c s t).2 ≠ 0
  | 0, hj => by omega
  | t + 1, hj => by
    rw [Stp.readTo]
    split
    · assumption
    · rename_i h0
      by_cases hjt : j = t
      · subst hjt
        have : (readS k m c s j).2 = 12 := by unfold readS; rw [if_pos h]
        rw [if_pos (by rw [this]; omega), this]
        simp
      · exact absurd (readTo_bad h t (by omega)) h0
/-- Where a stripe has lost too many chunks, nothing is read. -/
theorem damage {k m c n : Nat} {s : List UInt8} {j : Nat} (hz : sizeE k m c n = (((sizeN k m c n : Nat) : Int), 0)) (hs : s.length = sizeN k m c n) (hj : j < stripesN k c n) (h : m < lostS k m c s j (k + m)) :
    ∃ e, readE k m c n s = ([], [], e) ∧ (e = 12 ∨ e = 2) := by
  have h1 := readTo_err k m c s (stripesN k c n)
  have h2 := readTo_bad h _ hj
  unfold readE
  rw [hz]
  dsimp only
  rw [if_neg (by omega), if_neg (by omega), if_neg (by omega)]
  simp only [Int.toNat_natCast]
  rw [if_pos h2]
  exact ⟨_, rfl, by omega⟩
theorem example23 : layE 1 1 1 [97] = (Crc.put [97] ++ Crc.put [97], 0) := by decide +kernel
end Stp
end Go.Proofs.YtkfipfhmbhmamaaDoor

namespace Go.Proofs.YtkfipfhmbhmamaaDoor
open Go.RowKit
namespace Stp
section
variable {k m c N : Nat} {s : List UInt8}
theorem part_len {q : Nat} (h : q * (c + 4) + (c + 4) ≤ s.length) : (partQ c s q).length = c + 4 := by
  unfold partQ
  rw [List.length_take, List.length_drop]
  omega
theorem part_le (c : Nat) (s : List UInt8) (q : Nat) : (partQ c s q).length ≤ c + 4 := by
  unfold partQ
  rw [List.length_take]
  omega
theorem cut_le (c : Nat) (s : List UInt8) (q : Nat) : (cutQ c s q).length ≤ c := by
  have := part_le c s q
  unfold cutQ Crc.cutBytes
  split
  · simp
  · split
    · rw [List.length_take]; omega
    · simp
theorem cut_len {q : Nat} (h : q * (c + 4) + (c + 4) ≤ s.length) (hg : goodQ c s q = true) : (cutQ c s q).length = c := by
  have hl := part_len h
  unfold goodQ at hg
  have hg := of_decide_eq_true hg
  unfold Crc.cutErr at hg
  unfold cutQ Crc.cutBytes
  rw [if_neg (by omega)] at hg ⊢
  split at hg
  · rename_i hr
    rw [if_pos hr, List.length_take]
    omega
  · omega
theorem place_le {j i : Nat} (hs : s.length = N * (k + m) * (c + 4)) (hj : j < N) (hi : i < k + m) : (j * (k + m) + i) * (c + 4) + (c + 4) ≤ s.length := by
  rw [hs, ← Nat.succ_mul]
  exact Nat.mul_le_mul_right _ (place_lt hj hi)
/-- What a stripe that hasn't lost too much is mended to. -/
theorem mend_some (hk : 1 ≤ k) (hkm : k + m ≤ 255) (hs : s.length = N * (k + m) * (c + 4)) {j : Nat} (hj : j < N) (hl : lostS k m c s j (k + m) ≤ m) :
    ∃ D, D.length = k ∧ alike D ∧ mendE k m (partsS k m c s j (k + m)) (goodS k m c s j (k + m)) = (codeL k (k + m) D, 0) ∧ (D.getD 0 []).length = c := by
  have hn := good_many k m c s j (k + m)
  have hlen : ∀ i, i < k + m → (goodS k m c s j (k + m)).getD i false = true → ((partsS k m c s j (k + m)).getD i []).length = c := fun i hi hg => by
    rw [goods_at hi] at hg
    rw [parts_at hi]
    exact cut_len (place_le hs hj hi) hg
  have hmem : ∀ i, i < (goodAt (goodS k m c s j (k + m))).length → (goodAt (goodS k m c s j (k + m))).getD i 0 < k + m ∧ (goodS k m c s j (k + m)).getD ((goodAt (goodS k m c s j (k + m))).getD i 0) false = true := fun i hi => by
    have h1 : (goodAt (goodS k m c s j (k + m))).getD i 0 ∈ goodAt (goodS k m c s j (k + m)) := by rw [List.getD_eq_getElem?_getD, List.getElem?_eq_getElem hi]; exact List.getElem_mem hi
    have h2 := goodAt_mem.1 h1
    rw [goods_len] at h2
    exact h2
  obtain ⟨D, hD, ha, he, hr⟩ := mend_right (parts := partsS k m c s j (k + m)) (good := goodS k m c s j (k + m)) hk hkm (parts_len ..) (goods_len ..) (by omega) (alike_of (N := c) fun i hi => by
    rw [List.length_map] at hi
    rw [getD_mapL hi]
    exact hlen _ (hmem i hi).1 (hmem i hi).2)
  refine ⟨D, hD, ha, he, ?_⟩
  have h0 := hr 0 (by omega)
  have h1 := hmem 0 (by omega)
  have h2 := hlen _ h1.1 h1.2
  rw [← h0, codeL_at h1.1, rowB_len] at h2
  exact h2
theorem flat_rows : ∀ ls : List (List UInt8), (∀ i, i < ls.length → (ls.getD i []).length = c) → ls.flatten.length = ls.length * c
  | [], _ => by simp
  | a :: t, h => by
    have h0 := h 0 (by simp)
    have h1 := flat_rows t fun i hi => by
      have := h (i + 1) (by simp; omega)
      simpa using this
    rw [List.flatten_cons, List.length_append, h1, List.length_cons, Nat.succ_mul]
    have : a.length = c := by simpa using h0
    omega
theorem readS_len (hk : 1 ≤ k) (hkm : k + m ≤ 255) (hs : s.length = N * (k + m) * (c + 4)) {j : Nat} (hj : j < N) (h : (readS k m c s j).2 = 0) : (readS k m c s j).1.length = k * c := by
  unfold readS at h ⊢
  split at h
  · simp at h
  · rename_i hl
    split at h
    · rename_i hf
      rw [if_neg hl, if_pos hf]
      obtain ⟨D, hD, ha, he, hc⟩ := mend_some hk hkm hs hj (by omega)
      rw [he]
      dsimp only
      have hl2 : ((codeL k (k + m) D).take k).length = k := by rw [List.length_take, codeL_len]; omega
      rw [flat_rows (c := c) _ fun i hi => by rw [hl2] at hi; rw [getD_takeP hi, codeL_at (by omega), rowB_len, hc], hl2]
    · simp at h
theorem readTo_zero (k m c : Nat) (s : List UInt8) : Stp.readTo k m c s 0 = ([], 0) := rfl
theorem readTo_next {j : Nat} (h1 : (Stp.readTo k m c s j).2 = 0) (h2 : (readS k m c s j).2 = 0) : Stp.readTo k m c s (j + 1) = ((Stp.readTo k m c s j).1 ++ (readS k m c s j).1, 0) := by
  rw [Stp.readTo, if_neg (by omega), if_neg (by omega)]
theorem readTo_down {j : Nat} : ∀ t, j ≤ t → (Stp.readTo k m c s t).2 = 0 → (Stp.readTo k m c s j).2 = 0
  | 0, hj, h => by
    obtain rfl : j = 0 := by omega
    exact h
  | t + 1, hj, h => by
    by_cases e : j = t + 1
    · subst e; exact h
    · refine readTo_down t (by omega) ?_
      rw [Stp.readTo] at h
      split at h
      · exact absurd h (by assumption)
      · omega
theorem readTo_len (hk : 1 ≤ k) (hkm : k + m ≤ 255) (hs : s.length = N * (k + m) * (c + 4)) : ∀ j, j ≤ N → (Stp.readTo k m c s j).2 = 0 → (Stp.readTo k m c s j).1.length = j * (k * c)
  | 0, _, _ => by simp [Stp.readTo]
  | j + 1, hj, h => by
    have h1 := readTo_down (j := j) (j + 1) (by omega) h
    have h2 : (readS k m c s j).2 = 0 := by
      rw [Stp.readTo, if_neg (by omega)] at h
      split at h
      · exact absurd h (by assumption)
      · omega
    rw [readTo_next h1 h2, List.length_append, readTo_len hk hkm hs j (by omega) h1, readS_len hk hkm hs (by omega) h2, Nat.succ_mul]
/-- Where a stripe isn't read, nothing is. -/
theorem readTo_stop {j : Nat} (h1 : (Stp.readTo k m c s j).2 = 0) (h2 : (readS k m c s j).2 ≠ 0) : ∀ t, j < t → (Stp.readTo k m c s t).2 = (readS k m c s j).2
  | 0, h => by omega
  | t + 1, h => by
    rw [Stp.readTo]
    by_cases e : j = t
    · subst e
      rw [if_neg (by omega), if_pos h2]
    · have := readTo_stop h1 h2 t (by omega)
      rw [if_pos (by omega)]
      exact this
end
section
variable {k m c n : Nat} {s : List UInt8}
theorem readE_stop (hz : sizeE k m c n = (((sizeN k m c n : Nat) : Int), 0)) (hs : s.length = sizeN k m c n) {j : Nat} (hj : j < stripesN k c n) (h1 : (Stp.readTo k m c s j).2 = 0) (h2 : (readS k m c s j).2 ≠ 0) : readE k m c n s = ([], [], (readS k m c s j).2) := by
  have h3 := readTo_stop h1 h2 _ hj
  unfold readE
  rw [hz]
  dsimp only
  rw [if_neg (by omega), if_neg (by omega), if_neg (by omega)]
  simp only [Int.toNat_natCast]
  rw [if_pos (by omega), h3]
theorem readE_end (hz : sizeE k m c n = (((sizeN k m c n : Nat) : Int), 0)) (hs : s.length = sizeN k m c n) (h1 : (Stp.readTo k m c s (stripesN k c n)).2 = 0) :
    readE k m c n s = if padded (Stp.readTo k m c s (stripesN k c n)).1 n = true then ((Stp.readTo k m c s (stripesN k c n)).1.take n, badQ c s (stripesN k c n * (k + m)), 0) else ([], [], 2) := by
  unfold readE
  rw [hz]
  dsimp only
  rw [if_neg (by omega), if_neg (by omega), if_neg (by omega)]
  simp only [Int.toNat_natCast]
  rw [if_neg (by omega)]
end
theorem readE_err {k m c n : Int} {s : List UInt8} (h : (sizeE k m c n).2 ≠ 0) : readE k m c n s = ([], [], (sizeE k m c n).2) := by unfold readE; rw [if_pos h]
theorem readE_short {k m c n : Int} {s : List UInt8} (h : (sizeE k m c n).2 = 0) (h1 : (s.length : Int) < (sizeE k m c n).1) : readE k m c n s = ([], [], 1) := by unfold readE; rw [if_neg (by omega), if_pos h1]
theorem readE_long {k m c n : Int} {s : List UInt8} (h : (sizeE k m c n).2 = 0) (h1 : (sizeE k m c n).1 < (s.length : Int)) : readE k m c n s = ([], [], 2) := by unfold readE; rw [if_neg (by omega), if_neg (by omega), if_pos h1]
theorem readS_12 {k m c : Nat} {s : List UInt8} {j : Nat} (h : m < lostS k m c s j (k + m)) : readS k m c s j = ([], 12) := by unfold readS; rw [if_pos h]
theorem readS_2 {k m c : Nat} {s : List UInt8} {j : Nat} (h : lostS k m c s j (k + m) ≤ m) (hf : fitsS k m c s j (k + m) = false) : readS k m c s j = ([], 2) := by unfold readS; rw [if_neg (by omega), hf]; simp
theorem readS_0 {k m c : Nat} {s : List UInt8} {j : Nat} (h : lostS k m c s j (k + m) ≤ m) (hf : fitsS k m c s j (k + m) = true) : readS k m c s j = (((mendE k m (partsS k m c s j (k + m)) (goodS k m c s j (k + m))).1.take k).flatten, 0) := by unfold readS; rw [if_neg (by omega), if_pos hf]
/-- A good chunk that isn't what is mended. -/
theorem fits_not {k m c : Nat} {s : List UInt8} {j i : Nat} (hi : i < k + m) (h : (goodQ c s (j * (k + m) + i) = true) ∧ (mendE k m (partsS k m c s j (k + m)) (goodS k m c s j (k + m))).1.getD i [] ≠ cutQ c s (j * (k + m) + i)) : fitsS k m c s j (k + m) = false := by
  cases hf : fitsS k m c s j (k + m) with
  | false => rfl
  | true =>
    unfold fitsS at hf
    rw [List.all_eq_true] at hf
    have := hf i (List.mem_range.2 hi)
    rw [h.1] at this
    simp only [Bool.not_true, Bool.false_or, decide_eq_true_eq] at this
    exact absurd this h.2
theorem parts_next (k m c : Nat) (s : List UInt8) (j i : Nat) : partsS k m c s j (i + 1) = partsS k m c s j i ++ [cutQ c s (j * (k + m) + i)] := by simp [partsS, List.range_succ]
theorem goods_next (k m c : Nat) (s : List UInt8) (j i : Nat) : goodS k m c s j (i + 1) = goodS k m c s j i ++ [goodQ c s (j * (k + m) + i)] := by simp [goodS, List.range_succ]
theorem flat_takeS (ls : List (List UInt8)) (i : Nat) (h : i < ls.length) : (ls.take (i + 1)).flatten = (ls.take i).flatten ++ ls.getD i [] := by
  rw [List.take_succ_eq_append_getElem h, List.flatten_append, List.getD_eq_getElem?_getD, List.getElem?_eq_getElem h]
  simp
theorem bad_len (c : Nat) (s : List UInt8) (q : Nat) : (badQ c s q).length ≤ q := by
  unfold badQ badN
  rw [List.length_map]
  exact Nat.le_trans (List.length_filter_le _ _) (by simp)
end Stp
end Go.Proofs.YtkfipfhmbhmamaaDoor

namespace Go.Proofs.YtkfipfhmbhmamaaDoor
open Go.RowKit Stp

theorem ret_two {a b : Int} {p : Int × Int} (h : p = (a, b)) : Ending.returned (.tuple #[.int .i64 a, .int .i64 b]) = .returned (.tuple #[.int .i64 p.1, .int .i64 p.2]) := by rw [h]
theorem Stp.size_13 {k m c n : Int} (h : mayS k m c n = false) : sizeE k m c n = (0, 13) := by unfold sizeE; rw [h]; rfl
/-- The numbers of which a size is made. -/
structure Stp.Sized (k m c n e q qk qe s t st d z : Nat) : Prop where
  p1 : (k : Int) * (c : Int) = (e : Int)
  p2 : (n : Int).tdiv (e : Int) = (q : Int)
  p3 : (q : Int) * (k : Int) = (qk : Int)
  p4 : (qk : Int) * (c : Int) = (qe : Int)
  p5 : (k : Int) + (m : Int) = (t : Int)
  p6 : (s : Int) * (t : Int) = (st : Int)
  p7 : (c : Int) + 4 = (d : Int)
  p8 : (st : Int) * (d : Int) = (z : Int)
  hs : s = q + if qe < n then 1 else 0
  he : 1 ≤ e ∧ e ≤ 1044480
  hq : q ≤ n ∧ qk ≤ n ∧ qe ≤ n
  ht : t ≤ 255 ∧ d ≤ 4100
  hst : st ≤ 2139095295
  hz : z ≤ 8770290709500
  hsz : sizeN k m c n = z
theorem Stp.sized {k m c n : Nat} (hk : 1 ≤ k) (hkm : k + m ≤ 255) (hc : 1 ≤ c) (hc2 : c ≤ 4096) (hn : n ≤ 8388608) : ∃ e q qk qe s t st d z, Sized k m c n e q qk qe s t st d z := by
  have he1 : 1 ≤ k * c := Nat.mul_pos hk hc
  have he2 : k * c ≤ 255 * 4096 := Nat.mul_le_mul (by omega) hc2
  have hqe : n / (k * c) * (k * c) ≤ n := Nat.div_mul_le_self _ _
  have hq : n / (k * c) ≤ n := Nat.div_le_self _ _
  have hqk : n / (k * c) * k ≤ n / (k * c) * (k * c) := Nat.mul_le_mul_left _ (Nat.le_mul_of_pos_right _ hc)
  have hs : stripesN k c n ≤ 8388609 := by unfold stripesN; split <;> omega
  have hst : stripesN k c n * (k + m) ≤ 8388609 * 255 := Nat.mul_le_mul hs hkm
  have hz : stripesN k c n * (k + m) * (c + 4) ≤ 8388609 * 255 * 4100 := Nat.mul_le_mul hst (by omega)
  exact ⟨k * c, n / (k * c), n / (k * c) * k, n / (k * c) * k * c, stripesN k c n, k + m, stripesN k c n * (k + m), c + 4, sizeN k m c n, {
    p1 := (Int.natCast_mul _ _).symm
    p2 := by rw [Int.tdiv_eq_ediv_of_nonneg (by omega)]; exact (Int.natCast_ediv _ _).symm
    p3 := (Int.natCast_mul _ _).symm
    p4 := (Int.natCast_mul _ _).symm
    p5 := (Int.natCast_add _ _).symm
    p6 := (Int.natCast_mul _ _).symm
    p7 := (Int.natCast_add _ _).symm
    p8 := by unfold sizeN; exact (Int.natCast_mul _ _).symm
    hs := rfl
    he := ⟨he1, by omega⟩
    hq := ⟨hq, by omega, by rw [Nat.mul_assoc]; exact hqe⟩
    ht := ⟨hkm, by omega⟩
    hst := by omega
    hz := by unfold sizeN; omega
    hsz := rfl }⟩

set_option maxHeartbeats 4000000 in
set_option maxRecDepth 100000 in
theorem refSize23_any (k m c n : Int) (w : World) (hk64 : k ≤ 9223372036854775807) :
    Calls Tryd.prog 11 #[.int .i64 k, .int .i64 m, .int .i64 c, .int .i64 n] w fun e w' => e = .returned (.tuple #[.int .i64 (sizeE k m c n).1, .int .i64 (sizeE k m c n).2]) ∧ w = w' := by
  have CM := fun W => refMayK_any k m W hk64
  obtain ⟨z, hz⟩ : ∃ z, z = sizeE k m c n := ⟨_, rfl⟩
  rw [← hz]
  have HC := hide hz
  clear hz hk64
  by_cases h1 : mayK k m = true
  rotate_left
  · have h1 := Bool.eq_false_iff.2 h1
    have HR := hide (show z = (0, 13) from HC.out.trans (size_13 (by unfold mayS; rw [h1]; rfl)))
    rw [h1] at CM
    clear HC
    go_enter Tryd.func11, Tryd.ntmps11
    go_wp2_with fail
    refine (CM _).mono ?_
    rintro e w2 ⟨rfl, rfl⟩
    go_wp2
    go_ret2
    exact ⟨ret_two HR.out, rfl⟩
  have H1 := hide h1
  rw [h1] at CM
  clear h1
  by_cases h2 : 1 ≤ c ∧ c ≤ 4096 ∧ 0 ≤ n ∧ n ≤ 8388608
  rotate_left
  · have HR := hide (show z = (0, 13) from HC.out.trans (size_13 (by unfold mayS; rw [H1.out, decide_eq_false h2]; rfl)))
    clear HC
    by_cases g1 : c < 1
    · go_enter Tryd.func11, Tryd.ntmps11
      go_wp2_with fail
      refine (CM _).mono ?_
      rintro e w2 ⟨rfl, rfl⟩
      go_wp2
      go_ret2
      exact ⟨ret_two HR.out, rfl⟩
    rw [Int.not_lt] at g1
    by_cases g2 : 4096 < c
    · go_enter Tryd.func11, Tryd.ntmps11
      go_wp2_with fail
      refine (CM _).mono ?_
      rintro e w2 ⟨rfl, rfl⟩
      go_wp2
      go_ret2
      exact ⟨ret_two HR.out, rfl⟩
    rw [Int.not_lt] at g2
    by_cases g3 : n < 0
    · go_enter Tryd.func11, Tryd.ntmps11
      go_wp2_with fail
      refine (CM _).mono ?_
      rintro e w2 ⟨rfl, rfl⟩
      go_wp2
      go_ret2
      exact ⟨ret_two HR.out, rfl⟩
    rw [Int.not_lt] at g3
    have g4 : 8388608 < n := by omega
    clear h2
    go_enter Tryd.func11, Tryd.ntmps11
    go_wp2_with fail
    refine (CM _).mono ?_
    rintro e w2 ⟨rfl, rfl⟩
    go_wp2
    go_ret2
    exact ⟨ret_two HR.out, rfl⟩
  have hM : mayS k m c n = true := by unfold mayS; rw [H1.out, decide_eq_true h2]; rfl
  obtain ⟨⟨a1, a2, a3, a4⟩, b1, b2, b3, b4⟩ := mayS_iff.1 hM
  clear H1 h2
  obtain ⟨k, rfl⟩ := Int.eq_ofNat_of_zero_le (show 0 ≤ k by omega)
  obtain ⟨m, rfl⟩ := Int.eq_ofNat_of_zero_le (show 0 ≤ m by omega)
  obtain ⟨c, rfl⟩ := Int.eq_ofNat_of_zero_le (show 0 ≤ c by omega)
  obtain ⟨n, rfl⟩ := Int.eq_ofNat_of_zero_le (show 0 ≤ n by omega)
  obtain ⟨e, q, qk, qe, s, t, st, d, y, S⟩ := sized (k := k) (m := m) (c := c) (n := n) (by omega) (by omega) (by omega) (by omega) (by omega)
  have HZ := hide (show z = if 16777216 < ((y : Nat) : Int) then (0, 6) else (((y : Nat) : Int), 0) by rw [HC.out]; unfold sizeE; rw [if_pos hM]; simp only [Int.toNat_natCast]; rw [S.hsz])
  have p1 := S.p1
  have p2 := S.p2
  have p3 := S.p3
  have p4 := S.p4
  have p5 := S.p5
  have p6 := S.p6
  have p7 := S.p7
  have p8 := S.p8
  have q1 : (1 : Int) ≤ (e : Int) ∧ (e : Int) ≤ 1044480 := by have := S.he; omega
  have q2 : (q : Int) ≤ 8388608 ∧ (qk : Int) ≤ 8388608 ∧ (qe : Int) ≤ 8388608 := by have := S.hq; omega
  have q3 : (t : Int) ≤ 255 ∧ (d : Int) ≤ 4100 := by have := S.ht; omega
  have q4 : (st : Int) ≤ 2139095295 ∧ (y : Int) ≤ 8770290709500 := by have := S.hst; have := S.hz; omega
  have q5 : ((e : Int) == 0) = false := by rw [beq_eq_false_iff_ne]; omega
  have q6 : ¬ (e : Int) = 0 := by omega
  obtain ⟨q11, q12⟩ := q1
  obtain ⟨q21, q22, q23⟩ := q2
  obtain ⟨q31, q32⟩ := q3
  obtain ⟨q41, q42⟩ := q4
  have hs := S.hs
  clear S HC hM
  by_cases hlt : qe < n
  · rw [if_pos hlt] at hs
    have hltI : (qe : Int) < (n : Int) := by omega
    have hsI : (q : Int) + 1 = (s : Int) := by omega
    clear hs
    by_cases hbig : 16777216 < (y : Int)
    · have HR := hide (HZ.out.trans (if_pos hbig))
      clear HZ
      go_enter Tryd.func11, Tryd.ntmps11
      go_wp2_with fail
      refine (CM _).mono ?_
      rintro e w2 ⟨rfl, rfl⟩
      go_wp2
      go_ret2
      exact ⟨ret_two HR.out, rfl⟩
    · have HR := hide (HZ.out.trans (if_neg hbig))
      clear HZ
      go_enter Tryd.func11, Tryd.ntmps11
      go_wp2_with fail
      refine (CM _).mono ?_
      rintro e w2 ⟨rfl, rfl⟩
      go_wp2
      go_ret2
      exact ⟨ret_two HR.out, rfl⟩
  · rw [if_neg hlt, Nat.add_zero] at hs
    have hltI : ¬ (qe : Int) < (n : Int) := by omega
    subst hs
    by_cases hbig : 16777216 < (y : Int)
    · have HR := hide (HZ.out.trans (if_pos hbig))
      clear HZ
      go_enter Tryd.func11, Tryd.ntmps11
      go_wp2_with fail
      refine (CM _).mono ?_
      rintro e w2 ⟨rfl, rfl⟩
      go_wp2
      go_ret2
      exact ⟨ret_two HR.out, rfl⟩
    · have HR := hide (HZ.out.trans (if_neg hbig))
      clear HZ
      go_enter Tryd.func11, Tryd.ntmps11
      go_wp2_with fail
      refine (CM _).mono ?_
      rintro e w2 ⟨rfl, rfl⟩
      go_wp2
      go_ret2
      exact ⟨ret_two HR.out, rfl⟩
end Go.Proofs.YtkfipfhmbhmamaaDoor

namespace Go.Proofs.YtkfipfhmbhmamaaDoor
open Go.RowKit Stp

namespace Stp
theorem stripes_lt {k c n j : Nat} (h : 1 ≤ k * c) : j < stripesN k c n ↔ j * (k * c) < n := by
  obtain ⟨h1, h2⟩ := stripes_room k c n h
  constructor
  · intro hj
    have h3 : (j + 1) * (k * c) ≤ stripesN k c n * (k * c) := Nat.mul_le_mul_right _ hj
    rw [Nat.succ_mul] at h3
    omega
  · intro hj
    rcases Nat.lt_or_ge j (stripesN k c n) with h3 | h3
    · exact h3
    · have := Nat.mul_le_mul_right (k * c) h3
      omega
theorem parity_is {k m c : Nat} (hk : 1 ≤ k) (hkm : k + m ≤ 255) (b : List UInt8) (j : Nat) : parityE (m : Int) (dataAt k c b (j * (k * c))) = ((layS k m c b j).drop k, 0) :=
  code_parity hk hkm (data_len ..) (data_alike _ _ _ _)
theorem drop_at {ls : List (List UInt8)} {k i : Nat} : (ls.drop k).getD i [] = ls.getD (k + i) [] := by simp [List.getD_eq_getElem?_getD]
theorem chunk_data {k m c : Nat} {b : List UInt8} {j i : Nat} (h : i < k) : chunkQ k m c b (j * (k + m) + i) = rowB c fun x => b.getD (j * (k * c) + i * c + x) 0 := by
  rw [chunkQ_at (by omega)]
  unfold layS
  rw [codeL_data (data_len ..) (data_alike _ _ _ _) h (by omega), data_at h]
theorem chunk_par {k m c : Nat} {b : List UInt8} {j i : Nat} (h : i < m) : chunkQ k m c b (j * (k + m) + (k + i)) = ((layS k m c b j).drop k).getD i [] := by
  rw [chunkQ_at (by omega), drop_at]
theorem layE_ok {k m c : Nat} {b : List UInt8} (h : (sizeE k m c b.length).2 = 0) : layE k m c b = (layQ k m c b (stripesN k c b.length * (k + m)), 0) := by
  unfold layE
  rw [if_neg (by omega)]
  simp
theorem layE_err {k m c : Int} {b : List UInt8} (h : (sizeE k m c b.length).2 ≠ 0) : layE k m c b = ([], (sizeE k m c b.length).2) := by
  unfold layE
  rw [if_pos h]
end Stp

set_option maxHeartbeats 8000000 in
set_option maxRecDepth 100000 in
theorem refLay23_any (k m c : Int) (A : Option Addr) (n cap : Nat) (b : List UInt8) (w : World) (hk64 : k ≤ 9223372036854775807) (hb : Bytes w w.heap.size A n b) (hz : (sizeE k m c n).1 ≤ 20000) :
    Calls Tryd.prog 13 #[.int .i64 k, .int .i64 m, .int .i64 c, .slice A n cap] w (MadeE w (layE k m c b).1 (layE k m c b).2) := by
  have hbl := hb.1
  have CS := fun W => refSize23_any k m c (n : Int) W hk64
  by_cases he : (sizeE k m c (n : Int)).2 = 0
  rotate_left
  · have HR := hide (show layE k m c b = ([], (sizeE k m c (n : Int)).2) from by rw [← hbl] at he ⊢; exact layE_err he)
    rw [HR.out]
    have hne : ((sizeE k m c (n : Int)).2 == 0) = false := by rw [beq_eq_false_iff_ne]; exact he
    generalize (sizeE k m c (n : Int)).1 = z at *
    generalize (sizeE k m c (n : Int)).2 = er at *
    unfold MadeE
    dsimp only
    clear hb hbl hz hk64 HR
    go_enter Tryd.func13, Tryd.ntmps13
    go_wp2_with fail
    refine (CS _).mono ?_
    rintro e w2 ⟨rfl, rfl⟩
    go_wp2
    go_ret2
    exact ⟨_, rfl, OwnB.nil _ _, Ext.refl _⟩
  obtain ⟨⟨⟨a1, a2, a3, a4⟩, b1, b2, b3, b4⟩, hz1⟩ := size_facts he
  obtain ⟨k, rfl⟩ := Int.eq_ofNat_of_zero_le (show 0 ≤ k by omega)
  obtain ⟨m, rfl⟩ := Int.eq_ofNat_of_zero_le (show 0 ≤ m by omega)
  obtain ⟨c, rfl⟩ := Int.eq_ofNat_of_zero_le (show 0 ≤ c by omega)
  simp only [Int.toNat_natCast] at hz1
  rw [hz1] at hz
  have HR := hide (show layE k m c b = (layQ k m c b (stripesN k c n * (k + m)), 0) from by rw [← hbl] at he ⊢; exact layE_ok he)
  rw [HR.out]
  have hk1 : 1 ≤ k := by omega
  have hkm : k + m ≤ 255 := by omega
  have hc1 : 1 ≤ c := by omega
  have hc2 : c ≤ 4096 := by omega
  have hsz : stripesN k c n * (k + m) * (c + 4) ≤ 20000 := by unfold sizeN at hz; omega
  have he1 : 1 ≤ k * c := Nat.mul_pos hk1 hc1
  have he2 : k * c ≤ 255 * 4096 := Nat.mul_le_mul (by omega) hc2
  have HLT := hide (fun j => stripes_lt (k := k) (c := c) (n := n) (j := j) he1)
  have HRm := hide (stripes_room k c n he1)
  have hQl := hide (fun q => layQ_len (k := k) (m := m) (c := c) (b := b) hk1 q)
  have HTot := hide hsz
  obtain ⟨N, hN⟩ : ∃ N, N = stripesN k c n := ⟨_, rfl⟩
  rw [← hN] at HTot HLT HRm ⊢
  rw [he] at CS
  clear hN hz hz1 he HR hsz a1 a2 a3 a4 b1 b2
  generalize (sizeE (k : Int) (m : Int) (c : Int) (n : Int)).1 = z at *
  obtain ⟨e, hE0⟩ : ∃ e, e = k * c := ⟨_, rfl⟩
  have HEd := hide hE0
  rw [← hE0] at he1 he2
  have p1 : (k : Int) * (c : Int) = (e : Int) := by rw [hE0]; exact (Int.natCast_mul _ _).symm
  have q1 : (e : Int) ≤ 1044480 := by omega
  have HB := hide hb
  have HBl := hide hbl
  unfold MadeE
  dsimp only
  clear hE0 hb hbl hk64
  have hn9 : n ≤ 8388608 := by omega
  go_enter Tryd.func13, Tryd.ntmps13
  go_wp2_with fail
  refine (CS _).mono ?_
  rintro e' w2 ⟨rfl, rfl⟩
  clear CS
  go_wp2_with fail
  go_loopw [12, 13] (fun v z wr => ∃ j : Nat, j ≤ N ∧ z = .int .i64 ((j * e : Nat) : Int) ∧ OwnB wr w.heap.size v (layQ k m c b (j * (k + m))) ∧ Ext w wr) (fun _ z _ => n - (intOf z).toNat)
  case atStart => exact ⟨0, by omega, by simp, by rw [Nat.zero_mul]; exact OwnB.nil _ _, Ext.refl _⟩
  case round =>
    obtain ⟨j, hj, rfl, hO, hE⟩ := hrel
    have HO := hide hO
    have HE := hide hE
    clear hO hE
    by_cases hlt : j < N
    · have hln := (HLT.out j).1 hlt
      rw [← HEd.out] at hln
      have hjm : j * (k + m) + (k + m) ≤ N * (k + m) := by rw [← Nat.succ_mul]; exact Nat.mul_le_mul_right _ hlt
      have HQ := hide (show ∀ i, i ≤ k + m → (layQ k m c b (j * (k + m) + i)).length ≤ 20000 from fun i hi => by
        rw [hQl.out]
        exact Nat.le_trans (Nat.mul_le_mul_right _ (by omega)) HTot.out)
      have HCd := hide (fun i (h : i < k) => chunk_data (k := k) (m := m) (c := c) (b := b) (j := j) h)
      have HCp := hide (fun i (h : i < m) => chunk_par (k := k) (m := m) (c := c) (b := b) (j := j) h)
      have HPar := hide (parity_is (c := c) hk1 hkm b j)
      rw [← HEd.out] at HCd HPar
      have HNx := hide (fun q => layQ_next k m c b q)
      obtain ⟨aj, haj⟩ : ∃ a, a = j * e := ⟨_, rfl⟩
      rw [← haj] at hln HCd HPar ⊢
      have HAJ := hide haj
      have hlnI : (aj : Int) < (n : Int) := by omega
      have haj0 : (aj : Int) ≤ 8388608 := by omega
      have hst := HO.out
      clear haj hjm
      obtain ⟨wa, rfl⟩ : ∃ W, W = wr := ⟨_, rfl⟩
      go_wp2_with fail
      go_loopw [12, 14, 15] (fun vo vd z wr => ∃ i : Nat, i ≤ k ∧ z = .int .i64 (i : Int) ∧ TwoL wr w.heap.size wr.heap.size vd (dataAt i c b aj) vo (layQ k m c b (j * (k + m) + i)) ∧ Ext w wr) (fun _ _ z _ => k - (intOf z).toNat)
      case atStart => exact ⟨0, by omega, rfl, TwoL.start hst (Nat.le_refl _), HE.out⟩
      case round =>
        clear hst HO HE
        obtain ⟨i, hi, rfl, hT, hE⟩ := hrel
        have HE := hide hE
        clear hE
        by_cases hik : i < k
        · have hikI : (i : Int) < (k : Int) := by omega
          have hic9 : i * c ≤ 255 * 4096 := Nat.mul_le_mul (by omega) hc2
          have HDn := hide (data_next i c b aj)
          have HCi := hide (HCd.out i hik)
          obtain ⟨f, hf⟩ : ∃ f : Nat → UInt8, f = fun x => b.getD (aj + i * c + x) 0 := ⟨_, rfl⟩
          have HF := hide (show ∀ x, f x = b.getD (aj + i * c + x) 0 from fun x => by rw [hf])
          rw [← hf] at HDn HCi
          obtain ⟨ic, hic⟩ : ∃ x, x = i * c := ⟨_, rfl⟩
          rw [← hic] at HF hic9
          have p2 : (i : Int) * (c : Int) = (ic : Int) := by rw [hic]; exact (Int.natCast_mul _ _).symm
          have p3 : ((i : Int) + 1) * (c : Int) = ((ic + c : Nat) : Int) := by rw [Int.add_mul, p2]; omega
          obtain ⟨i1, hi1⟩ : ∃ x, x = ic + c := ⟨_, rfl⟩
          rw [← hi1] at p3
          obtain ⟨x0, hx0⟩ : ∃ x, x = aj + ic := ⟨_, rfl⟩
          rw [← hx0] at HF
          have p4 : (aj : Int) + (ic : Int) = (x0 : Int) := by omega
          obtain ⟨lim, hlim⟩ : ∃ x, x = aj + i1 := ⟨_, rfl⟩
          have p5 : (aj : Int) + (i1 : Int) = (lim : Int) := by omega
          have q2 : (ic : Int) ≤ 1044480 := by omega
          have q3 : (i1 : Int) ≤ 1048576 := by omega
          have q4 : (lim : Int) ≤ 9437184 := by omega
          have HLim := hide (show lim = x0 + c by omega)
          clear hf hic hi1 hx0 hlim hic9
          obtain ⟨wb, rfl⟩ : ∃ W, W = wr := ⟨_, rfl⟩
          have HT := hide hT
          clear hT
          go_wp2_with fail
          go_loopw [16, 17] (fun v z wr => ∃ x : Nat, x ≤ c ∧ z = .int .i64 ((x0 + x : Nat) : Int) ∧ OwnB wr wb.heap.size v (rowB x f) ∧ Ext wb wr) (fun _ z _ => lim - (intOf z).toNat)
          case atStart => exact ⟨0, by omega, rfl, OwnB.nil _ _, Ext.refl _⟩
          case round =>
            obtain ⟨x, hx, rfl, hP, hE3⟩ := hrel
            have hE4 := HE.out.trans hE3
            by_cases hxc : x < c
            · obtain ⟨y, hy⟩ : ∃ y, y = x0 + x := ⟨_, rfl⟩
              obtain ⟨bt, hbt⟩ : ∃ bt, bt = f x := ⟨_, rfl⟩
              have hfb : bt = b.getD y 0 := by rw [hbt, HF.out, hy]
              have HS := hide (show rowB (x + 1) f = rowB x f ++ [bt] by rw [rowB_succ, hbt])
              have hyI : (y : Int) < (lim : Int) := by have := HLim.out; omega
              have hy1 : x0 + (x + 1) = y + 1 := by omega
              rw [← hy]
              have HY1 := hide hy1
              have hfit : (rowB x f).length + 1 ≤ 140737488355328 := by rw [rowB_len]; omega
              have hb1 := bytesNew wr [bt] #[.int .u8 (bt.toNat : Int)] 5 (0, 0) rfl 1 rfl
              have hE5 := extNew wr (.cells #[.int .u8 (bt.toNat : Int)] 5)
              have hP1 := hP.ext hE5
              have hB1 : wb.heap.size ≤ (wr.alloc (.cells #[.int .u8 (bt.toNat : Int)] 5)).heap.size := (hE3.trans hE5).le
              have hy9 : (y : Int) ≤ 9437184 := by omega
              by_cases hyn : y < n
              · have hynI : (y : Int) < (n : Int) := by omega
                rcases (hE4.bytes HB.out).2 with h0 | ⟨g, o, rfl, hg, hc⟩
                · omega
                have kx := hc y hyn
                rw [← hfb] at kx
                clear hc hy hbt hfb hy1
                go_wp2_with (at_builtin; refine wpList_appAt rfl (.tmp 71) (.tmp 73) rfl rfl hP1 rfl hb1 hfit hB1 ?_; intro v6 w6 hO6 hG6 hN6)
                go_roundw
                case rel => exact ⟨x + 1, by omega, by rw [HY1.out]; go_num, by rw [HS.out]; exact hO6, Below.grown (hE3.trans hE5) hG6 hB1 (fun q hq => (hP1.lt q hq).1)⟩
                case measure => simp [intOf]; omega
              · have hynI : ¬ (y : Int) < (n : Int) := by omega
                have hb0 : bt = 0 := by rw [hfb, List.getD_eq_getElem?_getD, List.getElem?_eq_none (by have := HBl.out; omega)]; rfl
                clear hy hbt hfb hy1
                subst hb0
                go_wp2_with (at_builtin; refine wpList_appAt rfl (.tmp 71) (.tmp 73) rfl rfl hP1 rfl hb1 hfit hB1 ?_; intro v6 w6 hO6 hG6 hN6)
                go_roundw
                case rel => exact ⟨x + 1, by omega, by rw [HY1.out]; go_num, by rw [HS.out]; exact hO6, Below.grown (hE3.trans hE5) hG6 hB1 (fun q hq => (hP1.lt q hq).1)⟩
                case measure => simp [intOf]; omega
            · obtain rfl : c = x := by omega
              have hyI : ¬ ((x0 + c : Nat) : Int) < (lim : Int) := by have := HLim.out; omega
              obtain ⟨yy, hyy⟩ : ∃ y, y = x0 + c := ⟨_, rfl⟩
              rw [← hyy] at hyI ⊢
              have HDl := hide (rowB_len c f)
              generalize rowB c f = D at *
              obtain ⟨A7, k7, hv7, hk7, hm7, hb7⟩ := hP.form
              rw [HDl.out] at hv7 hk7 hb7
              subst hv7
              have hrow := hP.row
              have hnew := NewX.own hP
              have hT := HT.out.ext hE3
              have hv14 := HT.out.lt
              have hbase := hE4.le
              have hln1 : (dataAt i c b aj).length ≤ 1000 := by rw [data_len]; omega
              have hE5 := extNew wr (.cells #[.slice A7 c k7] 27)
              have hP5 := hP.ext hE5
              have hne : (Value.slice A7 c k7).ownBlock = none ∨ (Value.slice A7 c k7).ownBlock ≠ u14.ownBlock := by
                cases hq : (Value.slice A7 c k7).ownBlock with
                | none => exact .inl rfl
                | some q => exact .inr fun e => by have h1 := (hP.lt q hq).1; have h2 := (hv14 q e.symm).2; omega
              have hq20 := HQ.out i (by omega)
              have hfit : (layQ k m c b (j * (k + m) + i)).length + (c + 4) ≤ 140737488355328 := by omega
              have HNi := hide (HNx.out (j * (k + m) + i))
              rw [HCi.out] at HNi
              have CP := fun W hb => refCrcPut_any A7 c k7 D W (by omega) hb
              have HPl := hide (show (Crc.put D).length = c + 4 by rw [put_len, HDl.out])
              unfold MadeB at CP
              generalize Crc.put D = PD at *
              clear hyy hb7 hv14 hq20 hk7 hm7 hP
              go_wp2_with (first
                | (at_builtin; refine wpList_appTR rfl (.tmp 75) (.tmp 77) rfl rfl hT hrow hnew rfl hln1 hbase ?_; intro v5 w5 hT5 hG5 hj5; have hF5 : Ext w w5 := Below.grown (hE4.trans hE5) hG5 (hE4.trans hE5).le hj5; have hb5 := OwnB.bytesR (World.ownsRow.kept hP5 hG5 hne); have CP5 := CP w5 hb5; clear hT hP5 hG5 hb5 hrow hnew hne hln1 hbase hE5 CP)
                | (go_at_call 20; refine CP5.mono ?_; rintro e6 w6 ⟨v6, rfl, hO6, hE6⟩; obtain ⟨A6, c6, hv6, -, -, hb6⟩ := hO6.form; rw [HPl.out] at hv6 hb6; subst hv6; have hT6 := hT5.ext hE6; have hF6 := hF5.trans hE6; have hB6 := hF6.le; clear hO6 hE6 hT5 hF5 CP5)
                | (at_builtin; refine wpList_appTB rfl (.tmp 79) (.tmp 81) rfl rfl hT6 rfl hb6 hfit hB6 ?_; intro v7 w7 hT7 hG7 hj7; have hF7 : Ext w w7 := Below.grown hF6 hG7 hB6 hj7; clear hT6 hb6 hG7 hF6 hB6))
              go_roundw
              case rel => exact ⟨i + 1, by omega, by go_num, by rw [← Nat.add_assoc, HNi.out, HDn.out]; exact hT7, hF7⟩
              case measure => simp [intOf]; omega
        · obtain rfl : k = i := by omega
          have hikI : ¬ (k : Int) < (k : Int) := by omega
          obtain ⟨Ad, cd, hvd, -, -, hRd⟩ := hT.rows
          rw [data_len] at hvd
          subst hvd
          have CPar := refParityN_any (m : Int) Ad cd (dataAt k c b aj) wr hRd (by rw [data_len]; omega) (by rw [data_at (by omega), rowB_len]; omega)
          rw [HPar.out, data_len] at CPar
          obtain ⟨Y, hY⟩ : ∃ Y, Y = (layS k m c b j).drop k := ⟨_, rfl⟩
          rw [← hY] at CPar HCp
          have HYl := hide (show Y.length = m by rw [hY, List.length_drop, layS_len]; omega)
          have HYr := hide (show ∀ i, i < m → (Y.getD i []).length = c from fun i hi => by rw [hY, drop_at, layS_row hk1 (by omega)])
          have hown := hT.own
          have hlt12 := hown.lt
          have hbW := HE.out.le
          unfold MadeNE at CPar
          dsimp only at CPar
          clear hY hRd HPar HCd hT
          generalize dataAt k c b aj = dd at *
          go_wp2_with fail
          refine CPar.mono ?_
          rintro e5 w5 ⟨v5, rfl, hN5, hE5⟩
          have hT5 := TwoL.ofN hN5 (hown.ext hE5) hbW (fun q hq => (hlt12 q hq).2)
          obtain ⟨Ay, cy, hvy, -, -, -⟩ := hN5.toP.form
          rw [HYl.out] at hvy
          subst hvy
          have hF5 := HE.out.trans hE5
          clear CPar hN5 hE5 hown hlt12 hbW HE
          go_wp2_with fail
          go_loopw [12, 21] (fun vo z wr => ∃ i : Nat, i ≤ m ∧ z = .int .i64 (i : Int) ∧ TwoL wr w.heap.size wr.heap.size (.slice Ay m cy) Y vo (layQ k m c b (j * (k + m) + (k + i))) ∧ Ext w wr) (fun _ z _ => m - (intOf z).toNat)
          case atStart => exact ⟨0, by omega, rfl, hT5, hF5⟩
          case round =>
            clear hT5 hF5
            obtain ⟨i, hi, rfl, hT, hE⟩ := hrel
            by_cases him : i < m
            · have himI : (i : Int) < (m : Int) := by omega
              obtain ⟨A8, c8, hv8, -, -, hR8⟩ := hT.rows
              rw [HYl.out] at hv8
              simp only [Value.slice.injEq] at hv8
              obtain ⟨rfl, -, rfl⟩ := hv8
              rcases hR8.2 with h0 | ⟨g, o, rfl, hg, hcl⟩
              · rw [HYl.out] at h0; omega
              obtain ⟨x, kx, Ax, kkx, rfl, hx1, hx2, hbx⟩ := hcl i (by rw [HYl.out]; exact him)
              have HNi := hide (HNx.out (j * (k + m) + (k + i)))
              rw [HCp.out i him] at HNi
              have hrl := HYr.out i him
              have hq20 := HQ.out (k + i) (by omega)
              have hfit : (layQ k m c b (j * (k + m) + (k + i))).length + (c + 4) ≤ 140737488355328 := by omega
              have hei : j * (k + m) + (k + (i + 1)) = j * (k + m) + (k + i) + 1 := by omega
              have HEi := hide hei
              generalize Y.getD i [] = D at *
              rw [hrl] at kx hbx
              have CP := refCrcPut_any Ax c kkx D wr (by omega) hbx
              have HPl := hide (show (Crc.put D).length = c + 4 by rw [put_len, hrl])
              unfold MadeB at CP
              generalize Crc.put D = PD at *
              clear hcl hR8 hrl hq20 hei hx1 hx2 hbx
              go_wp2_with (first
                | (go_at_call 20; refine CP.mono ?_; rintro e6 w6 ⟨v6, rfl, hO6, hE6⟩; obtain ⟨A6, c6, hv6, -, -, hb6⟩ := hO6.form; rw [HPl.out] at hv6 hb6; subst hv6; have hT6 := hT.ext hE6; have hF6 := hE.trans hE6; have hB6 := hF6.le; clear hO6 hE6 hT hE CP)
                | (at_builtin; refine wpList_appTB rfl (.tmp 95) (.tmp 100) rfl rfl hT6 rfl hb6 hfit hB6 ?_; intro v7 w7 hT7 hG7 hj7; have hF7 : Ext w w7 := Below.grown hF6 hG7 hB6 hj7; clear hT6 hb6 hG7 hF6 hB6))
              go_roundw
              case rel => exact ⟨i + 1, by omega, by go_num, by rw [HEi.out, HNi.out]; exact hT7, hF7⟩
              case measure => simp [intOf]; omega
            · obtain rfl : m = i := by omega
              have himI : ¬ (m : Int) < (m : Int) := by omega
              have hO := hT.own
              clear hT
              go_wp2_with fail
              go_roundw
              case rel => exact ⟨j + 1, by omega, by rw [Nat.succ_mul, ← HAJ.out]; go_num, by rw [Nat.succ_mul]; exact hO, hE⟩
              case measure => simp [intOf]; omega
    · obtain rfl : N = j := by omega
      have hln : ¬ ((N * e : Nat) : Int) < (n : Int) := by have := HRm.out.1; rw [← HEd.out] at this; omega
      have hO := HO.out
      have hE := HE.out
      clear HO HE HLT HRm
      generalize N * e = y at *
      go_wp2_with fail
      go_ret2
      exact ⟨_, rfl, hO, hE⟩
end Go.Proofs.YtkfipfhmbhmamaaDoor

namespace Go.Proofs.YtkfipfhmbhmamaaDoor
open Go.RowKit
namespace Stp
section
variable {k m c : Nat} {s : List UInt8}
theorem lost_zero (k m c : Nat) (s : List UInt8) (j : Nat) : lostS k m c s j 0 = 0 := rfl
theorem lost_mono {j i i' : Nat} (h : i ≤ i') : lostS k m c s j i ≤ lostS k m c s j i' := by
  induction i' with
  | zero =>
    obtain rfl : i = 0 := by omega
    exact Nat.le_refl _
  | succ x ih =>
    by_cases e : i = x + 1
    · subst e; exact Nat.le_refl _
    · have := ih (by omega)
      rw [lost_next]
      omega
/-- One chunk more of the stripe in which it lies. -/
theorem lost_at (i : Nat) : lostS k m c s (i / (k + m)) (i % (k + m) + 1) = lostS k m c s (i / (k + m)) (i % (k + m)) + if goodQ c s i = true then 0 else 1 := by
  rw [lost_next]
  have e : i / (k + m) * (k + m) + i % (k + m) = i := by rw [Nat.mul_comm]; exact Nat.div_add_mod _ _
  rw [e]
theorem next_in {t i : Nat} (ht : 0 < t) (h : (i + 1) % t ≠ 0) : (i + 1) / t = i / t ∧ (i + 1) % t = i % t + 1 := by
  have h1 := Nat.div_add_mod i t
  have h2 := Nat.mod_lt i ht
  have h3 : i + 1 = t * (i / t) + (i % t + 1) := by omega
  rcases Nat.lt_or_ge (i % t + 1) t with h4 | h4
  · constructor
    · rw [h3, Nat.mul_add_div ht, Nat.div_eq_of_lt h4]; simp
    · rw [h3, Nat.mul_add_mod, Nat.mod_eq_of_lt h4]
  · exact absurd (show (i + 1) % t = 0 by rw [h3, show i % t + 1 = t by omega, Nat.mul_add_mod, Nat.mod_self]) h
end
end Stp
theorem wpOper_storeB {op : Oper} {a : Act} {w : World} {K : Act → World → Prop} {Q : Exit → Act → World → Prop} (ty : TypeId) (x y : Operand) (ho : op.op = .store ty x y)
    {g i : Nat} {v0 u : Value} (hx : a.eval x = .pointer (some ⟨g, i, none⟩)) (hy : a.eval y = u) (hc : w.cell? ⟨g, i, none⟩ = some v0) (hf : w.frozen? ⟨g, i, none⟩ = false)
    (hs : (Tryd.prog.info? ty).map (·.size) = some 1) (h1 : u.oneCell' = true) (hcells : u.cells = #[u])
    (h : K (a.put op.dst undef) (w.setCell ⟨g, i, none⟩ u)) : Oper.wp Tryd.prog op a w K Q := by
  unfold Oper.wp execOp
  cases hq : Tryd.prog.info? ty with
  | none => simp [hq] at hs
  | some d =>
    have hs' : d.size = 1 := by simpa [hq] using hs
    have ht : w.there g i 1 := fun j hj => by
      obtain rfl : j = 0 := by omega
      exact ⟨by rw [Nat.add_zero, hc]; rfl, by rw [Nat.add_zero]; exact hf⟩
    have hr : (storeVar ty ⟨g, i, none⟩ u).run Tryd.prog w = .ok () (w.setCells g i [u]) := by
      have := run_storeCells_cells (P := Tryd.prog) g i [u] 0 w (fun j hj => by simpa using (ht j (by simpa using hj)).1) (fun j hj => by simpa using (ht j (by simpa using hj)).2) (fun v hv => by simp at hv; subst hv; exact h1)
      simp only [storeVar, sizeOf, typeInfo, hcells]
      simpa [hq, hs'] using this
    simp only [ho, hx, hy, Instr.storeAt, Instr.sureAddr, Sem.run_bind, Sem.run_pure, Result.andThen_ok, hr]
    exact h
end Go.Proofs.YtkfipfhmbhmamaaDoor

