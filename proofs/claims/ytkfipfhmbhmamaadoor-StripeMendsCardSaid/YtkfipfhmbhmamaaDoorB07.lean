/- What parts say of one another: plain mathematics of chapter 6. Why it is enough to reckon the lost data back: plain mathematics of the program's way to mend. Parts of which some were spoilt, each told: how many good ones there are, and what the good ones are. Lists of rows of the call's own, whose rows lie below its memory; two such lists side by side; what Mend's calls tell. The document's Inverse. -/
import Derived.Test.YtkfipfhmbhmamaaDoorB02
import Derived.Test.YtkfipfhmbhmamaaDoorB03
import Derived.Test.YtkfipfhmbhmamaaDoorB04
import Derived.Test.YtkfipfhmbhmamaaDoorB05
import Derived.Test.YtkfipfhmbhmamaaDoorB06
namespace Go.Proofs.YtkfipfhmbhmamaaDoor
open Go.RowKit

/-- Rows of bytes as a matrix. -/
def rowsM (D : List (List UInt8)) : Mat.M := fun j n => (D.getD j []).getD n 0
theorem cellL_mm (c : Nat) (f : Mat.M) (D : List (List UInt8)) (i n : Nat) : cellL c f D i n = Mat.mm c f (rowsM D) i n := rfl
theorem timesL_at {r c : Nat} {f : Mat.M} {D : List (List UInt8)} {i : Nat} (hi : i < r) : (timesL r c f D).getD i [] = rowB (D.getD 0 []).length (cellL c f D i) := by
  simp [timesL, List.getD_eq_getElem?_getD, hi]
theorem rowB_of (l : List UInt8) : l = rowB l.length (fun n => l.getD n 0) := by
  apply List.ext_getElem
  · rw [rowB_len]
  · intro i h1 h2
    simp [rowB, List.getD_eq_getElem?_getD, h1]
/-- The k + m parts of these data. -/
def codeL (k t : Nat) (D : List (List UInt8)) : List (List UInt8) := timesL t k (Mat.rowM k) D
theorem codeL_len (k t : Nat) (D : List (List UInt8)) : (codeL k t D).length = t := timesL_len _ _ _ _
theorem codeL_at {k t : Nat} {D : List (List UInt8)} {i : Nat} (hi : i < t) : (codeL k t D).getD i [] = rowB (D.getD 0 []).length (Mat.mm k (Mat.rowM k) (rowsM D) i) := timesL_at hi
theorem codeL_data {k t : Nat} {D : List (List UInt8)} (hD : D.length = k) (ha : alike D) {i : Nat} (hi : i < k) (ht : i < t) : (codeL k t D).getD i [] = D.getD i [] := by
  rw [codeL_at ht]
  have h1 : (D.getD i []).length = (D.getD 0 []).length := ha i (by omega)
  rw [← h1]
  refine Eq.trans ?_ (rowB_of (D.getD i [])).symm
  refine rowB_congr fun n _ => ?_
  have e : Mat.mm k (Mat.rowM k) (rowsM D) i n = Mat.mm k Mat.one (rowsM D) i n := Mat.mm_congr (fun j _ => if_pos hi) (fun _ _ => rfl)
  rw [e, Mat.one_mm _ _ hi]
  rfl
theorem list_ext {a b : List (List UInt8)} (hl : a.length = b.length) (h : ∀ i, i < a.length → a.getD i [] = b.getD i []) : a = b := by
  apply List.ext_getElem hl
  intro i h1 h2
  have := h i h1
  rw [List.getD_eq_getElem?_getD, List.getD_eq_getElem?_getD, List.getElem?_eq_getElem h1, List.getElem?_eq_getElem h2] at this
  exact this
theorem getD_app_l {a b : List (List UInt8)} {i : Nat} (h : i < a.length) : (a ++ b).getD i [] = a.getD i [] := by simp [List.getD_eq_getElem?_getD, List.getElem?_append_left h]
theorem getD_app_r {a b : List (List UInt8)} {i : Nat} (h : a.length ≤ i) : (a ++ b).getD i [] = b.getD (i - a.length) [] := by simp [List.getD_eq_getElem?_getD, List.getElem?_append_right h]
theorem code_split {k m : Nat} {D : List (List UInt8)} (hD : D.length = k) (ha : alike D) : codeL k (k + m) D = D ++ timesL m k (cauchyF k) D := by
  refine list_ext (by rw [codeL_len, List.length_append, timesL_len, hD]) fun i hi => ?_
  rw [codeL_len] at hi
  by_cases hik : i < k
  · rw [codeL_data hD ha hik hi, getD_app_l (by omega)]
  · rw [getD_app_r (by omega), hD, timesL_at (by omega), codeL_at hi]
    refine rowB_congr fun n _ => ?_
    rw [cellL_mm]
    refine Mat.sum_congr fun j _ => ?_
    show Mat.fm (Mat.rowM k i j) _ = Mat.fm (cauchyF k (i - k) j) _
    unfold Mat.rowM cauchyF
    rw [if_neg hik, show k + (i - k) = i by omega]
theorem code_parity {k m : Nat} {D : List (List UInt8)} (hk : 1 ≤ k) (hm : k + m ≤ 255) (hD : D.length = k) (ha : alike D) : parityE m D = ((codeL k (k + m) D).drop k, 0) := by
  unfold parityE
  rw [if_pos ⟨mayK_iff.2 ⟨by omega, by omega, by omega, by omega⟩, ha⟩, code_split hD ha, List.drop_append_of_le_length (by omega), hD]
  rw [List.drop_of_length_le (by omega)]
  simp
theorem codeL_alike {k t : Nat} {D : List (List UInt8)} : alike (codeL k t D) := by
  intro i hi
  rw [codeL_len] at hi
  rw [codeL_at hi, codeL_at (by omega), rowB_len, rowB_len]
theorem alike_of {ls : List (List UInt8)} {N : Nat} (h : ∀ i, i < ls.length → (ls.getD i []).length = N) : alike ls := fun i hi => by rw [h i hi, h 0 (by omega)]
theorem code_right {k m : Nat} {D : List (List UInt8)} (hk : 1 ≤ k) (hm : k + m ≤ 255) (hD : D.length = k) (ha : alike D) : rightR k m (codeL k (k + m) D) = true := by
  have hp := code_parity hk hm hD ha
  have ht : (codeL k (k + m) D).take k = D := by rw [code_split hD ha, List.take_append_of_le_length (by omega), List.take_of_length_le (by omega)]
  refine decide_eq_true ⟨mayK_iff.2 ⟨by omega, by omega, by omega, by omega⟩, by rw [codeL_len]; simp, codeL_alike, ?_⟩
  rw [Int.toNat_natCast, ht, hp]

/-- Places of good parts. -/
def goodAt (good : List Bool) : List Nat := (List.range good.length).filter fun i => good.getD i false
theorem goodAt_mem {good : List Bool} {i : Nat} : i ∈ goodAt good ↔ i < good.length ∧ good.getD i false = true := by simp [goodAt]
theorem goodAt_nodup (good : List Bool) : (goodAt good).Nodup := List.Pairwise.filter _ List.nodup_range
/-- The rows of these places, of the identity with Cauchy's matrix below. -/
def pickM (k : Nat) (L : List Nat) : Mat.M := fun i j => Mat.rowM k (L.getD i 0) j
noncomputable def backX (k : Nat) (L : List Nat) : Mat.M := @dite _ (∃ X, Mat.Inv k (pickM k L) X) (Classical.propDecidable _) (fun h => h.choose) (fun _ => fun _ _ => 0)
theorem backX_inv {k : Nat} {L : List Nat} (hk : k ≤ 255) (hl : L.length = k) (hd : L.Nodup) (hL : ∀ x ∈ L, x < 256) : Mat.Inv k (pickM k L) (backX k L) := by
  have h : ∃ X, Mat.Inv k (pickM k L) X := Mat.picked k (by omega) L hl hd hL
  unfold backX
  rw [dif_pos h]
  exact h.choose_spec
theorem nodup_take {L : List Nat} (h : L.Nodup) (k : Nat) : (L.take k).Nodup := h.sublist (List.take_sublist k L)
noncomputable def mendE (k m : Int) (parts : List (List UInt8)) (good : List Bool) : List (List UInt8) × Int :=
  if mayK k m = true ∧ (parts.length : Int) = k + m ∧ (good.length : Int) = k + m then
    if alike ((goodAt good).map fun i => parts.getD i []) then
      if ((goodAt good).length : Int) < k then ([], 12)
      else (codeL k.toNat (k.toNat + m.toNat) (timesL k.toNat k.toNat (backX k.toNat ((goodAt good).take k.toNat)) (((goodAt good).map fun i => parts.getD i []).take k.toNat)), 0)
    else ([], 13)
  else ([], 13)
theorem timesL_alike {r c : Nat} {f : Mat.M} {D : List (List UInt8)} : alike (timesL r c f D) := by
  intro i hi
  rw [timesL_len] at hi
  rw [timesL_at hi, timesL_at (by omega), rowB_len, rowB_len]
theorem getD_mapL {L : List Nat} {parts : List (List UInt8)} {i : Nat} (hi : i < L.length) : (L.map fun i => parts.getD i []).getD i [] = parts.getD (L.getD i 0) [] := by
  simp [List.getD_eq_getElem?_getD, hi]
theorem getD_takeL {L : List Nat} {i k : Nat} (hi : i < k) : (L.take k).getD i 0 = L.getD i 0 := by simp [List.getD_eq_getElem?_getD, hi]
theorem getD_takeP {L : List (List UInt8)} {i k : Nat} (hi : i < k) : (L.take k).getD i [] = L.getD i [] := by simp [List.getD_eq_getElem?_getD, hi]

section
variable {k m : Nat} {parts : List (List UInt8)} {good : List Bool}
/-- Good parts that are those of these data are mended to all of them. -/
theorem mend_code {D : List (List UInt8)} (hk : 1 ≤ k) (hm : k + m ≤ 255) (hp : parts.length = k + m) (hg : good.length = k + m) (hD : D.length = k) (ha : alike D) (hn : k ≤ (goodAt good).length)
    (hc : ∀ i, i < k + m → good.getD i false = true → parts.getD i [] = (codeL k (k + m) D).getD i []) : mendE k m parts good = (codeL k (k + m) D, 0) := by
  have hlen : ∀ i, i < (goodAt good).length → (((goodAt good).map fun i => parts.getD i []).getD i []).length = (D.getD 0 []).length := fun i hi => by
    have hmem : (goodAt good).getD i 0 ∈ goodAt good := by rw [List.getD_eq_getElem?_getD, List.getElem?_eq_getElem hi]; exact List.getElem_mem hi
    obtain ⟨h1, h2⟩ := goodAt_mem.1 hmem
    rw [getD_mapL hi, hc _ (by omega) h2, codeL_at (by omega), rowB_len]
  unfold mendE
  rw [if_pos ⟨mayK_iff.2 ⟨by omega, by omega, by omega, by omega⟩, by rw [hp]; simp, by rw [hg]; simp⟩, if_pos (alike_of fun i hi => hlen i (by simpa using hi)), if_neg (by omega)]
  simp only [Int.toNat_natCast]
  have hX := backX_inv (k := k) (L := (goodAt good).take k) (by omega) (by rw [List.length_take]; omega) (nodup_take (goodAt_nodup good) k) (fun x hx => by
    have := (goodAt_mem.1 (List.mem_of_mem_take hx)).1
    omega)
  have hN : ((((goodAt good).map fun i => parts.getD i []).take k).getD 0 []).length = (D.getD 0 []).length := by rw [getD_takeP (by omega), hlen 0 (by omega)]
  have e : timesL k k (backX k ((goodAt good).take k)) (((goodAt good).map fun i => parts.getD i []).take k) = D := by
    refine list_ext (by rw [timesL_len, hD]) fun a ha' => ?_
    rw [timesL_len] at ha'
    rw [timesL_at ha', hN, ← ha a (by omega)]
    refine Eq.trans ?_ (rowB_of (D.getD a [])).symm
    refine rowB_congr fun n hn' => ?_
    rw [cellL_mm]
    have hn2 : n < (D.getD 0 []).length := by rw [← ha a (by omega)]; exact hn'
    have e1 : Mat.mm k (backX k ((goodAt good).take k)) (rowsM (((goodAt good).map fun i => parts.getD i []).take k)) a n = Mat.mm k (backX k ((goodAt good).take k)) (Mat.mm k (pickM k ((goodAt good).take k)) (rowsM D)) a n :=
      Mat.mm_congr (fun _ _ => rfl) fun i hi => by
        have hmem : (goodAt good).getD i 0 ∈ goodAt good := by rw [List.getD_eq_getElem?_getD, List.getElem?_eq_getElem (by omega)]; exact List.getElem_mem (by omega)
        obtain ⟨h1, h2⟩ := goodAt_mem.1 hmem
        show ((((goodAt good).map fun i => parts.getD i []).take k).getD i []).getD n 0 = Mat.mm k (pickM k ((goodAt good).take k)) (rowsM D) i n
        rw [getD_takeP hi, getD_mapL (by omega), hc _ (by omega) h2, codeL_at (by omega), rowB_at _ hn2]
        refine Mat.sum_congr fun j _ => ?_
        show Mat.fm (Mat.rowM k _ j) _ = Mat.fm (Mat.rowM k _ j) _
        rw [getD_takeL hi]
    rw [e1, ← Mat.mm_assoc, Mat.mm_congr (A' := Mat.one) (B' := rowsM D) (fun j hj => hX.2 a j ha' hj) (fun _ _ => rfl), Mat.one_mm _ _ ha']
    rfl
  rw [e]
/-- What is mended is right, and has the first k good ones. -/
theorem mend_right (hk : 1 ≤ k) (hm : k + m ≤ 255) (hp : parts.length = k + m) (hg : good.length = k + m) (hn : k ≤ (goodAt good).length) (hal : alike ((goodAt good).map fun i => parts.getD i [])) :
    ∃ D, D.length = k ∧ alike D ∧ mendE k m parts good = (codeL k (k + m) D, 0) ∧ ∀ i, i < k → (codeL k (k + m) D).getD ((goodAt good).getD i 0) [] = parts.getD ((goodAt good).getD i 0) [] := by
  refine ⟨timesL k k (backX k ((goodAt good).take k)) (((goodAt good).map fun i => parts.getD i []).take k), timesL_len _ _ _ _, timesL_alike, ?_, fun i hi => ?_⟩
  · unfold mendE
    rw [if_pos ⟨mayK_iff.2 ⟨by omega, by omega, by omega, by omega⟩, by rw [hp]; simp, by rw [hg]; simp⟩, if_pos hal, if_neg (by omega)]
    simp only [Int.toNat_natCast]
  · have hX := backX_inv (k := k) (L := (goodAt good).take k) (by omega) (by rw [List.length_take]; omega) (nodup_take (goodAt_nodup good) k) (fun x hx => by
      have := (goodAt_mem.1 (List.mem_of_mem_take hx)).1
      omega)
    have hmem : (goodAt good).getD i 0 ∈ goodAt good := by rw [List.getD_eq_getElem?_getD, List.getElem?_eq_getElem (by omega)]; exact List.getElem_mem (by omega)
    obtain ⟨h1, h2⟩ := goodAt_mem.1 hmem
    have h0 := getD_mapL (parts := parts) (L := goodAt good) (i := i) (by omega)
    have hli := hal i (by simpa using (by omega : i < (goodAt good).length))
    rw [h0] at hli
    rw [codeL_at (by omega), timesL_at (by omega), rowB_len, getD_takeP (by omega), ← hli]
    refine Eq.trans ?_ (rowB_of (parts.getD ((goodAt good).getD i 0) [])).symm
    refine rowB_congr fun n hn' => ?_
    have hn2 : n < (((goodAt good).map fun i => parts.getD i []).getD 0 []).length := by rw [← hli]; exact hn'
    have e1 : Mat.mm k (Mat.rowM k) (rowsM (timesL k k (backX k ((goodAt good).take k)) (((goodAt good).map fun i => parts.getD i []).take k))) ((goodAt good).getD i 0) n =
        Mat.mm k (pickM k ((goodAt good).take k)) (Mat.mm k (backX k ((goodAt good).take k)) (rowsM (((goodAt good).map fun i => parts.getD i []).take k))) i n := by
      refine Mat.sum_congr fun a ha => ?_
      show Mat.fm (Mat.rowM k ((goodAt good).getD i 0) a) ((((timesL k k _ _).getD a []).getD n 0)) = Mat.fm (Mat.rowM k (((goodAt good).take k).getD i 0) a) _
      rw [getD_takeL hi, timesL_at ha, getD_takeP (by omega), rowB_at _ hn2]
      rfl
    rw [e1, ← Mat.mm_assoc, Mat.mm_congr (A' := Mat.one) (B' := rowsM (((goodAt good).map fun i => parts.getD i []).take k)) (fun j hj => hX.1 i j hi hj) (fun _ _ => rfl), Mat.one_mm _ _ hi]
    show ((((goodAt good).map fun i => parts.getD i []).take k).getD i []).getD n 0 = _
    rw [getD_takeP hi, h0]
end
end Go.Proofs.YtkfipfhmbhmamaaDoor

namespace Go.Proofs.YtkfipfhmbhmamaaDoor
open Go.RowKit

theorem getD_mapI {L : List Nat} {i : Nat} (hi : i < L.length) : (L.map Int.ofNat).getD i 0 = ((L.getD i 0 : Nat) : Int) := by simp [List.getD_eq_getElem?_getD, hi]
theorem sum_filter (p : Nat → Bool) (f : Nat → UInt8) : ∀ k : Nat, (∀ j, j < k → p j = false → f j = 0) → Mat.sum k f = Mat.sum ((List.range k).filter p).length fun a => f (((List.range k).filter p).getD a 0)
  | 0, _ => rfl
  | k + 1, h => by
    have IH := sum_filter p f k fun j hj => h j (by omega)
    rw [List.range_succ, List.filter_append]
    cases hp : p k with
    | true =>
      have e : List.filter p [k] = [k] := by simp [hp]
      rw [e, List.length_append, List.length_singleton, Mat.sum, Mat.sum, IH]
      congr 1
      · exact Mat.sum_congr fun a ha => by simp [List.getD_eq_getElem?_getD, List.getElem?_append_left ha]
      · simp [List.getD_eq_getElem?_getD]
    | false =>
      have e : List.filter p [k] = [] := by simp [hp]
      rw [e, List.append_nil, Mat.sum, IH, h k (by omega) hp, UInt8.xor_zero]
theorem sum_shift (h : Nat) (g : Nat → UInt8) (h0 : ∀ t, t < h → g t = 0) : ∀ l : Nat, Mat.sum (h + l) g = Mat.sum l fun b => g (h + b)
  | 0 => Mat.sum_zero h h0
  | l + 1 => by
    rw [← Nat.add_assoc, Mat.sum, Mat.sum, sum_shift h g h0 l]

/-- The numbers below j that aren't in the list. -/
def lostTo (L : List Nat) (j : Nat) : List Nat := (List.range j).filter fun i => decide (i ∉ L)
theorem lostTo_mem {L : List Nat} {j i : Nat} : i ∈ lostTo L j ↔ i < j ∧ i ∉ L := by simp [lostTo]
theorem lostTo_nodup (L : List Nat) (j : Nat) : (lostTo L j).Nodup := List.Pairwise.filter _ List.nodup_range
theorem lostTo_yes {L : List Nat} {j : Nat} (h : j ∈ L) : lostTo L (j + 1) = lostTo L j := by simp [lostTo, List.range_succ, h]
theorem lostTo_no {L : List Nat} {j : Nat} (h : j ∉ L) : lostTo L (j + 1) = lostTo L j ++ [j] := by simp [lostTo, List.range_succ, h]
theorem lostTo_le (L : List Nat) (j : Nat) : (lostTo L j).length ≤ j := by
  have := List.length_filter_le (fun i => decide (i ∉ L)) (List.range j)
  rwa [List.length_range] at this
theorem lostTo_sum (L : List Nat) (k : Nat) (f : Nat → UInt8) (h : ∀ j, j < k → j ∈ L → f j = 0) : Mat.sum k f = Mat.sum (lostTo L k).length fun a => f ((lostTo L k).getD a 0) :=
  sum_filter _ f k fun j hj hp => h j hj (by simpa using hp)
theorem lostTo_at {L : List Nat} {k a : Nat} (ha : a < (lostTo L k).length) : (lostTo L k).getD a 0 < k ∧ (lostTo L k).getD a 0 ∉ L := by
  refine lostTo_mem.1 ?_
  rw [List.getD_eq_getElem?_getD, List.getElem?_eq_getElem ha]
  exact List.getElem_mem ha
/-- What lies at the places below j: chunks, or zeros. -/
def dataTo (L : List Nat) (ch : List (List UInt8)) (N j : Nat) : List (List UInt8) := (List.range j).map fun i => if i ∈ L then ch.getD (L.idxOf i) [] else List.replicate N 0
theorem dataTo_len (L : List Nat) (ch : List (List UInt8)) (N j : Nat) : (dataTo L ch N j).length = j := by simp [dataTo]
theorem dataTo_at {L : List Nat} {ch : List (List UInt8)} {N j i : Nat} (h : i < j) : (dataTo L ch N j).getD i [] = if i ∈ L then ch.getD (L.idxOf i) [] else List.replicate N 0 := by simp [dataTo, List.getD_eq_getElem?_getD, h]
theorem dataTo_succ (L : List Nat) (ch : List (List UInt8)) (N j : Nat) : dataTo L ch N (j + 1) = dataTo L ch N j ++ [if j ∈ L then ch.getD (L.idxOf j) [] else List.replicate N 0] := by simp [dataTo, List.range_succ]

/-- Places that rise, below t; as many as k. -/
structure Plc (k t : Nat) (L : List Nat) : Prop where
  len : L.length = k
  lt : ∀ x ∈ L, x < t
  srt : L.Pairwise (· < ·)
theorem Plc.get_mem {L : List Nat} {i : Nat} (h : i < L.length) : L.getD i 0 ∈ L := by rw [List.getD_eq_getElem?_getD, List.getElem?_eq_getElem h]; exact List.getElem_mem h
theorem Plc.rise {k t : Nat} {L : List Nat} (h : Plc k t L) {i j : Nat} (hij : i < j) (hj : j < k) : L.getD i 0 < L.getD j 0 := by
  have hl := h.len
  have := List.pairwise_iff_getElem.1 h.srt i j (by omega) (by omega) hij
  rw [List.getD_eq_getElem?_getD, List.getD_eq_getElem?_getD, List.getElem?_eq_getElem (by omega), List.getElem?_eq_getElem (by omega)]
  exact this
theorem Plc.nodup {k t : Nat} {L : List Nat} (h : Plc k t L) : L.Nodup := h.srt.imp fun h => Nat.ne_of_lt h
theorem Plc.of_good {k t : Nat} {good : List Bool} (hg : good.length = t) (hn : k ≤ (goodAt good).length) : Plc k t ((goodAt good).take k) := by
  refine ⟨by rw [List.length_take]; omega, fun x hx => ?_, ?_⟩
  · have := (goodAt_mem.1 (List.mem_of_mem_take hx)).1
    omega
  · have : (goodAt good).Pairwise (· < ·) := List.Pairwise.filter _ List.pairwise_lt_range
    exact this.sublist (List.take_sublist k _)
/-- The first h places are below j, the others aren't. -/
structure Cut (L : List Nat) (h j : Nat) : Prop where
  le : h ≤ L.length
  lo : ∀ t, t < h → L.getD t 0 < j
  hi : ∀ t, h ≤ t → t < L.length → j ≤ L.getD t 0
theorem Cut.start (L : List Nat) : Cut L 0 0 := ⟨by omega, fun t ht => absurd ht (by omega), fun t _ _ => by omega⟩
section
variable {k t h j : Nat} {L : List Nat}
theorem Cut.yes (c : Cut L h j) (p : Plc k t L) (hh : h < k) (e : L.getD h 0 = j) : Cut L (h + 1) (j + 1) ∧ j ∈ L ∧ L.idxOf j = h := by
  have hl := p.len
  refine ⟨⟨by omega, fun a ha => ?_, fun a h1 h2 => ?_⟩, ?_, ?_⟩
  · by_cases hah : a = h
    · rw [hah, e]; omega
    · have := c.lo a (by omega); omega
  · have := p.rise (i := h) (j := a) (by omega) (by omega); omega
  · rw [← e]; exact Plc.get_mem (by omega)
  · have hj : L[h]'(by omega) = j := by
      rw [List.getD_eq_getElem?_getD, List.getElem?_eq_getElem (by omega)] at e
      exact e
    rw [← hj]
    exact List.Nodup.idxOf_getElem p.nodup h (by omega)
theorem Cut.no (c : Cut L h j) (p : Plc k t L) (hh : h < k) (e : L.getD h 0 ≠ j) : Cut L h (j + 1) ∧ j ∉ L := by
  have hl := p.len
  have h1 := c.hi h (Nat.le_refl _) (by omega)
  have hup : ∀ a, h ≤ a → a < L.length → j + 1 ≤ L.getD a 0 := fun a h2 h3 => by
    by_cases hah : a = h
    · subst hah; omega
    · have := p.rise (i := h) (j := a) (by omega) (by omega); omega
  refine ⟨⟨c.le, fun a ha => by have := c.lo a ha; omega, hup⟩, fun hm => ?_⟩
  obtain ⟨a, ha, hj⟩ := List.mem_iff_getElem.1 hm
  have hj' : L.getD a 0 = j := by rw [List.getD_eq_getElem?_getD, List.getElem?_eq_getElem ha]; exact hj
  by_cases hah : a < h
  · have := c.lo a hah; omega
  · have := hup a (by omega) ha; omega
theorem Cut.le_j (c : Cut L h j) (p : Plc k t L) : h ≤ j := by
  have hl := p.len
  have hge : ∀ a, a < k → a ≤ L.getD a 0 := fun a => by
    induction a with
    | zero => intro _; omega
    | succ a ih =>
      intro ha
      have := ih (by omega)
      have := p.rise (i := a) (j := a + 1) (by omega) ha
      omega
  by_cases h0 : h = 0
  · omega
  · have h1 := c.lo (h - 1) (by omega)
    have h2 := hge (h - 1) (by have := c.le; omega)
    omega
end

/-- The lost columns of the rows of Cauchy that are there. -/
def lostC (k : Nat) (L : List Nat) : Mat.M := fun a b => cauchyF k (L.getD (k - (lostTo L k).length + a) 0 - k) ((lostTo L k).getD b 0)
def lostY (k : Nat) (L : List Nat) (X : Mat.M) : Mat.M := fun a b => X ((lostTo L k).getD a 0) (k - (lostTo L k).length + b)
section
variable {k t h : Nat} {L : List Nat} {X : Mat.M}
theorem rowM_hi {k i : Nat} (hi : k ≤ i) (j : Nat) : Mat.rowM k i j = cauchyF k (i - k) j := by
  unfold Mat.rowM cauchyF
  rw [if_neg (by omega), show k + (i - k) = i by omega]
theorem rowM_lo {k i : Nat} (hi : i < k) (j : Nat) : Mat.rowM k i j = Mat.one i j := if_pos hi
theorem getD_inj {Z : List Nat} (hd : Z.Nodup) {a b : Nat} (ha : a < Z.length) (hb : b < Z.length) (e : Z.getD a 0 = Z.getD b 0) : a = b := by
  rw [List.getD_eq_getElem?_getD, List.getD_eq_getElem?_getD, List.getElem?_eq_getElem ha, List.getElem?_eq_getElem hb] at e
  have e' : Z[a] = Z[b] := e
  rcases Nat.lt_trichotomy a b with h | h | h
  · exact absurd e' (List.pairwise_iff_getElem.1 hd a b ha hb h)
  · exact h
  · exact absurd e'.symm (List.pairwise_iff_getElem.1 hd b a hb ha h)
theorem one_lost {Z : List Nat} (hd : Z.Nodup) {a b : Nat} (ha : a < Z.length) (hb : b < Z.length) : Mat.one (Z.getD a 0) (Z.getD b 0) = Mat.one a b := by
  unfold Mat.one
  by_cases e : a = b
  · rw [if_pos e, if_pos (by rw [e])]
  · rw [if_neg e, if_neg fun e2 => e (getD_inj hd ha hb e2)]
theorem one_shift (h a b : Nat) : Mat.one (h + a) (h + b) = Mat.one a b := by
  unfold Mat.one
  by_cases e : a = b
  · rw [if_pos e, if_pos (by omega)]
  · rw [if_neg e, if_neg (by omega)]
/-- A place that isn't lost is one of the first h. -/
theorem Cut.at (c : Cut L h k) {j : Nat} (hj : j < k) (hm : j ∈ L) : ∃ a, a < h ∧ L.getD a 0 = j ∧ a < L.length := by
  obtain ⟨a, ha, e⟩ := List.mem_iff_getElem.1 hm
  have e' : L.getD a 0 = j := by rw [List.getD_eq_getElem?_getD, List.getElem?_eq_getElem ha]; exact e
  refine ⟨a, ?_, e', ha⟩
  rcases Nat.lt_or_ge a h with h1 | h1
  · exact h1
  · have := c.hi a h1 ha; omega
theorem lost_inv (p : Plc k t L) (c : Cut L h k) (hh : h + (lostTo L k).length = k) (hX : Mat.Inv k (pickM k L) X) : Mat.Inv (lostTo L k).length (lostC k L) (lostY k L X) := by
  have hl := p.len
  have hsub : k - (lostTo L k).length = h := by omega
  constructor
  · intro a b ha hb
    have e1 : ∀ j, Mat.rowM k (L.getD (h + a) 0) j = cauchyF k (L.getD (h + a) 0 - k) j := fun j => rowM_hi (c.hi (h + a) (by omega) (by omega)) j
    have s := lostTo_sum L k (fun j => Mat.fm (Mat.rowM k (L.getD (h + a) 0) j) (X j (h + b))) (fun j hj hm => by
      obtain ⟨i, hi, e, hil⟩ := c.at hj hm
      have h2 := hX.1 i (h + b) (by omega) (by omega)
      have h3 : Mat.mm k (pickM k L) X i (h + b) = X j (h + b) := by
        have : Mat.mm k (pickM k L) X i (h + b) = Mat.mm k Mat.one X j (h + b) := Mat.sum_congr fun q _ => by
          show Mat.fm (Mat.rowM k (L.getD i 0) q) _ = Mat.fm (Mat.one j q) _
          rw [e, rowM_lo hj]
        rw [this, Mat.one_mm _ _ hj]
      rw [h3] at h2
      rw [h2]
      have : Mat.one i (h + b) = 0 := if_neg (by omega)
      rw [this, Mat.fm_zero])
    have h2 := hX.1 (h + a) (h + b) (by omega) (by omega)
    rw [one_shift] at h2
    rw [← h2]
    refine Eq.trans ?_ s.symm
    refine Mat.sum_congr fun q _ => ?_
    show Mat.fm (cauchyF k (L.getD (k - (lostTo L k).length + a) 0 - k) _) (X _ (k - (lostTo L k).length + b)) = _
    rw [hsub, e1]
  · intro a b ha hb
    obtain ⟨za, _⟩ := lostTo_at ha
    obtain ⟨zb, nb⟩ := lostTo_at hb
    have h2 := hX.2 ((lostTo L k).getD a 0) ((lostTo L k).getD b 0) za zb
    rw [one_lost (lostTo_nodup L k) ha hb] at h2
    rw [← h2]
    have s := sum_shift h (fun q => Mat.fm (X ((lostTo L k).getD a 0) q) (pickM k L q ((lostTo L k).getD b 0))) (fun q hq => by
      have : pickM k L q ((lostTo L k).getD b 0) = 0 := by
        show Mat.rowM k (L.getD q 0) _ = 0
        rw [rowM_lo (c.lo q hq)]
        refine if_neg fun e => nb ?_
        rw [← e]
        exact Plc.get_mem (by omega)
      rw [this, Mat.fm_zero]) (lostTo L k).length
    rw [hh] at s
    refine Eq.trans ?_ s.symm
    refine Mat.sum_congr fun q hq => ?_
    show Mat.fm (X _ (k - (lostTo L k).length + q)) (cauchyF k (L.getD (k - (lostTo L k).length + q) 0 - k) _) = Mat.fm _ (Mat.rowM k (L.getD (h + q) 0) _)
    rw [hsub, rowM_hi (c.hi (h + q) (by omega) (by omega))]
end

/-- What the parities lack, and the lost data of it. -/
def lackL (k : Nat) (L : List Nat) (ch : List (List UInt8)) (N : Nat) : List (List UInt8) :=
  (List.range (lostTo L k).length).map fun a => rowB N fun n => cellL k (fun a j => cauchyF k (L.getD (k - (lostTo L k).length + a) 0 - k) j) (dataTo L ch N k) a n ^^^ (ch.getD (k - (lostTo L k).length + a) []).getD n 0
theorem lackL_len (k : Nat) (L : List Nat) (ch : List (List UInt8)) (N : Nat) : (lackL k L ch N).length = (lostTo L k).length := by simp [lackL]
theorem lackL_at {k N a : Nat} {L : List Nat} {ch : List (List UInt8)} (ha : a < (lostTo L k).length) :
    (lackL k L ch N).getD a [] = rowB N fun n => cellL k (fun a j => cauchyF k (L.getD (k - (lostTo L k).length + a) 0 - k) j) (dataTo L ch N k) a n ^^^ (ch.getD (k - (lostTo L k).length + a) []).getD n 0 := by
  simp [lackL, List.getD_eq_getElem?_getD, ha]
section
variable {k t h N : Nat} {L : List Nat} {X : Mat.M} {ch : List (List UInt8)}
/-- What the chunks say. -/
theorem back_says (hX : Mat.Inv k (pickM k L) X) (hN : (ch.getD 0 []).length = N) {i n : Nat} (hi : i < k) (hn : n < N) :
    Mat.sum k (fun j => Mat.fm (Mat.rowM k (L.getD i 0) j) (rowsM (timesL k k X ch) j n)) = (ch.getD i []).getD n 0 := by
  have e1 : Mat.sum k (fun j => Mat.fm (Mat.rowM k (L.getD i 0) j) (rowsM (timesL k k X ch) j n)) = Mat.mm k (pickM k L) (Mat.mm k X (rowsM ch)) i n := Mat.sum_congr fun j hj => by
    show Mat.fm (Mat.rowM k (L.getD i 0) j) (((timesL k k X ch).getD j []).getD n 0) = Mat.fm (Mat.rowM k (L.getD i 0) j) _
    rw [timesL_at hj, hN, rowB_at _ hn]
    rfl
  rw [e1, ← Mat.mm_assoc, Mat.mm_congr (A' := Mat.one) (B' := rowsM ch) (fun j hj => hX.1 i j hi hj) (fun _ _ => rfl), Mat.one_mm _ _ hi]
  rfl
theorem back_had (p : Plc k t L) (hX : Mat.Inv k (pickM k L) X) (hN : (ch.getD 0 []).length = N) (hal : ∀ i, i < k → (ch.getD i []).length = N) {j : Nat} (hj : j < k) (hm : j ∈ L) :
    (timesL k k X ch).getD j [] = ch.getD (L.idxOf j) [] := by
  have hl := p.len
  have hix : L.idxOf j < L.length := List.idxOf_lt_length_of_mem hm
  have hgj : L.getD (L.idxOf j) 0 = j := by rw [List.getD_eq_getElem?_getD, List.getElem?_eq_getElem hix]; exact List.getElem_idxOf hix
  rw [timesL_at hj, hN]
  have h1 := rowB_of (ch.getD (L.idxOf j) [])
  rw [hal _ (by omega)] at h1
  rw [h1]
  refine rowB_congr fun n hn => ?_
  have h2 := back_says hX hN (i := L.idxOf j) (by omega) hn
  rw [hgj] at h2
  rw [← h2]
  have e2 : Mat.sum k (fun q => Mat.fm (Mat.rowM k j q) (rowsM (timesL k k X ch) q n)) = Mat.mm k Mat.one (rowsM (timesL k k X ch)) j n := Mat.sum_congr fun q _ => by rw [rowM_lo hj]
  rw [e2, Mat.one_mm _ _ hj]
  show _ = ((timesL k k X ch).getD j []).getD n 0
  rw [timesL_at hj, hN, rowB_at _ hn]
theorem lack_says (p : Plc k t L) (c : Cut L h k) (hh : h + (lostTo L k).length = k) (hX : Mat.Inv k (pickM k L) X) (hN : (ch.getD 0 []).length = N) (hal : ∀ i, i < k → (ch.getD i []).length = N) {a n : Nat} (ha : a < (lostTo L k).length) (hn : n < N) :
    ((lackL k L ch N).getD a []).getD n 0 = Mat.sum (lostTo L k).length fun b => Mat.fm (lostC k L a b) (rowsM (timesL k k X ch) ((lostTo L k).getD b 0) n) := by
  have hl := p.len
  have hsub : k - (lostTo L k).length = h := by omega
  rw [lackL_at ha, rowB_at _ hn, hsub]
  have h1 := back_says hX hN (i := h + a) (by omega) hn
  rw [← h1]
  have e1 : cellL k (fun a j => cauchyF k (L.getD (h + a) 0 - k) j) (dataTo L ch N k) a n = Mat.sum k fun j => if j ∈ L then Mat.fm (Mat.rowM k (L.getD (h + a) 0) j) (rowsM (timesL k k X ch) j n) else 0 := Mat.sum_congr fun j hj => by
    show Mat.fm (cauchyF k (L.getD (h + a) 0 - k) j) (((dataTo L ch N k).getD j []).getD n 0) = _
    rw [dataTo_at hj]
    by_cases hm : j ∈ L
    · rw [if_pos hm, if_pos hm, rowM_hi (c.hi (h + a) (by omega) (by omega))]
      show _ = Mat.fm _ (((timesL k k X ch).getD j []).getD n 0)
      rw [back_had p hX hN hal hj hm]
    · rw [if_neg hm, if_neg hm]
      have : (List.replicate N (0 : UInt8)).getD n 0 = 0 := by simp [List.getD_eq_getElem?_getD, hn]
      rw [this, Mat.fm_zero]
  rw [e1, ← Mat.sum_xor]
  have s := lostTo_sum L k (fun j => (if j ∈ L then Mat.fm (Mat.rowM k (L.getD (h + a) 0) j) (rowsM (timesL k k X ch) j n) else 0) ^^^ Mat.fm (Mat.rowM k (L.getD (h + a) 0) j) (rowsM (timesL k k X ch) j n)) (fun j _ hm => by rw [if_pos hm, UInt8.xor_self])
  rw [s]
  refine Mat.sum_congr fun b hb => ?_
  rw [if_neg (lostTo_at hb).2, UInt8.zero_xor, rowM_hi (c.hi (h + a) (by omega) (by omega))]
  show _ = Mat.fm (cauchyF k (L.getD (k - (lostTo L k).length + a) 0 - k) _) _
  rw [hsub]
/-- A lost row, reckoned back. -/
theorem back_lost (p : Plc k t L) (c : Cut L h k) (hh : h + (lostTo L k).length = k) (hX : Mat.Inv k (pickM k L) X) (hN : (ch.getD 0 []).length = N) (hal : ∀ i, i < k → (ch.getD i []).length = N) {a : Nat} (ha : a < (lostTo L k).length) :
    (timesL (lostTo L k).length (lostTo L k).length (lostY k L X) (lackL k L ch N)).getD a [] = (timesL k k X ch).getD ((lostTo L k).getD a 0) [] := by
  have hI := lost_inv p c hh hX
  obtain ⟨za, _⟩ := lostTo_at ha
  rw [timesL_at ha, timesL_at za, hN, lackL_at (by omega), rowB_len]
  refine rowB_congr fun n hn => ?_
  rw [cellL_mm]
  have e1 : Mat.mm (lostTo L k).length (lostY k L X) (rowsM (lackL k L ch N)) a n = Mat.mm (lostTo L k).length (lostY k L X) (Mat.mm (lostTo L k).length (lostC k L) (fun b n => rowsM (timesL k k X ch) ((lostTo L k).getD b 0) n)) a n :=
    Mat.mm_congr (fun _ _ => rfl) fun q hq => lack_says p c hh hX hN hal hq hn
  rw [e1, ← Mat.mm_assoc, Mat.mm_congr (A' := Mat.one) (B' := fun b n => rowsM (timesL k k X ch) ((lostTo L k).getD b 0) n) (fun j hj => hI.2 a j ha hj) (fun _ _ => rfl), Mat.one_mm _ _ ha]
  show ((timesL k k X ch).getD ((lostTo L k).getD a 0) []).getD n 0 = _
  rw [timesL_at za, hN, rowB_at _ hn]
/-- The data with the first t lost rows put in their places. -/
def placed (Z : List Nat) (D rows : List (List UInt8)) : Nat → List (List UInt8)
  | 0 => D
  | t + 1 => (placed Z D rows t).set (Z.getD t 0) (rows.getD t [])
theorem placed_len (Z : List Nat) (D rows : List (List UInt8)) : ∀ t, (placed Z D rows t).length = D.length
  | 0 => rfl
  | t + 1 => by rw [placed, List.length_set, placed_len Z D rows t]
theorem placed_at {Z : List Nat} {D rows E : List (List UInt8)} (hE : ∀ a, a < Z.length → rows.getD a [] = E.getD (Z.getD a 0) []) (hD : ∀ j, j < D.length → j ∉ Z → D.getD j [] = E.getD j []) :
    ∀ t, t ≤ Z.length → ∀ j, j < D.length → j ∉ Z.drop t → (placed Z D rows t).getD j [] = E.getD j []
  | 0, _, j, hj, hn => hD j hj (by simpa using hn)
  | t + 1, ht, j, hj, hn => by
    have hlen := placed_len Z D rows t
    rw [placed]
    have hz : Z.drop t = Z.getD t 0 :: Z.drop (t + 1) := by
      rw [List.drop_eq_getElem_cons (by omega), List.getD_eq_getElem?_getD, List.getElem?_eq_getElem (by omega)]
      rfl
    by_cases e : Z.getD t 0 = j
    · rw [e, List.getD_eq_getElem?_getD, List.getElem?_set_self (by omega), ← e, ← hE t (by omega)]
      rfl
    · rw [List.getD_eq_getElem?_getD, List.getElem?_set_ne e, ← List.getD_eq_getElem?_getD]
      refine placed_at hE hD t (by omega) j hj ?_
      rw [hz]
      simp only [List.mem_cons, not_or]
      exact ⟨fun e2 => e e2.symm, hn⟩
/-- All data. -/
theorem back_all (p : Plc k t L) (c : Cut L h k) (hh : h + (lostTo L k).length = k) (hX : Mat.Inv k (pickM k L) X) (hN : (ch.getD 0 []).length = N) (hal : ∀ i, i < k → (ch.getD i []).length = N) :
    placed (lostTo L k) (dataTo L ch N k) (timesL (lostTo L k).length (lostTo L k).length (lostY k L X) (lackL k L ch N)) (lostTo L k).length = timesL k k X ch := by
  refine list_ext (by rw [placed_len, dataTo_len, timesL_len]) fun j hj => ?_
  rw [placed_len, dataTo_len] at hj
  refine placed_at (fun a ha => back_lost p c hh hX hN hal ha) (fun j hj hn => ?_) _ (Nat.le_refl _) j (by rw [dataTo_len]; exact hj) (by simp)
  rw [dataTo_len] at hj
  rw [dataTo_at hj]
  have hm : j ∈ L := Decidable.of_not_not fun h => hn (lostTo_mem.2 ⟨hj, h⟩)
  rw [if_pos hm, back_had p hX hN hal hj hm]
end
end Go.Proofs.YtkfipfhmbhmamaaDoor

namespace Go.Proofs.YtkfipfhmbhmamaaDoor
open Go.RowKit

/-- The parts X, of which c were overwritten: N, and in G which of them weren't. -/
structure Spoil (X N : List (List UInt8)) (G : List Bool) (c : Nat) : Prop where
  len : N.length = X.length
  glen : G.length = X.length
  cnt : (goodAt G).length + c = X.length
  same : ∀ i, i < X.length → G.getD i false = true → N.getD i [] = X.getD i []
theorem goodAt_replicate (n : Nat) : goodAt (List.replicate n true) = List.range n := by
  unfold goodAt
  rw [List.length_replicate]
  refine List.filter_eq_self.2 fun a ha => ?_
  have := List.mem_range.1 ha
  simp [List.getD_eq_getElem?_getD, this]
theorem goodAt_set {G : List Bool} {a : Nat} (ha : a < G.length) (hg : G.getD a false = true) : (goodAt (G.set a false)).length + 1 = (goodAt G).length := by
  have e : goodAt (G.set a false) = (goodAt G).erase a := by
    rw [(goodAt_nodup G).erase_eq_filter]
    unfold goodAt
    rw [List.length_set, List.filter_filter]
    refine List.filter_congr fun i hi => ?_
    have hi' := List.mem_range.1 hi
    by_cases h : i = a
    · subst h
      simp [List.getD_eq_getElem?_getD, hi']
    · have h' : ¬ a = i := fun e => h e.symm
      simp [List.getD_eq_getElem?_getD, h, h']
  have hm : a ∈ goodAt G := goodAt_mem.2 ⟨ha, hg⟩
  rw [e, List.length_erase_of_mem hm]
  have := List.length_pos_of_mem hm
  omega
theorem Spoil.start (X : List (List UInt8)) : Spoil X X (List.replicate X.length true) 0 :=
  ⟨rfl, by simp, by rw [goodAt_replicate]; simp, fun _ _ _ => rfl⟩
theorem Spoil.step {X N : List (List UInt8)} {G : List Bool} {c a : Nat} (h : Spoil X N G c) (ha : a < X.length) (hg : G.getD a false = true) (y : List UInt8) : Spoil X (N.set a y) (G.set a false) (c + 1) := by
  have hl := h.len
  have hgl := h.glen
  refine ⟨by rw [List.length_set, hl], by rw [List.length_set, hgl], ?_, fun i hi hgi => ?_⟩
  · have h1 := goodAt_set (by omega) hg
    have h2 := h.cnt
    omega
  · by_cases hia : a = i
    · subst hia
      rw [List.getD_eq_getElem?_getD, List.getElem?_set] at hgi
      simp [hgl, hi] at hgi
    · have e1 : (G.set a false).getD i false = G.getD i false := by rw [List.getD_eq_getElem?_getD, List.getD_eq_getElem?_getD, List.getElem?_set, if_neg hia]
      have e2 : (N.set a y).getD i [] = N.getD i [] := by rw [List.getD_eq_getElem?_getD, List.getD_eq_getElem?_getD, List.getElem?_set, if_neg hia]
      rw [e1] at hgi
      rw [e2, h.same i hi hgi]
/-- What is mended of spoilt parts, of which at most m are spoilt. -/
theorem Spoil.mend {k m c : Nat} {D N : List (List UInt8)} {G : List Bool} (h : Spoil (codeL k (k + m) D) N G c) (hk : 1 ≤ k) (hm : k + m ≤ 255) (hD : D.length = k) (ha : alike D) (hc : c ≤ m) : mendE k m N G = (codeL k (k + m) D, 0) := by
  have h1 := h.len
  have h2 := h.glen
  have h3 := h.cnt
  rw [codeL_len] at h1 h2 h3
  exact mend_code hk hm h1 h2 hD ha (by omega) (fun i hi hg => h.same i (by rw [codeL_len]; exact hi) hg)
end Go.Proofs.YtkfipfhmbhmamaaDoor

namespace Go.Proofs.YtkfipfhmbhmamaaDoor
open Go.RowKit

theorem rs_calls {n p : Nat} (hnp : n + p ≤ 255) {L : List Nat} (hl : L.length = n) (hd : L.Nodup) (hL : ∀ x ∈ L, x < n + p) :
    ∃ I C S T, identityE n = (I, 0) ∧ cauchyE n p = (C, 0) ∧ stackE [I, C] = (S, 0) ∧ S.pickE (L.map Int.ofNat) = (T, 0) ∧ T.invE = (⟨n, n, cellsOf n (backX n L) (n * n)⟩, 0) ∧ I.l.length ≤ maxLen ∧ C.l.length ≤ maxLen ∧ S.l.length ≤ maxLen ∧ T.l.length ≤ maxLen := by
  have hI := square_may (n := n) Mat.one (by omega)
  have hC := rect_may (r := p) (c := n) (cauchyF n) (by omega) (by omega)
  have hS : (⟨(n + p : Nat), n, cellsOf n Mat.one (n * n) ++ cellsOf n (cauchyF n) (p * n)⟩ : MV).may = true :=
    MV.may_iff.2 ⟨by simp; omega, by simp; omega, by simp, by simp; omega, by simp [cellsOf_len, Int.add_mul]⟩
  have hT := rect_may (r := n) (c := n) ((⟨(n + p : Nat), n, cellsOf n Mat.one (n * n) ++ cellsOf n (cauchyF n) (p * n)⟩ : MV).pickF (L.map Int.ofNat)) (by omega) (by omega)
  have hg : ∀ i, i < n → (L.map Int.ofNat).getD i 0 = ((L.getD i 0 : Nat) : Int) := fun i hi => by simp [List.getD_eq_getElem?_getD, List.getElem?_eq_getElem (show i < L.length by omega)]
  have hgl : ∀ i, i < n → L.getD i 0 < n + p := fun i hi => hL _ (by rw [List.getD_eq_getElem?_getD, List.getElem?_eq_getElem (show i < L.length by omega)]; exact List.getElem_mem _)
  refine ⟨_, ⟨p, n, cellsOf n (cauchyF n) (p * n)⟩, ⟨(n + p : Nat), n, cellsOf n Mat.one (n * n) ++ cellsOf n (cauchyF n) (p * n)⟩, _, identity_nat (by omega), ?_, ?_, ?_, ?_, MV.may_len hI, MV.may_len hC, MV.may_len hS, MV.may_len hT⟩
  · unfold cauchyE
    rw [if_pos ⟨by omega, by omega, by omega⟩]
    simp
  · have e1 : stackE [⟨n, n, cellsOf n Mat.one (n * n)⟩, ⟨p, n, cellsOf n (cauchyF n) (p * n)⟩] = stackGo n 0 [] [⟨n, n, cellsOf n Mat.one (n * n)⟩, ⟨p, n, cellsOf n (cauchyF n) (p * n)⟩] := rfl
    rw [e1, stackGo, if_pos ⟨hI, rfl, by simp; omega⟩, stackGo, if_pos ⟨hC, rfl, by simp; omega⟩, stackGo]
    simp
  · unfold MV.pickE
    rw [if_pos ⟨hS, by rw [List.length_map]; omega, fun i hi => by
      rw [List.length_map] at hi
      rw [hg i (by omega)]
      have := hgl i (by omega)
      exact ⟨by omega, by show ((L.getD i 0 : Nat) : Int) < ((n + p : Nat) : Int); omega⟩⟩]
    unfold MV.pickR
    rw [List.length_map, hl]
    simp
  · have hX := backX_inv (k := n) (L := L) (by omega) hl hd (fun x hx => by have := hL x hx; omega)
    have hT' : Mat.Inv n (⟨n, n, cellsOf n ((⟨(n + p : Nat), n, cellsOf n Mat.one (n * n) ++ cellsOf n (cauchyF n) (p * n)⟩ : MV).pickF (L.map Int.ofNat)) (n * n)⟩ : MV).at (backX n L) := by
      refine inv_congr (fun i j hi hj => ?_) hX
      rw [at_cells hi hj]
      show (⟨(n + p : Nat), n, cellsOf n Mat.one (n * n) ++ cellsOf n (cauchyF n) (p * n)⟩ : MV).at (((L.map Int.ofNat).getD i 0).toNat) j = _
      rw [hg i hi, Int.toNat_natCast]
      exact stack_at (hgl i hi) hj
    exact MV.invE_of hT rfl (X := backX n L) (by simpa using hT')

/-- v's block isn't u's. -/
def Apart (v u : Value) : Prop := ∀ a, v.ownBlock = some a → u.ownBlock ≠ some a
theorem Apart.symm {v u : Value} (h : Apart v u) : Apart u v := fun a h1 h2 => h a h2 h1
theorem Apart.row {v u : Value} (h : Apart v u) : v.ownBlock = none ∨ v.ownBlock ≠ u.ownBlock := by
  cases hv : v.ownBlock with
  | none => exact .inl rfl
  | some a => exact .inr fun e => h a hv e.symm
theorem Apart.next {v v' u : Value} {H : Nat} (h : Apart v u) (hN : v'.ownBlock = v.ownBlock ∨ v'.ownBlock = some H) (hu : ∀ k, u.ownBlock = some k → k < H) : Apart v' u := by
  rintro a h1 h2
  rcases hN with e | e
  · exact h a (by rw [← e, h1]) h2
  · have := hu a h2
    rw [e] at h1
    injection h1 with h1
    omega
/-- v is nil, or lies in a block of the call's own (from base on), and reads as these rows, whose bytes lie below base. -/
structure OwnQ (w : World) (base : Nat) (v : Value) (ls : List (List UInt8)) : Prop where
  own : ∃ R : Nat → Value, w.ownsRow base 27 1 v ls.length ((List.range ls.length).map R) ∧ ∀ i, i < ls.length → RowOf w base (R i) (ls.getD i [])
section
variable {w w' : World} {base : Nat} {v x : Value} {l : List UInt8} {ls : List (List UInt8)}
theorem OwnQ.nil (w : World) (base : Nat) : OwnQ w base (.slice none 0 0) [] := ⟨fun _ => default, World.ownsRow_nil w base _ _, fun i hi => absurd hi (by simp)⟩
theorem OwnQ.lt (h : OwnQ w base v ls) : ∀ k, v.ownBlock = some k → base ≤ k ∧ k < w.heap.size := by
  obtain ⟨R, h1, _⟩ := h.own
  exact h1.lt
theorem RowOf.below {B : Nat} (h : RowOf w B x l) (hb : Below B w w') : RowOf w' B x l := by
  obtain ⟨A, k, h1, h2, h3, h4⟩ := h
  exact ⟨A, k, h1, h2, h3, h4.below hb (Nat.le_refl _)⟩
theorem RowOf.up {B C : Nat} (h : RowOf w B x l) (hb : B ≤ C) : RowOf w C x l := by
  obtain ⟨A, k, h1, h2, h3, h4⟩ := h
  exact ⟨A, k, h1, h2, h3, h4.mono hb⟩
theorem OwnQ.kept (h : OwnQ w base v ls) {ob : Option Nat} (hG : w.grownBy w' ob) (hB : base ≤ w.heap.size) (hob : ∀ k, ob = some k → base ≤ k) (hne : v.ownBlock = none ∨ v.ownBlock ≠ ob) : OwnQ w' base v ls := by
  obtain ⟨R, h1, h2⟩ := h.own
  exact ⟨R, h1.kept hG hne, fun i hi => (h2 i hi).below (Below.grown (Below.refl _ _) hG hB hob)⟩
theorem OwnQ.ext (h : OwnQ w base v ls) (hE : Ext w w') (hB : base ≤ w.heap.size) : OwnQ w' base v ls := h.kept (hE.grown none) hB (fun k hk => by cases hk) (by cases hv : v.ownBlock <;> simp)
theorem OwnQ.toP (h : OwnQ w base v ls) (hB : base ≤ w.heap.size) : OwnP w base v ls := by
  obtain ⟨R, h1, h2⟩ := h.own
  exact ⟨R, h1, fun i hi => ⟨(h2 i hi).up hB, Clear.of (fun k hk => (h1.lt k hk).1) (h2 i hi)⟩⟩
theorem OwnI.kept {L : List Int} (h : OwnI w base v L) {ob : Option Nat} (hG : w.grownBy w' ob) (hne : v.ownBlock = none ∨ v.ownBlock ≠ ob) : OwnI w' base v L := World.ownsRow.kept h hG hne
end
section
variable {o : Oper} {a : Act} {Q : Exit → Act → World → Prop} {w : World} {base : Nat} {v : Value} {ls : List (List UInt8)}
set_option maxRecDepth 100000 in
/-- append of one row, whose slice lies in a block of its own. -/
theorem wpList_appQ {ops : Array Oper} {rest : List Oper} (hgd : o.guard = none) (s x : Operand) (ho : o.op = .call { callee := .builtin .append, args := #[s, x], argTypes := #[55, 55] }) (hs : a.eval s = v) {A : Option Addr} {m k : Nat} {l : List UInt8}
    (h : OwnQ w base v ls) (hr : RowOf w base (.slice A m k) l) {c : Nat} (hx : a.eval x = .slice (some ⟨w.heap.size, 0, none⟩) 1 c) (hlen : ls.length ≤ 1000) (hbase : base ≤ w.heap.size)
    (hk : ∀ v' w', OwnQ w' base v' (ls ++ [l]) → (w.alloc (.cells #[.slice A m k] 27)).grownBy w' v.ownBlock → (v'.ownBlock = v.ownBlock ∨ v'.ownBlock = some (w.heap.size + 1)) → wpList Tryd.prog ops Q rest (a.put o.dst v') w') :
    wpList Tryd.prog ops Q (o :: rest) a (w.alloc (.cells #[.slice A m k] 27)) := by
  obtain ⟨i, hi, hz, hsz, hby⟩ := info_parts rw_info
  have hE := extNew w (.cells #[.slice A m k] 27)
  obtain ⟨R, h1, h2⟩ := (h.ext hE hbase).own
  refine wpList_append_own_at _ hgd s x 55 ho base 27 i _ 1 24 Tryd.underlying55 hi hz hsz hby rfl (by omega) v ls.length _ hs h1 ⟨w.heap.size, 0, none⟩ 1 c [.slice A m k] hx rfl (by
    intro j u hu
    match j, hu with
    | 0, hu =>
      have : (⟨w.heap.size, 0, none⟩ : Addr).add 0 = ⟨w.heap.size, 0, none⟩ := rfl
      rw [this, cellNew]
      simpa using hu
    | j + 1, hu => simp at hu) (by
    intro u hu
    simp at hu
    subst hu
    rfl) (by unfold maxLen; omega) (by omega) (by simp; omega) ?_
  intro v' w' h3 h4 _ h5
  rw [World.size_alloc] at h5
  refine hk v' w' ⟨fun i => if i < ls.length then R i else .slice A m k, ?_, fun i hi => ?_⟩ h4 h5
  · have e : (List.range (ls ++ [l]).length).map (fun i => if i < ls.length then R i else Value.slice A m k) = (List.range ls.length).map R ++ [Value.slice A m k] := by
      rw [List.length_append, List.length_singleton, List.range_succ, List.map_append]
      congr 1
      · exact List.map_congr_left fun i hi => if_pos (List.mem_range.1 hi)
      · simp
    rw [e, List.length_append]
    exact h3
  · have hbel : Below base w w' := Below.grown (belowNew w _ |>.mono hbase) h4 (by rw [World.size_alloc]; omega) (fun k hk => (h1.lt k hk).1)
    rw [List.length_append, List.length_singleton] at hi
    by_cases hil : i < ls.length
    · have e : (ls ++ [l]).getD i [] = ls.getD i [] := by simp [List.getD_eq_getElem?_getD, List.getElem?_append_left hil]
      simp only [hil, if_true]
      rw [e]
      obtain ⟨R', h1', h2'⟩ := h.own
      exact (h2 i hil).below (Below.grown (Below.refl _ _) h4 (by rw [World.size_alloc]; omega) (fun k hk => (h1.lt k hk).1))
    · obtain rfl : i = ls.length := by omega
      have e : (ls ++ [l]).getD ls.length [] = l := by simp [List.getD_eq_getElem?_getD]
      simp only [Nat.lt_irrefl, if_false]
      rw [e]
      exact hr.below hbel
end
section
variable {o : Oper} {a : Act} {Q : Exit → Act → World → Prop} {w : World} {base : Nat} {v : Value} {L : List Int}
/-- append of one number, which lies in a block of its own; where the row then lies. -/
theorem wpList_appI' {ops : Array Oper} {rest : List Oper} (hgd : o.guard = none) (s x : Operand) (ho : o.op = .call { callee := .builtin .append, args := #[s, x], argTypes := #[32, 32] }) (hs : a.eval s = v) (p : Int)
    (hown : OwnI (w.alloc (.cells #[.int .i64 p] 3)) base v L) {c : Nat} (hx : a.eval x = .slice (some ⟨w.heap.size, 0, none⟩) 1 c) (hlen : L.length ≤ 1000) (hbase : base ≤ w.heap.size)
    (h : ∀ v' w', OwnI w' base v' (L ++ [p]) → (w.alloc (.cells #[.int .i64 p] 3)).grownBy w' v.ownBlock → (v'.ownBlock = v.ownBlock ∨ v'.ownBlock = some (w.heap.size + 1)) → wpList Tryd.prog ops Q rest (a.put o.dst v') w') :
    wpList Tryd.prog ops Q (o :: rest) a (w.alloc (.cells #[.int .i64 p] 3)) := by
  obtain ⟨i, hi, hz, hsz, hby⟩ := info_parts int_info
  refine wpList_append_own_at _ hgd s x 32 ho base 3 i _ 1 8 Tryd.underlying32 hi hz hsz hby rfl (by omega) v L.length (L.map (Value.int .i64)) hs hown ⟨w.heap.size, 0, none⟩ 1 c [.int .i64 p] hx rfl (by
    intro j u hu
    match j, hu with
    | 0, hu =>
      have : (⟨w.heap.size, 0, none⟩ : Addr).add 0 = ⟨w.heap.size, 0, none⟩ := rfl
      rw [this, cellNew]
      simpa using hu
    | j + 1, hu => simp at hu) (by
    intro u hu
    simp at hu
    subst hu
    rfl) (by unfold maxLen; omega) (by omega) (by simp; omega) ?_
  intro v' w' h2 h3 _ h5
  rw [World.size_alloc] at h5
  refine h v' w' ?_ h3 h5
  unfold OwnI
  rw [List.length_append, List.map_append]
  exact h2
end
end Go.Proofs.YtkfipfhmbhmamaaDoor

namespace Go.Proofs.YtkfipfhmbhmamaaDoor
open Go.RowKit

/-- The document's Inverse tells what an inverse is. -/
def RefInverseC : Prop := ∀ (m : MV) (A : Option Addr) (k : Nat) (W : World), m.lies W A k → Calls Tryd.prog 59 #[m.arg A k] W (MadeM W m.invE.1 m.invE.2)
theorem MV.invE_flat {m : MV} {n : Nat} (hm : m.may = true) (hr : m.r = n) (hc : m.c = n) {v : Nat → UInt8} (h : Mat.Ker n m.at v) : m.invE = (MV.zero, 14) := by
  have he : ¬ ∃ X, Mat.Inv m.r.toNat m.at X := by
    rw [hr, Int.toNat_natCast]
    rintro ⟨X, hX⟩
    exact h.none hX.2
  unfold MV.invE
  rw [if_pos ⟨hm, by rw [hr, hc]⟩, dif_neg he]
theorem MV.invE_not {m : MV} (h : ¬ (m.may = true ∧ m.r = m.c)) : m.invE = (MV.zero, 13) := by
  unfold MV.invE
  rw [if_neg h]
theorem cellsOf_row (n : Nat) (f : Mat.M) (i : Nat) (hn : 0 < n) : ∀ k, k ≤ n → cellsOf n f (i * n + k) = cellsOf n f (i * n) ++ rowB k (f i)
  | 0, _ => by simp [rowB]
  | k + 1, hk => by
    have hdiv : (i * n + k) / n = i := by rw [Nat.mul_comm, Nat.mul_add_div hn, Nat.div_eq_of_lt (by omega), Nat.add_zero]
    have hmod : (i * n + k) % n = k := by rw [Nat.mul_comm, Nat.mul_add_mod, Nat.mod_eq_of_lt (by omega)]
    rw [← Nat.add_assoc, cellsOf_succ, cellsOf_row n f i hn k (by omega), hdiv, hmod, rowB_succ, List.append_assoc]
theorem set_there (R : Nat → Value) {n i p : Nat} (_hi : i < n) (hp : p < n) : (((List.range n).map R).set i (R p))[p]? = some (R p) := by
  rw [List.getElem?_set]
  by_cases h : i = p
  · simp [h, hp]
  · simp [h, hp]

attribute [local go_sem ↓] run_cut
set_option maxHeartbeats 8000000 in
set_option maxRecDepth 100000 in
theorem refInverse_any : RefInverseC := by
  intro m A kk w h
  obtain ⟨h1, hl1, hlk⟩ := h
  clear hlk
  have M1 := fun W => refMay_any m A m.l.length kk W rfl hl1
  have hE1 := extNew w (.cells #[.int .i64 m.r, .int .i64 m.c, .slice A m.l.length kk] 76)
  have hE2 := extNew (w.alloc (.cells #[.int .i64 m.r, .int .i64 m.c, .slice A m.l.length kk] 76)) (.cells #[.int .i64 0, .int .i64 0, .slice none 0 0] 76)
  have hWa := (Whole.new w 76 #[.int .i64 m.r, .int .i64 m.c, .slice A m.l.length kk]).ext hE2
  have hWr := Whole.new (w.alloc (.cells #[.int .i64 m.r, .int .i64 m.c, .slice A m.l.length kk] 76)) 76 #[.int .i64 0, .int .i64 0, .slice none 0 0]
  have hE := hE1.trans hE2
  rw [World.size_alloc] at hWr
  clear hE1 hE2
  have hae : m.arg A kk = .agg #[.int .i64 m.r, .int .i64 m.c, .slice A m.l.length kk] := rfl
  rw [hae]
  clear hae
  by_cases hm : m.may = true
  · rw [hm] at M1
    obtain ⟨q1, q2, q3, q4, q5⟩ := MV.may_iff.1 hm
    by_cases hrc : m.r = m.c
    · have HI := hide (fun (n : Nat) (hr : m.r = n) (v : Nat → UInt8) hv => MV.invE_flat (n := n) hm hr (by rw [← hrc]; exact hr) (v := v) hv)
      have HV := hide (fun (X : Mat.M) hX => MV.invE_of hm hrc (X := X) hX)
      have HA := hide (show ∀ i j, m.at i j = m.l.getD (i * m.c.toNat + j) 0 from fun _ _ => rfl)
      generalize m.invE = res at *
      generalize m.at = fa at *
      obtain ⟨r, c, l⟩ := m
      dsimp only at *
      subst hrc
      obtain ⟨n, rfl⟩ := Int.eq_ofNat_of_zero_le q1
      simp only [Int.toNat_natCast] at HV HA
      have HI2 := hide (HI.out n rfl)
      clear HI
      have l5 : l.length = n * n := by omega
      have hn : n ≤ 255 := by omega
      have hn' : (n : Int) ≤ 255 := by omega
      have HL := hide l5
      have h2n : IntKind.i64.wrap (2 * (n : Int)) = ((2 * n : Nat) : Int) := by rw [IntKind.wrap_i64]; omega
      have hne : ((n : Int) != (n : Int)) = false := by simp
      clear q1 q2 q3 q4 q5 l5 hl1 hm
      go_enter Tryd.func59, Tryd.ntmps59
      go_wp2_with fail
      refine (M1 _).mono ?_
      rintro e w2 ⟨rfl, hF2⟩
      have hWa2 := hWa.ext hF2
      have hWr2 := hWr.ext hF2
      have hEw2 := hE.trans hF2
      have b0 := hWa2.at 0 rfl
      have b1 := hWa2.at 1 rfl
      have b2 := hWa2.at 2 rfl
      have hrl := hWr2.lt
      clear M1 hE hWa hWr hF2
      go_wp2_with fail
      go_loopw [5, 6] (fun v i wr => ∃ (j : Nat) (R : Nat → Value), j ≤ n ∧ i = .int .i64 (j : Int) ∧ Tbl wr w2.heap.size v j (2 * n) R (Mat.both n fa) ∧ Ext w2 wr) (fun _ i _ => n - (intOf i).toNat)
      case atStart => exact ⟨0, fun _ => default, by omega, rfl, Tbl.bare _ _ _ _ _, Ext.refl _⟩
      case round =>
        obtain ⟨i, R, hi, rfl, hT, hEr⟩ := hrel
        by_cases hlt : i < n
        · obtain ⟨wa, rfl⟩ : ∃ W, W = wr := ⟨_, rfl⟩
          go_wp2_with fail
          go_loopw [7, 8] (fun x j wq => ∃ k : Nat, k ≤ 2 * n ∧ j = .int .i64 (k : Int) ∧ OwnB wq wa.heap.size x (rowB k (Mat.both n fa i)) ∧ Ext wa wq) (fun _ j _ => 2 * n - (intOf j).toNat)
          case atStart => exact ⟨0, by omega, rfl, OwnB.nil _ _, Ext.refl _⟩
          case round =>
            obtain ⟨k, hk, rfl, hO, hEq⟩ := hrel
            by_cases hkt : k < 2 * n
            · have hkt' : (k : Int) < 2 * (n : Int) := by omega
              have hfit : (rowB k (Mat.both n fa i)).length + 1 ≤ 140737488355328 := by rw [rowB_len]; omega
              have hba := (hWa2.ext (hEr.trans hEq)).at 2 rfl
              by_cases hkn : k < n
              · have HB := hide (show Mat.both n fa i k = fa i k from if_pos hkn)
                have hia : i * n + k < n * n := by
                  have : (i + 1) * n ≤ n * n := Nat.mul_le_mul_right _ hlt
                  rw [Nat.add_mul, Nat.one_mul] at this
                  omega
                obtain ⟨_, h1'⟩ := (hEw2.trans (hEr.trans hEq)).bytes h1
                rcases h1' with h0 | ⟨g1, o1, hA1, _, hc1⟩
                · have := HL.out; omega
                subst hA1
                have m1 := hc1 (i * n + k) (by have := HL.out; omega)
                rw [← HA.out] at m1
                have hnn : n * n ≤ 65025 := Nat.mul_le_mul hn hn
                have hP1 : i * n ≤ 65025 := by omega
                have hm1 : IntKind.i64.wrap ((i : Int) * (n : Int)) = ((i * n : Nat) : Int) := by rw [(Int.natCast_mul i n).symm, IntKind.wrap_i64]; omega
                have hla : (l.length : Int) = ((n * n : Nat) : Int) := by rw [HL.out]
                generalize i * n = P at *
                have g1a : ((P : Int) + (k : Int)) < (l.length : Int) := by omega
                have g1b : (0 : Int) ≤ ((P : Int) + (k : Int)) := by omega
                have hkn' : (k : Int) < (n : Int) := by omega
                clear hla hc1 h1 hia hnn
                generalize fa i k = xa at *
                have hb1 := bytesNew wr [xa] #[.int .u8 (xa.toNat : Int)] 5 (0, 0) rfl 1 rfl
                have hE4 := extNew wr (.cells #[.int .u8 (xa.toNat : Int)] 5)
                have hO1 := hO.ext hE4
                have hB1 : wa.heap.size ≤ (wr.alloc (.cells #[.int .u8 (xa.toNat : Int)] 5)).heap.size := by
                  have := (hEq.trans hE4).le
                  omega
                go_wp2_with (at_builtin; refine wpList_appAt rfl (.tmp 61) (.tmp 63) rfl rfl hO1 rfl hb1 hfit hB1 ?_; intro v4 w4 hO4 hG4 hN4)
                go_roundw
                case rel => exact ⟨k + 1, by omega, by go_num, by rw [rowB_succ, HB.out]; exact hO4, Below.grown (hEq.trans hE4) hG4 (hEq.trans hE4).le (fun k hk => (hO1.lt k hk).1)⟩
                case measure => simp [intOf]; omega

              · have hkn' : ¬ ((k : Int) < (n : Int)) := by omega
                by_cases hki : k - n = i
                · have HB := hide (show Mat.both n fa i k = 1 by unfold Mat.both; rw [if_neg hkn, if_pos hki])
                  have hki' : ((k : Int) - (n : Int) == (i : Int)) = true := by simp; omega
                  clear hki h1
                  have hb1 := bytesNew wr [1] #[.int .u8 1] 5 (0, 0) rfl 1 rfl
                  have hE4 := extNew wr (.cells #[.int .u8 1] 5)
                  have hO1 := hO.ext hE4
                  have hB1 : wa.heap.size ≤ (wr.alloc (.cells #[.int .u8 1] 5)).heap.size := by
                    have := (hEq.trans hE4).le
                    omega
                  go_wp2_with (at_builtin; refine wpList_appAt rfl (.tmp 61) (.tmp 63) rfl rfl hO1 rfl hb1 hfit hB1 ?_; intro v4 w4 hO4 hG4 hN4)
                  go_roundw
                  case rel => exact ⟨k + 1, by omega, by go_num, by rw [rowB_succ, HB.out]; exact hO4, Below.grown (hEq.trans hE4) hG4 (hEq.trans hE4).le (fun k hk => (hO1.lt k hk).1)⟩
                  case measure => simp [intOf]; omega

                · have HB := hide (show Mat.both n fa i k = 0 by unfold Mat.both; rw [if_neg hkn, if_neg hki])
                  have hki' : ((k : Int) - (n : Int) == (i : Int)) = false := by simp; omega
                  clear hki h1
                  have hb1 := bytesNew wr [0] #[.int .u8 0] 5 (0, 0) rfl 1 rfl
                  have hE4 := extNew wr (.cells #[.int .u8 0] 5)
                  have hO1 := hO.ext hE4
                  have hB1 : wa.heap.size ≤ (wr.alloc (.cells #[.int .u8 0] 5)).heap.size := by
                    have := (hEq.trans hE4).le
                    omega
                  go_wp2_with (at_builtin; refine wpList_appAt rfl (.tmp 61) (.tmp 63) rfl rfl hO1 rfl hb1 hfit hB1 ?_; intro v4 w4 hO4 hG4 hN4)
                  go_roundw
                  case rel => exact ⟨k + 1, by omega, by go_num, by rw [rowB_succ, HB.out]; exact hO4, Below.grown (hEq.trans hE4) hG4 (hEq.trans hE4).le (fun k hk => (hO1.lt k hk).1)⟩
                  case measure => simp [intOf]; omega

            · obtain rfl : k = 2 * n := by omega
              have hkt' : ¬ (((2 * n : Nat) : Int) < 2 * (n : Int)) := by omega
              obtain ⟨A7, n7, c7, rfl, _, hn7, _⟩ := hO.form'
              have hE4 := extNew wr (.cells #[.slice A7 n7 c7] 27)
              have hT4 := (hT.ext hEq).ext hE4
              have hown := (hT.ext hEq).own
              have hB4 := (hEr.trans hEq).le
              clear h1
              go_wp2_with (at_builtin; refine wpList_appSM rfl (.tmp 65) (.tmp 67) rfl rfl hown rfl (by omega) hB4 ?_; intro v4 w4 hO4 hG4 hN4)
              go_roundw
              case rel =>
                have hx := (hO.ext hE4).mono hEr.le
                have hnew : ∃ b, (Value.slice A7 n7 c7).ownBlock = some b ∧ wa.heap.size ≤ b := by
                  obtain ⟨b, ci, hxe, hb, _⟩ := hO.formG (by rw [rowB_len]; omega)
                  exact ⟨b, by rw [hxe]; rfl, hb⟩
                refine ⟨i + 1, _, by omega, by go_num, (hT4.push (by omega) hx (matOwn_apart hnew fun k hk => (hT.own.lt k hk).2) (fun a ha e => matOwn_apart hnew (fun k hk => ((hT.row a ha).lt k hk).2) e.symm) hO4 hG4 hN4).congr fun a b ha hb => ?_, Below.grown ((hEr.trans hEq).trans hE4) hG4 ((hEr.trans hEq).trans hE4).le (fun k hk => (hT.own.lt k hk).1)⟩
                by_cases hai : a = i
                · rw [if_pos hai, hai]
                · rw [if_neg hai]
              case measure => simp [intOf]; omega
        · obtain rfl : n = i := by omega
          have hIn0 := Mat.Inner.start n fa
          clear h1 hlt hi b0 b1 b2 h2n hne
          go_wp2_with fail
          go_loopw [10] (fun x wq => ∃ (j : Nat) (R : Nat → Value) (F : Mat.M), j ≤ n ∧ x = .int .i64 (j : Int) ∧ Tbl wq w2.heap.size u5 n (2 * n) R F ∧ Mat.Inner n j fa F ∧ Ext w2 wq) (fun x _ => n - (intOf x).toNat)
          case atStart => exact ⟨0, _, _, by omega, rfl, hT, hIn0, hEr⟩
          case round =>
            clear hT hIn0 hEr
            obtain ⟨i, R, F, hi, rfl, hT, hIn, hEr⟩ := hrel
            by_cases hlt : i < n
            · obtain ⟨g, kr, rfl, hgB, hgl⟩ := hT.form (by omega)
              obtain ⟨wa, rfl⟩ : ∃ W, W = wr := ⟨_, rfl⟩
              go_wp2_with fail
              go_loop [11] (fun x => ∃ q : Nat, i ≤ q ∧ q ≤ n ∧ x = .int .i64 (q : Int) ∧ ∀ a, i ≤ a → a < q → F a i = 0) (fun x => n - (intOf x).toNat)
              case atStart => exact ⟨i, by omega, by omega, rfl, fun a h1 h2 => absurd h1 (by omega)⟩
              case round =>
                obtain ⟨p, hip, hpn, rfl, hz⟩ := hrel
                have HZ := hide hz
                clear hz
                by_cases hpt : p < n
                · obtain ⟨gp, cp, hRp, hgp, hgpl, hgpg, hcp, kp, fp, hp⟩ := hT.rowAt hpt
                  obtain ⟨kpi, fpi⟩ := hp i (by omega)
                  have hi2 : (i : Int) < 2 * (n : Int) := by omega
                  have hi0 : (0 : Int) ≤ (i : Int) := by omega
                  have HP := hide hp
                  have HRp := hide hRp
                  clear hp hRp
                  by_cases hF : F p i = 0
                  · rw [hF] at kpi
                    have kpi' : wa.cell? ⟨gp, i, none⟩ = some (.int .u8 0) := kpi
                    clear kpi
                    go_wp2_with fail
                    go_round
                    case rel =>
                      refine ⟨p + 1, by omega, by omega, by go_num, fun a h1 h2 => ?_⟩
                      by_cases hap : a = p
                      · subst hap
                        exact hF
                      · exact HZ.out a h1 (by omega)
                    case measure => simp [intOf]; omega
                  · have hF' : (((F p i).toNat : Int) == 0) = false := by
                      rw [beq_eq_false_iff_ne]
                      intro e
                      exact hF (Mat.ext8 (by have : (F p i).toNat = 0 := by omega
                                             exact this))
                    have hpn' : ((p : Int) == (n : Int)) = false := by rw [beq_eq_false_iff_ne]; omega
                    have HF0 := hide hF
                    clear hF
                    go_wp2_with fail
                    obtain ⟨gi, ci, hRi, hgi, hgil, hgig, hci, kid, fid, hcz⟩ := hT.rowAt hlt
                    clear hcz
                    have kpd := kp
                    have st1 := (World.ownsRow.stored hT.own i (R p)).1
                    have kp1 := World.ownsRow.cellAt st1 p (by omega)
                    rw [set_there R hlt hpt] at kp1
                    have hTs := (hT.swap hlt hpt).ext (Ext.refl _).drew
                    have hEs := ((hEr.setCell hgB (i := i) (R p)).setCell hgB (i := p) (R i)).drew
                    rw [HRp.out] at kp1 hTs hEs
                    rw [hRi] at hTs hEs
                    have hp0 : (0 : Int) ≤ (p : Int) := by omega
                    have hin : (i : Int) < (n : Int) := by omega
                    have hpn2 : (p : Int) < (n : Int) := by omega
                    have HRi := hide hRi
                    clear hT st1 hRi kpi fpi kp
                    refine wp_region_T (fun W => W.cell? ⟨g, i, none⟩ = some (.slice (some ⟨gi, 0, none⟩) (2 * n) ci) ∧ W.cell? ⟨g, p, none⟩ = some (.slice (some ⟨gp, 0, none⟩) (2 * n) cp)) 13 16 #[false, false, false, false, false, false, false, false, false, false, false, false, false, false, false, false] (by kernel_rfl) rfl rfl ⟨kid, kpd⟩ ?_
                    intro hS0
                    refine wpAnyT_pure 2 (some 96) (.slice (some ⟨g, 0, none⟩) n kr) #[false, false, true, false, false, false, false, false, false, false, false, false, false, false, false, false] rfl rfl rfl (by kernel_rfl) (fun _ _ _ h => h) (fun _ => hS0) (by rfl) (fun W => by go_simp) ?_
                    simp only [Act.put, List.setIfInBounds_toArray, List.set_cons_zero, List.set_cons_succ]
                    refine wpAnyT_pure 3 (some 97) (.int .i64 (p : Int)) #[false, false, true, true, false, false, false, false, false, false, false, false, false, false, false, false] rfl rfl rfl (by kernel_rfl) (fun _ _ _ h => h) (fun _ => hS0) (by rfl) (fun W => by go_simp) ?_
                    simp only [Act.put, List.setIfInBounds_toArray, List.set_cons_zero, List.set_cons_succ]
                    refine wpAnyT_take 0 (some 94) (.slice (some ⟨g, 0, none⟩) n kr) #[true, false, true, true, false, false, false, false, false, false, false, false, false, false, false, false] rfl rfl rfl (by kernel_rfl) (fun _ _ _ h => h) hS0 (by rfl) (fun W ⟨x0, x1⟩ => by go_simp) ?_
                    simp only [Act.put, List.setIfInBounds_toArray, List.set_cons_zero, List.set_cons_succ]
                    refine wpAnyT_take 1 (some 95) (.int .i64 (i : Int)) #[true, true, true, true, false, false, false, false, false, false, false, false, false, false, false, false] rfl rfl rfl (by kernel_rfl) (fun _ _ _ h => h) hS0 (by rfl) (fun W ⟨x0, x1⟩ => by go_simp) ?_
                    simp only [Act.put, List.setIfInBounds_toArray, List.set_cons_zero, List.set_cons_succ]
                    refine wpAnyT_take 4 (some 98) (.slice (some ⟨g, 0, none⟩) n kr) #[true, true, true, true, true, false, false, false, false, false, false, false, false, false, false, false] rfl rfl rfl (by kernel_rfl) (fun _ _ _ h => h) hS0 (by rfl) (fun W ⟨x0, x1⟩ => by go_simp) ?_
                    simp only [Act.put, List.setIfInBounds_toArray, List.set_cons_zero, List.set_cons_succ]
                    refine wpAnyT_take 5 (some 99) (.int .i64 (p : Int)) #[true, true, true, true, true, true, false, false, false, false, false, false, false, false, false, false] rfl rfl rfl (by kernel_rfl) (fun _ _ _ h => h) hS0 (by rfl) (fun W ⟨x0, x1⟩ => by go_simp) ?_
                    simp only [Act.put, List.setIfInBounds_toArray, List.set_cons_zero, List.set_cons_succ]
                    refine wpAnyT_take 6 (some 100) (.pointer (some ⟨g, p, none⟩)) #[true, true, true, true, true, true, true, false, false, false, false, false, false, false, false, false] rfl rfl rfl (by kernel_rfl) (fun _ _ _ h => h) hS0 (by rfl) (fun W ⟨x0, x1⟩ => by go_simp) ?_
                    simp only [Act.put, List.setIfInBounds_toArray, List.set_cons_zero, List.set_cons_succ]
                    refine wpAnyT_take 7 (some 101) (.slice (some ⟨gp, 0, none⟩) (2 * n) cp) #[true, true, true, true, true, true, true, true, false, false, false, false, false, false, false, false] rfl rfl rfl (by kernel_rfl) (fun _ _ _ h => h) hS0 (by rfl) (fun W ⟨x0, x1⟩ => by go_simp) ?_
                    simp only [Act.put, List.setIfInBounds_toArray, List.set_cons_zero, List.set_cons_succ]
                    refine wpAnyT_take 8 (some 102) (.slice (some ⟨g, 0, none⟩) n kr) #[true, true, true, true, true, true, true, true, true, false, false, false, false, false, false, false] rfl rfl rfl (by kernel_rfl) (fun _ _ _ h => h) hS0 (by rfl) (fun W ⟨x0, x1⟩ => by go_simp) ?_
                    simp only [Act.put, List.setIfInBounds_toArray, List.set_cons_zero, List.set_cons_succ]
                    refine wpAnyT_take 9 (some 103) (.int .i64 (i : Int)) #[true, true, true, true, true, true, true, true, true, true, false, false, false, false, false, false] rfl rfl rfl (by kernel_rfl) (fun _ _ _ h => h) hS0 (by rfl) (fun W ⟨x0, x1⟩ => by go_simp) ?_
                    simp only [Act.put, List.setIfInBounds_toArray, List.set_cons_zero, List.set_cons_succ]
                    refine wpAnyT_take 10 (some 104) (.pointer (some ⟨g, i, none⟩)) #[true, true, true, true, true, true, true, true, true, true, true, false, false, false, false, false] rfl rfl rfl (by kernel_rfl) (fun _ _ _ h => h) hS0 (by rfl) (fun W ⟨x0, x1⟩ => by go_simp) ?_
                    simp only [Act.put, List.setIfInBounds_toArray, List.set_cons_zero, List.set_cons_succ]
                    refine wpAnyT_take 11 (some 105) (.slice (some ⟨gi, 0, none⟩) (2 * n) ci) #[true, true, true, true, true, true, true, true, true, true, true, true, false, false, false, false] rfl rfl rfl (by kernel_rfl) (fun _ _ _ h => h) hS0 (by rfl) (fun W ⟨x0, x1⟩ => by go_simp) ?_
                    simp only [Act.put, List.setIfInBounds_toArray, List.set_cons_zero, List.set_cons_succ]
                    refine wpAnyT_only 12 #[true, true, true, true, true, true, true, true, true, true, true, true, true, false, false, false] (by kernel_rfl) rfl rfl (by rfl) (fun K hK => ?_)
                    go_simp
                    refine hK _ _ (fun _ => ⟨kid, kpd⟩) ?_
                    clear hK K
                    refine wpAnyT_only 13 #[true, true, true, true, true, true, true, true, true, true, true, true, true, true, false, false] (by kernel_rfl) rfl rfl (by rfl) (fun K hK => ?_)
                    go_simp
                    refine hK _ _ (fun h => absurd h (by decide)) ?_
                    clear hK K
                    refine wpAnyT_only 14 #[true, true, true, true, true, true, true, true, true, true, true, true, true, true, true, false] (by kernel_rfl) rfl rfl (by rfl) (fun K hK => ?_)
                    go_simp
                    refine hK _ _ (fun h => absurd h (by decide)) ?_
                    clear hK K
                    refine wpAnyT_only 15 #[true, true, true, true, true, true, true, true, true, true, true, true, true, true, true, true] (by kernel_rfl) rfl rfl (by rfl) (fun K hK => ?_)
                    go_simp
                    refine hK _ _ (fun h => absurd h (by decide)) ?_
                    clear hK K
                    refine wpAnyT_done (by kernel_rfl) ?_ _
                    obtain ⟨R1, F1, hT1, hIn1, h01⟩ : ∃ R1 F1, Tbl ((wa.setCell ⟨g, i, none⟩ (.slice (some ⟨gp, 0, none⟩) (2 * n) cp)).setCell ⟨g, p, none⟩ (.slice (some ⟨gi, 0, none⟩) (2 * n) ci)).drew w2.heap.size (.slice (some ⟨g, 0, none⟩) n kr) n (2 * n) R1 F1 ∧ Mat.Inner n i fa F1 ∧ F1 i i ≠ 0 :=
                      ⟨_, _, hTs, hIn.swap hlt hpt hip, by show F (Mat.sw i p i) i ≠ 0; rw [Mat.sw_here]; exact HF0.out⟩
                    clear hTs HF0 HZ kid fid kpd kp1 fp hgp hgpl hgpg hcp HP HRp hgi hgil hgig hci HRi hEr hIn hF' hpn'
                    generalize ((wa.setCell ⟨g, i, none⟩ (.slice (some ⟨gp, 0, none⟩) (2 * n) cp)).setCell ⟨g, p, none⟩ (.slice (some ⟨gi, 0, none⟩) (2 * n) ci)).drew = wb at *
                    clear hS0 hgl hip hpn hpt hpn2 hp0
                    obtain ⟨g1, c1, hR1, y1, y2, y3, y4, kid, y5, hc1⟩ := hT1.rowAt hlt
                    clear y1 y2 y3 y4 y5
                    have kii := (hc1 i (by omega)).1
                    have CI := fun W => refInv_any (F1 i i).toNat W (Mat.lt _)
                    have e1 : Gf.invR (F1 i i).toNat = (Gf.inv (F1 i i).toNat, 0) := if_neg fun e => h01 (Mat.ext8 e)
                    have e2 := Mat.fi_toNat h01
                    rw [e1, ← e2] at CI
                    obtain ⟨hIn2, h12⟩ := hIn1.scale h01
                    rw [if_pos rfl] at h12
                    obtain ⟨cc, hcc⟩ : ∃ cc, cc = Mat.fi (F1 i i) := ⟨_, rfl⟩
                    rw [← hcc] at CI hIn2 h12
                    clear e1 e2 hcc hc1 hIn1 h01
                    go_wp2_with fail
                    refine (CI _).mono ?_
                    rintro e w9 ⟨rfl, rfl⟩
                    clear CI kii kid hR1
                    go_wp2_with fail
                    go_loopw [14] (fun x wq => ∃ j : Nat, j ≤ 2 * n ∧ x = .int .i64 (j : Int) ∧ Tbl wq w2.heap.size (.slice (some ⟨g, 0, none⟩) n kr) n (2 * n) R1 (fun a b => if a = i then (if b < j then Mat.fm (F1 a b) cc else F1 a b) else F1 a b) ∧ Ext w2 wq) (fun x _ => 2 * n - (intOf x).toNat)
                    case atStart => exact ⟨0, by omega, rfl, hT1.congr fun a b _ _ => by simp, hEs⟩
                    case round =>
                      obtain ⟨j, hj, rfl, hT5, hE5⟩ := hrel
                      by_cases hjt : j < 2 * n
                      · have hjt' : (j : Int) < 2 * (n : Int) := by omega
                        have hj0 : (0 : Int) ≤ (j : Int) := by omega
                        obtain ⟨gi, ci, hRi, hgi, hgil, hgig, hci, kid, fid, hc5⟩ := hT5.rowAt hlt
                        obtain ⟨kjd, fjd⟩ := hc5 j hjt
                        simp only [if_true, Nat.lt_irrefl, if_false] at kjd
                        have C := fun W => refMul_any (F1 i j).toNat cc.toNat W (Mat.lt _) (Mat.lt _)
                        rw [← Mat.fm_toNat] at C
                        have hTp := (hT5.put hlt hRi j (Mat.fm (F1 i j) cc)).ext (Ext.refl _).drew
                        have hEp := (hE5.setCell hgi (i := j) (.int .u8 ((Mat.fm (F1 i j) cc).toNat : Int))).drew
                        have HTp := hide hTp
                        obtain ⟨x, hx⟩ : ∃ x, x = F1 i j := ⟨_, rfl⟩
                        rw [← hx] at kjd C
                        rw [← hx] at hEp
                        have HX := hide hx
                        have HRi := hide hRi
                        clear hT5 hc5 hTp hx hRi
                        go_wp2_with fail
                        refine wp_region_T (fun W => W.cell? ⟨g, i, none⟩ = some (.slice (some ⟨gi, 0, none⟩) (2 * n) ci) ∧ W.cell? ⟨gi, j, none⟩ = some (.int .u8 (x.toNat : Int))) 15 16 #[false, false, false, false, false, false, false, false, false, false, false, false, false, false, false, false] (by kernel_rfl) rfl rfl ⟨kid, kjd⟩ ?_
                        intro hS0
                        refine wpAnyT_take 0 (some 125) (.slice (some ⟨g, 0, none⟩) n kr) #[true, false, false, false, false, false, false, false, false, false, false, false, false, false, false, false] rfl rfl rfl (by kernel_rfl) (fun _ _ _ h => h) hS0 (by rfl) (fun W ⟨x0, x1⟩ => by go_simp) ?_
                        simp only [Act.put, List.setIfInBounds_toArray, List.set_cons_zero, List.set_cons_succ]
                        refine wpAnyT_take 1 (some 126) (.int .i64 (i : Int)) #[true, true, false, false, false, false, false, false, false, false, false, false, false, false, false, false] rfl rfl rfl (by kernel_rfl) (fun _ _ _ h => h) hS0 (by rfl) (fun W ⟨x0, x1⟩ => by go_simp) ?_
                        simp only [Act.put, List.setIfInBounds_toArray, List.set_cons_zero, List.set_cons_succ]
                        refine wpAnyT_take 2 (some 127) (.pointer (some ⟨g, i, none⟩)) #[true, true, true, false, false, false, false, false, false, false, false, false, false, false, false, false] rfl rfl rfl (by kernel_rfl) (fun _ _ _ h => h) hS0 (by rfl) (fun W ⟨x0, x1⟩ => by go_simp) ?_
                        simp only [Act.put, List.setIfInBounds_toArray, List.set_cons_zero, List.set_cons_succ]
                        refine wpAnyT_take 3 (some 128) (.slice (some ⟨gi, 0, none⟩) (2 * n) ci) #[true, true, true, true, false, false, false, false, false, false, false, false, false, false, false, false] rfl rfl rfl (by kernel_rfl) (fun _ _ _ h => h) hS0 (by rfl) (fun W ⟨x0, x1⟩ => by go_simp) ?_
                        simp only [Act.put, List.setIfInBounds_toArray, List.set_cons_zero, List.set_cons_succ]
                        refine wpAnyT_take 4 (some 129) (.int .i64 (j : Int)) #[true, true, true, true, true, false, false, false, false, false, false, false, false, false, false, false] rfl rfl rfl (by kernel_rfl) (fun _ _ _ h => h) hS0 (by rfl) (fun W ⟨x0, x1⟩ => by go_simp) ?_
                        simp only [Act.put, List.setIfInBounds_toArray, List.set_cons_zero, List.set_cons_succ]
                        refine wpAnyT_take 5 (some 130) (.slice (some ⟨g, 0, none⟩) n kr) #[true, true, true, true, true, true, false, false, false, false, false, false, false, false, false, false] rfl rfl rfl (by kernel_rfl) (fun _ _ _ h => h) hS0 (by rfl) (fun W ⟨x0, x1⟩ => by go_simp) ?_
                        simp only [Act.put, List.setIfInBounds_toArray, List.set_cons_zero, List.set_cons_succ]
                        refine wpAnyT_take 6 (some 131) (.int .i64 (i : Int)) #[true, true, true, true, true, true, true, false, false, false, false, false, false, false, false, false] rfl rfl rfl (by kernel_rfl) (fun _ _ _ h => h) hS0 (by rfl) (fun W ⟨x0, x1⟩ => by go_simp) ?_
                        simp only [Act.put, List.setIfInBounds_toArray, List.set_cons_zero, List.set_cons_succ]
                        refine wpAnyT_take 7 (some 132) (.pointer (some ⟨g, i, none⟩)) #[true, true, true, true, true, true, true, true, false, false, false, false, false, false, false, false] rfl rfl rfl (by kernel_rfl) (fun _ _ _ h => h) hS0 (by rfl) (fun W ⟨x0, x1⟩ => by go_simp) ?_
                        simp only [Act.put, List.setIfInBounds_toArray, List.set_cons_zero, List.set_cons_succ]
                        refine wpAnyT_take 8 (some 133) (.slice (some ⟨gi, 0, none⟩) (2 * n) ci) #[true, true, true, true, true, true, true, true, true, false, false, false, false, false, false, false] rfl rfl rfl (by kernel_rfl) (fun _ _ _ h => h) hS0 (by rfl) (fun W ⟨x0, x1⟩ => by go_simp) ?_
                        simp only [Act.put, List.setIfInBounds_toArray, List.set_cons_zero, List.set_cons_succ]
                        refine wpAnyT_take 9 (some 134) (.int .i64 (j : Int)) #[true, true, true, true, true, true, true, true, true, true, false, false, false, false, false, false] rfl rfl rfl (by kernel_rfl) (fun _ _ _ h => h) hS0 (by rfl) (fun W ⟨x0, x1⟩ => by go_simp) ?_
                        simp only [Act.put, List.setIfInBounds_toArray, List.set_cons_zero, List.set_cons_succ]
                        refine wpAnyT_take 10 (some 135) (.pointer (some ⟨gi, j, none⟩)) #[true, true, true, true, true, true, true, true, true, true, true, false, false, false, false, false] rfl rfl rfl (by kernel_rfl) (fun _ _ _ h => h) hS0 (by rfl) (fun W ⟨x0, x1⟩ => by go_simp) ?_
                        simp only [Act.put, List.setIfInBounds_toArray, List.set_cons_zero, List.set_cons_succ]
                        refine wpAnyT_take 11 (some 136) (.int .u8 (x.toNat : Int)) #[true, true, true, true, true, true, true, true, true, true, true, true, false, false, false, false] rfl rfl rfl (by kernel_rfl) (fun _ _ _ h => h) hS0 (by rfl) (fun W ⟨x0, x1⟩ => by go_simp) ?_
                        simp only [Act.put, List.setIfInBounds_toArray, List.set_cons_zero, List.set_cons_succ]
                        refine wpAnyT_take 12 (some 137) (.int .u8 (cc.toNat : Int)) #[true, true, true, true, true, true, true, true, true, true, true, true, true, false, false, false] rfl rfl rfl (by kernel_rfl) (fun _ _ _ h => h) hS0 (by rfl) (fun W ⟨x0, x1⟩ => by go_simp) ?_
                        simp only [Act.put, List.setIfInBounds_toArray, List.set_cons_zero, List.set_cons_succ]
                        refine wpAnyT_only 13 #[true, true, true, true, true, true, true, true, true, true, true, true, true, true, false, false] (by kernel_rfl) rfl rfl (by rfl) (fun K hK => ?_)
                        go_simp
                        refine (C _).mono ?_
                        rintro e w9 ⟨rfl, rfl⟩
                        refine hK _ _ (fun _ => ⟨kid, kjd⟩) ?_
                        clear hK K
                        refine wpAnyT_only 14 #[true, true, true, true, true, true, true, true, true, true, true, true, true, true, true, false] (by kernel_rfl) rfl rfl (by rfl) (fun K hK => ?_)
                        go_simp
                        refine hK _ _ (fun _ => ⟨kid, kjd⟩) ?_
                        clear hK K
                        refine wpAnyT_only 15 #[true, true, true, true, true, true, true, true, true, true, true, true, true, true, true, true] (by kernel_rfl) rfl rfl (by rfl) (fun K hK => ?_)
                        go_simp
                        refine hK _ _ (fun h => absurd h (by decide)) ?_
                        clear hK K
                        refine wpAnyT_done (by kernel_rfl) ?_ _
                        go_wp2
                        go_roundw
                        case rel =>
                          refine ⟨j + 1, by omega, by go_num, Tbl.congr (by have := HTp.out; rw [← HX.out] at this; exact this) fun a b _ _ => ?_, hEp⟩
                          by_cases hai : a = i
                          · subst hai
                            simp only [if_true]
                            by_cases hbj : b = j
                            · subst hbj
                              simp [HX.out]
                            · simp [hbj, show (b < j + 1) = (b < j) from propext ⟨fun h => by omega, fun h => by omega⟩]
                          · simp [hai]
                        case measure => simp [intOf]; omega
                      · obtain rfl : j = 2 * n := by omega
                        have hjt' : ¬ (((2 * n : Nat) : Int) < 2 * (n : Int)) := by omega
                        have hT6 : Tbl wr w2.heap.size (.slice (some ⟨g, 0, none⟩) n kr) n (2 * n) R1 (fun a b => if a = i then Mat.fm (F1 a b) cc else F1 a b) := hT5.congr fun a b _ hb => by simp [hb]
                        obtain ⟨F2, hF2⟩ : ∃ F2 : Mat.M, F2 = fun a b => if a = i then Mat.fm (F1 a b) cc else F1 a b := ⟨_, rfl⟩
                        have h12' : F2 i i = 1 := by rw [hF2]; show (if i = i then _ else _) = _; rw [if_pos rfl]; exact h12
                        rw [← hF2] at hT6 hIn2
                        clear hT5 hT1 hEs hF2 h12
                        go_wp2_with fail
                        go_loopw [15] (fun x wq => ∃ (k : Nat) (F3 : Mat.M), k ≤ n ∧ x = .int .i64 (k : Int) ∧ Tbl wq w2.heap.size (.slice (some ⟨g, 0, none⟩) n kr) n (2 * n) R1 F3 ∧ Mat.Inner n i fa F3 ∧ F3 i i = 1 ∧ (∀ a, a < k → F3 a i = Mat.one a i) ∧ Ext w2 wq) (fun x _ => n - (intOf x).toNat)
                        case atStart => exact ⟨0, F2, by omega, rfl, hT6, hIn2, h12', fun a ha => absurd ha (by omega), hE5⟩
                        case round =>
                          clear hT6 hIn2 h12' hE5
                          obtain ⟨k, F3, hk, rfl, hT6, hIn3, h31, hcol, hE6⟩ := hrel
                          have HC := hide hcol
                          clear hcol
                          by_cases hkt : k < n
                          · obtain ⟨gk, ck, hRk, y1, y2, y3, y4, kkd, y5, hck⟩ := hT6.rowAt hkt
                            have kki := (hck i (by omega)).1
                            clear y1 y2 y3 y4 y5 hck hRk
                            have hk0 : (0 : Int) ≤ (k : Int) := by omega
                            have hkt' : (k : Int) < (n : Int) := by omega
                            obtain ⟨d, hd⟩ : ∃ d, d = F3 k i := ⟨_, rfl⟩
                            rw [← hd] at kki
                            have HD := hide hd
                            clear hd
                            have H31 := hide h31
                            clear h31
                            obtain ⟨wc, rfl⟩ : ∃ W, W = wr := ⟨_, rfl⟩
                            go_wp2_with fail
                            by_cases hki : k = i
                            · subst hki
                              have hkk : ((k : Int) != (k : Int)) = false := by simp
                              go_loop [17] (fun x => x = .int .i64 0) (fun _ => 0)
                              case atStart => rfl
                              case round =>
                                obtain rfl := hrel
                                go_wp2_with fail
                                go_roundw
                                case rel =>
                                  refine ⟨k + 1, F3, by omega, by go_num, hT6, hIn3, H31.out, fun a ha => ?_, hE6⟩
                                  by_cases hak : a = k
                                  · rw [hak, H31.out, Mat.one, if_pos rfl]
                                  · exact HC.out a (by omega)
                                case measure => simp [intOf]; omega
                            · have hkk : ((k : Int) != (i : Int)) = true := by simp; omega
                              have HKI := hide hki
                              clear hki kkd kki
                              go_loopw [17] (fun x wq => ∃ j : Nat, j ≤ 2 * n ∧ x = .int .i64 (j : Int) ∧ Tbl wq w2.heap.size (.slice (some ⟨g, 0, none⟩) n kr) n (2 * n) R1 (fun a b => if a = k then (if b < j then F3 a b ^^^ Mat.fm d (F3 i b) else F3 a b) else F3 a b) ∧ Ext w2 wq) (fun x _ => 2 * n - (intOf x).toNat)
                              case atStart => exact ⟨0, by omega, rfl, hT6.congr fun a b _ _ => by simp, hE6⟩
                              case round =>
                                clear hT6 hE6
                                obtain ⟨j, hj, rfl, hT7, hE7⟩ := hrel
                                by_cases hjt : j < 2 * n
                                · have hjt' : (j : Int) < 2 * (n : Int) := by omega
                                  have hj0 : (0 : Int) ≤ (j : Int) := by omega
                                  obtain ⟨gi, ci, hRi, z1, z2, z3, z4, kid, z5, hc7⟩ := hT7.rowAt hlt
                                  obtain ⟨kjd, fjd⟩ := hc7 j hjt
                                  clear z1 z2 z3 z4 z5 hc7 hRi fjd
                                  obtain ⟨gk, ck, hRk, hgk, z2, z3, z4, kkd, z5, hc8⟩ := hT7.rowAt hkt
                                  obtain ⟨kxd, fxd⟩ := hc8 j hjt
                                  clear z2 z3 z4 z5 hc8
                                  rw [if_neg (fun e => HKI.out e.symm)] at kjd
                                  rw [if_pos rfl, if_neg (Nat.lt_irrefl j)] at kxd
                                  have C := fun W => refMul_any d.toNat (F3 i j).toNat W (Mat.lt _) (Mat.lt _)
                                  rw [← Mat.fm_toNat] at C
                                  have hxor := u8_xor_byte8 (F3 k j) (Mat.fm d (F3 i j))
                                  have hTp := (hT7.put hkt hRk j (F3 k j ^^^ Mat.fm d (F3 i j))).ext (Ext.refl _).drew
                                  have hEp := (hE7.setCell hgk (i := j) (.int .u8 ((F3 k j ^^^ Mat.fm d (F3 i j)).toNat : Int))).drew
                                  have HTp := hide hTp
                                  obtain ⟨x, hx⟩ : ∃ x, x = F3 k j := ⟨_, rfl⟩
                                  obtain ⟨y, hy⟩ : ∃ y, y = F3 i j := ⟨_, rfl⟩
                                  rw [← hx] at kxd hxor hEp
                                  rw [← hy] at kjd C hxor hEp
                                  have HX := hide hx
                                  have HY := hide hy
                                  clear hT7 hTp hx hy hRk
                                  obtain ⟨z, hz⟩ : ∃ z, z = x ^^^ Mat.fm d y := ⟨_, rfl⟩
                                  rw [← hz] at hxor hEp
                                  have HZ2 := hide hz
                                  clear hz
                                  obtain ⟨q, hq⟩ : ∃ q, q = Mat.fm d y := ⟨_, rfl⟩
                                  rw [← hq] at C hxor
                                  have HQ := hide hq
                                  clear hq
                                  go_wp2_with fail
                                  refine wp_region_T (fun W => W.cell? ⟨g, i, none⟩ = some (.slice (some ⟨gi, 0, none⟩) (2 * n) ci) ∧ W.cell? ⟨gi, j, none⟩ = some (.int .u8 (y.toNat : Int)) ∧ W.cell? ⟨g, k, none⟩ = some (.slice (some ⟨gk, 0, none⟩) (2 * n) ck) ∧ W.cell? ⟨gk, j, none⟩ = some (.int .u8 (x.toNat : Int))) 23 24 #[false, false, false, false, false, false, false, false, false, false, false, false, false, false, false, false, false, false, false, false, false, false, false, false] (by kernel_rfl) rfl rfl ⟨kid, kjd, kkd, kxd⟩ ?_
                                  intro hS0
                                  refine wpAnyT_take 0 (some 163) (.slice (some ⟨g, 0, none⟩) n kr) #[true, false, false, false, false, false, false, false, false, false, false, false, false, false, false, false, false, false, false, false, false, false, false, false] rfl rfl rfl (by kernel_rfl) (fun _ _ _ h => h) hS0 (by rfl) (fun W ⟨x0, x1, x2, x3⟩ => by go_simp) ?_
                                  simp only [Act.put, List.setIfInBounds_toArray, List.set_cons_zero, List.set_cons_succ]
                                  refine wpAnyT_take 1 (some 164) (.int .i64 (k : Int)) #[true, true, false, false, false, false, false, false, false, false, false, false, false, false, false, false, false, false, false, false, false, false, false, false] rfl rfl rfl (by kernel_rfl) (fun _ _ _ h => h) hS0 (by rfl) (fun W ⟨x0, x1, x2, x3⟩ => by go_simp) ?_
                                  simp only [Act.put, List.setIfInBounds_toArray, List.set_cons_zero, List.set_cons_succ]
                                  refine wpAnyT_take 2 (some 165) (.pointer (some ⟨g, k, none⟩)) #[true, true, true, false, false, false, false, false, false, false, false, false, false, false, false, false, false, false, false, false, false, false, false, false] rfl rfl rfl (by kernel_rfl) (fun _ _ _ h => h) hS0 (by rfl) (fun W ⟨x0, x1, x2, x3⟩ => by go_simp) ?_
                                  simp only [Act.put, List.setIfInBounds_toArray, List.set_cons_zero, List.set_cons_succ]
                                  refine wpAnyT_take 3 (some 166) (.slice (some ⟨gk, 0, none⟩) (2 * n) ck) #[true, true, true, true, false, false, false, false, false, false, false, false, false, false, false, false, false, false, false, false, false, false, false, false] rfl rfl rfl (by kernel_rfl) (fun _ _ _ h => h) hS0 (by rfl) (fun W ⟨x0, x1, x2, x3⟩ => by go_simp) ?_
                                  simp only [Act.put, List.setIfInBounds_toArray, List.set_cons_zero, List.set_cons_succ]
                                  refine wpAnyT_take 4 (some 167) (.int .i64 (j : Int)) #[true, true, true, true, true, false, false, false, false, false, false, false, false, false, false, false, false, false, false, false, false, false, false, false] rfl rfl rfl (by kernel_rfl) (fun _ _ _ h => h) hS0 (by rfl) (fun W ⟨x0, x1, x2, x3⟩ => by go_simp) ?_
                                  simp only [Act.put, List.setIfInBounds_toArray, List.set_cons_zero, List.set_cons_succ]
                                  refine wpAnyT_take 5 (some 168) (.slice (some ⟨g, 0, none⟩) n kr) #[true, true, true, true, true, true, false, false, false, false, false, false, false, false, false, false, false, false, false, false, false, false, false, false] rfl rfl rfl (by kernel_rfl) (fun _ _ _ h => h) hS0 (by rfl) (fun W ⟨x0, x1, x2, x3⟩ => by go_simp) ?_
                                  simp only [Act.put, List.setIfInBounds_toArray, List.set_cons_zero, List.set_cons_succ]
                                  refine wpAnyT_take 6 (some 169) (.int .i64 (k : Int)) #[true, true, true, true, true, true, true, false, false, false, false, false, false, false, false, false, false, false, false, false, false, false, false, false] rfl rfl rfl (by kernel_rfl) (fun _ _ _ h => h) hS0 (by rfl) (fun W ⟨x0, x1, x2, x3⟩ => by go_simp) ?_
                                  simp only [Act.put, List.setIfInBounds_toArray, List.set_cons_zero, List.set_cons_succ]
                                  refine wpAnyT_take 7 (some 170) (.pointer (some ⟨g, k, none⟩)) #[true, true, true, true, true, true, true, true, false, false, false, false, false, false, false, false, false, false, false, false, false, false, false, false] rfl rfl rfl (by kernel_rfl) (fun _ _ _ h => h) hS0 (by rfl) (fun W ⟨x0, x1, x2, x3⟩ => by go_simp) ?_
                                  simp only [Act.put, List.setIfInBounds_toArray, List.set_cons_zero, List.set_cons_succ]
                                  refine wpAnyT_take 8 (some 171) (.slice (some ⟨gk, 0, none⟩) (2 * n) ck) #[true, true, true, true, true, true, true, true, true, false, false, false, false, false, false, false, false, false, false, false, false, false, false, false] rfl rfl rfl (by kernel_rfl) (fun _ _ _ h => h) hS0 (by rfl) (fun W ⟨x0, x1, x2, x3⟩ => by go_simp) ?_
                                  simp only [Act.put, List.setIfInBounds_toArray, List.set_cons_zero, List.set_cons_succ]
                                  refine wpAnyT_take 9 (some 172) (.int .i64 (j : Int)) #[true, true, true, true, true, true, true, true, true, true, false, false, false, false, false, false, false, false, false, false, false, false, false, false] rfl rfl rfl (by kernel_rfl) (fun _ _ _ h => h) hS0 (by rfl) (fun W ⟨x0, x1, x2, x3⟩ => by go_simp) ?_
                                  simp only [Act.put, List.setIfInBounds_toArray, List.set_cons_zero, List.set_cons_succ]
                                  refine wpAnyT_take 10 (some 173) (.pointer (some ⟨gk, j, none⟩)) #[true, true, true, true, true, true, true, true, true, true, true, false, false, false, false, false, false, false, false, false, false, false, false, false] rfl rfl rfl (by kernel_rfl) (fun _ _ _ h => h) hS0 (by rfl) (fun W ⟨x0, x1, x2, x3⟩ => by go_simp) ?_
                                  simp only [Act.put, List.setIfInBounds_toArray, List.set_cons_zero, List.set_cons_succ]
                                  refine wpAnyT_take 11 (some 174) (.int .u8 (x.toNat : Int)) #[true, true, true, true, true, true, true, true, true, true, true, true, false, false, false, false, false, false, false, false, false, false, false, false] rfl rfl rfl (by kernel_rfl) (fun _ _ _ h => h) hS0 (by rfl) (fun W ⟨x0, x1, x2, x3⟩ => by go_simp) ?_
                                  simp only [Act.put, List.setIfInBounds_toArray, List.set_cons_zero, List.set_cons_succ]
                                  refine wpAnyT_take 12 (some 175) (.int .u8 (d.toNat : Int)) #[true, true, true, true, true, true, true, true, true, true, true, true, true, false, false, false, false, false, false, false, false, false, false, false] rfl rfl rfl (by kernel_rfl) (fun _ _ _ h => h) hS0 (by rfl) (fun W ⟨x0, x1, x2, x3⟩ => by go_simp) ?_
                                  simp only [Act.put, List.setIfInBounds_toArray, List.set_cons_zero, List.set_cons_succ]
                                  refine wpAnyT_take 13 (some 176) (.slice (some ⟨g, 0, none⟩) n kr) #[true, true, true, true, true, true, true, true, true, true, true, true, true, true, false, false, false, false, false, false, false, false, false, false] rfl rfl rfl (by kernel_rfl) (fun _ _ _ h => h) hS0 (by rfl) (fun W ⟨x0, x1, x2, x3⟩ => by go_simp) ?_
                                  simp only [Act.put, List.setIfInBounds_toArray, List.set_cons_zero, List.set_cons_succ]
                                  refine wpAnyT_take 14 (some 177) (.int .i64 (i : Int)) #[true, true, true, true, true, true, true, true, true, true, true, true, true, true, true, false, false, false, false, false, false, false, false, false] rfl rfl rfl (by kernel_rfl) (fun _ _ _ h => h) hS0 (by rfl) (fun W ⟨x0, x1, x2, x3⟩ => by go_simp) ?_
                                  simp only [Act.put, List.setIfInBounds_toArray, List.set_cons_zero, List.set_cons_succ]
                                  refine wpAnyT_take 15 (some 178) (.pointer (some ⟨g, i, none⟩)) #[true, true, true, true, true, true, true, true, true, true, true, true, true, true, true, true, false, false, false, false, false, false, false, false] rfl rfl rfl (by kernel_rfl) (fun _ _ _ h => h) hS0 (by rfl) (fun W ⟨x0, x1, x2, x3⟩ => by go_simp) ?_
                                  simp only [Act.put, List.setIfInBounds_toArray, List.set_cons_zero, List.set_cons_succ]
                                  refine wpAnyT_take 16 (some 179) (.slice (some ⟨gi, 0, none⟩) (2 * n) ci) #[true, true, true, true, true, true, true, true, true, true, true, true, true, true, true, true, true, false, false, false, false, false, false, false] rfl rfl rfl (by kernel_rfl) (fun _ _ _ h => h) hS0 (by rfl) (fun W ⟨x0, x1, x2, x3⟩ => by go_simp) ?_
                                  simp only [Act.put, List.setIfInBounds_toArray, List.set_cons_zero, List.set_cons_succ]
                                  refine wpAnyT_take 17 (some 180) (.int .i64 (j : Int)) #[true, true, true, true, true, true, true, true, true, true, true, true, true, true, true, true, true, true, false, false, false, false, false, false] rfl rfl rfl (by kernel_rfl) (fun _ _ _ h => h) hS0 (by rfl) (fun W ⟨x0, x1, x2, x3⟩ => by go_simp) ?_
                                  simp only [Act.put, List.setIfInBounds_toArray, List.set_cons_zero, List.set_cons_succ]
                                  refine wpAnyT_take 18 (some 181) (.pointer (some ⟨gi, j, none⟩)) #[true, true, true, true, true, true, true, true, true, true, true, true, true, true, true, true, true, true, true, false, false, false, false, false] rfl rfl rfl (by kernel_rfl) (fun _ _ _ h => h) hS0 (by rfl) (fun W ⟨x0, x1, x2, x3⟩ => by go_simp) ?_
                                  simp only [Act.put, List.setIfInBounds_toArray, List.set_cons_zero, List.set_cons_succ]
                                  refine wpAnyT_take 19 (some 182) (.int .u8 (y.toNat : Int)) #[true, true, true, true, true, true, true, true, true, true, true, true, true, true, true, true, true, true, true, true, false, false, false, false] rfl rfl rfl (by kernel_rfl) (fun _ _ _ h => h) hS0 (by rfl) (fun W ⟨x0, x1, x2, x3⟩ => by go_simp) ?_
                                  simp only [Act.put, List.setIfInBounds_toArray, List.set_cons_zero, List.set_cons_succ]
                                  refine wpAnyT_only 20 #[true, true, true, true, true, true, true, true, true, true, true, true, true, true, true, true, true, true, true, true, true, false, false, false] (by kernel_rfl) rfl rfl (by rfl) (fun K hK => ?_)
                                  go_simp
                                  refine (C _).mono ?_
                                  rintro e w9 ⟨rfl, rfl⟩
                                  refine hK _ _ (fun _ => ⟨kid, kjd, kkd, kxd⟩) ?_
                                  clear hK K
                                  refine wpAnyT_only 21 #[true, true, true, true, true, true, true, true, true, true, true, true, true, true, true, true, true, true, true, true, true, true, false, false] (by kernel_rfl) rfl rfl (by rfl) (fun K hK => ?_)
                                  go_simp
                                  refine hK _ _ (fun _ => ⟨kid, kjd, kkd, kxd⟩) ?_
                                  clear hK K
                                  refine wpAnyT_only 22 #[true, true, true, true, true, true, true, true, true, true, true, true, true, true, true, true, true, true, true, true, true, true, true, false] (by kernel_rfl) rfl rfl (by rfl) (fun K hK => ?_)
                                  go_simp
                                  refine hK _ _ (fun _ => ⟨kid, kjd, kkd, kxd⟩) ?_
                                  clear hK K
                                  refine wpAnyT_only 23 #[true, true, true, true, true, true, true, true, true, true, true, true, true, true, true, true, true, true, true, true, true, true, true, true] (by kernel_rfl) rfl rfl (by rfl) (fun K hK => ?_)
                                  go_simp
                                  refine hK _ _ (fun h => absurd h (by decide)) ?_
                                  clear hK K
                                  refine wpAnyT_done (by kernel_rfl) ?_ _
                                  go_wp2
                                  go_roundw
                                  case rel =>
                                    refine ⟨j + 1, by omega, by go_num, Tbl.congr (by have := HTp.out; rw [← HX.out, ← HY.out, ← HZ2.out] at this; exact this) fun a b _ _ => ?_, hEp⟩
                                    by_cases hak : a = k
                                    · subst hak
                                      by_cases hbj : b = j
                                      · subst hbj
                                        rw [if_pos rfl, if_pos rfl, if_pos rfl, if_pos (Nat.lt_succ_self _), HZ2.out, HX.out, HY.out]
                                      · simp [hbj, show (b < j + 1) = (b < j) from propext ⟨fun h => by omega, fun h => by omega⟩]
                                    · simp [hak]
                                  case measure => simp [intOf]; omega
                                · obtain rfl : j = 2 * n := by omega
                                  have hjt' : ¬ (((2 * n : Nat) : Int) < 2 * (n : Int)) := by omega
                                  obtain ⟨hA1, hA2, hA3⟩ := hIn3.add hlt H31.out HKI.out HC.out
                                  rw [← HD.out] at hA1 hA2 hA3
                                  have hT8 : Tbl wr w2.heap.size (.slice (some ⟨g, 0, none⟩) n kr) n (2 * n) R1 (fun a b => if a = k then F3 a b ^^^ Mat.fm d (F3 i b) else F3 a b) := hT7.congr fun a b _ hb => by simp [hb]
                                  have HA1 := hide hA1
                                  have HA2 := hide hA2
                                  have HA3 := hide hA3
                                  clear hT7 hA1 hA2 hA3
                                  go_wp2_with fail
                                  go_roundw
                                  case rel => exact ⟨k + 1, _, by omega, by go_num, hT8, HA1.out, HA2.out, HA3.out, hE7⟩
                                  case measure => simp [intOf]; omega
                          · obtain rfl : k = n := by omega
                            have hIn4 := hIn3.next HC.out
                            clear hIn3
                            go_wp2_with fail
                            go_roundw
                            case rel => exact ⟨i + 1, R1, F3, by omega, by go_num, hT6, hIn4, hE6⟩
                            case measure => simp [intOf]; omega
                · obtain rfl : n = p := by omega
                  have hnn : ((n : Int) == (n : Int)) = true := by simp
                  obtain ⟨v, hv⟩ := hIn.flat hlt (fun a h1 h2 => HZ.out a h1 h2)
                  have hres := HI2.out v hv
                  have hWz := hWr2.ext hEr
                  have hEf := hEw2.trans hEr
                  clear hv
                  go_wp2_with (refine wpList_storeW rfl 76 (.tmp 2) (.tmp 93) rfl rfl rfl hWz rfl mat_info (mat_one rfl) ?_; intro w5 hW5 hG5 _)
                  refine bodyPost_ret (results_mat rfl _ rfl rfl hW5 rfl) rfl ?_
                  exact MadeM.zero 14 (Below.grown hEf hG5 hEf.le (fun k hk => by cases hk; omega))
            · obtain rfl : n = i := by omega
              obtain ⟨X, hX⟩ : ∃ X : Mat.M, X = fun a b => F a (n + b) := ⟨_, rfl⟩
              have hInv := hIn.done
              rw [← hX] at hInv
              have HRes := hide (HV.out X hInv)
              have HXe := hide (show ∀ a b, X a b = F a (n + b) from fun a b => by rw [hX])
              clear hIn hInv hX hlt hi
              obtain ⟨wa, rfl⟩ : ∃ W, W = wr := ⟨_, rfl⟩
              have hN := extNew wa (.cells #[.int .i64 n, .int .i64 n, .slice none 0 0] 76)
              have hWx := Whole.new wa 76 #[.int .i64 n, .int .i64 n, .slice none 0 0]
              obtain ⟨gx, hgx⟩ : ∃ gx, gx = wa.heap.size := ⟨_, rfl⟩
              go_wp2_with fail
              rw [← hgx] at hWx ⊢
              have HG := hide hgx
              clear hgx
              go_loopw [19] (fun x wq => ∃ j : Nat, j ≤ n ∧ x = .int .i64 (j : Int) ∧ Made wq (gx + 1) gx n n (cellsOf n X (j * n)) ∧ Ext wa wq) (fun x _ => n - (intOf x).toNat)
              case atStart => exact ⟨0, by omega, rfl, ⟨_, hWx, by rw [Nat.zero_mul]; exact OwnB.nil _ _⟩, hN⟩
              case round =>
                obtain ⟨i, hi, rfl, ⟨v, hWv, hO⟩, hE8⟩ := hrel
                by_cases hlt : i < n
                · have hTd := (hT.ext hE8).ext (Ext.refl wr).drew
                  obtain ⟨g, kr, rfl, hgB, hgl⟩ := hT.form (by omega)
                  obtain ⟨gi, ci, hRi, hgi, hgil, hgig, hci, kid, fid, hc8⟩ := hTd.rowAt hlt
                  obtain ⟨A3, n3, c3, rfl, _, _, _⟩ := hO.form'
                  have hB8 : Bytes wr.drew wr.drew.heap.size (some ⟨gi, 0, none⟩) (2 * n) (rowB (2 * n) (F i)) :=
                    ⟨rowB_len _ _, .inr ⟨gi, 0, rfl, hgil, fun j hj => by rw [Nat.zero_add, rowB_at _ hj]; exact (hc8 j hj).1⟩⟩
                  have hB9 := hB8.drop (k := n) (by omega) hci
                  rw [rowB_drop, rowB_congr (g := X i) (fun j _ => (HXe.out i j).symm)] at hB9
                  have hS := cellsOf_row n X i (by omega) n (Nat.le_refl _)
                  have hS' : cellsOf n X ((i + 1) * n) = cellsOf n X (i * n) ++ rowB n (X i) := by rw [← hS, Nat.add_mul, Nat.one_mul]
                  have HS := hide hS'
                  have hnn : n * n ≤ 65025 := Nat.mul_le_mul hn hn
                  have hin2 : (i + 1) * n ≤ n * n := Nat.mul_le_mul_right _ hlt
                  rw [Nat.add_mul, Nat.one_mul] at hin2
                  have hfit : (cellsOf n X (i * n)).length + (2 * n - n) ≤ 140737488355328 := by rw [cellsOf_len]; omega
                  have hWd := hWv.ext (Ext.refl wr).drew
                  have hOd := hO.ext (Ext.refl wr).drew
                  have k2 := hWd.at 2 rfl
                  have hBx : gx + 1 ≤ wr.drew.heap.size := hWd.lt
                  have hne1 : (Value.slice A3 n3 c3).ownBlock ≠ some gx := fun e => by
                    have := (hO.lt _ e).1
                    omega
                  have hn0 : (0 : Int) ≤ (n : Int) := by omega
                  have hcn : (n : Int) ≤ 2 * (n : Int) := by omega
                  have hcn' : (n : Int) ≤ ((2 * n : Nat) : Int) := by omega
                  have hi0 : (0 : Int) ≤ (i : Int) := by omega
                  have hin : (i : Int) < (n : Int) := by omega
                  have hE8d := hE8.drew
                  clear hTd hRi hgi hgil hgig hc8 fid hS hS' hB8 hgB hgl hnn hin2
                  go_wp2_with fail
                  refine wp_region_T (fun W => W.cell? ⟨gx, 2, none⟩ = some (.slice A3 n3 c3) ∧ W.cell? ⟨g, i, none⟩ = some (.slice (some ⟨gi, 0, none⟩) (2 * n) ci)) 8 11 #[false, false, false, false, false, false, false, false, false, false, false] (by kernel_rfl) rfl rfl ⟨k2, kid⟩ ?_
                  intro hS0
                  refine wpAnyT_take 0 (some 194) (.pointer (some ⟨gx, 2, none⟩)) #[true, false, false, false, false, false, false, false, false, false, false] rfl rfl rfl (by kernel_rfl) (fun _ _ _ h => h) hS0 (by rfl) (fun W ⟨x0, x1⟩ => by go_simp) ?_
                  simp only [Act.put, List.setIfInBounds_toArray, List.set_cons_zero, List.set_cons_succ]
                  refine wpAnyT_take 1 (some 195) (.slice A3 n3 c3) #[true, true, false, false, false, false, false, false, false, false, false] rfl rfl rfl (by kernel_rfl) (fun _ _ _ h => h) hS0 (by rfl) (fun W ⟨x0, x1⟩ => by go_simp) ?_
                  simp only [Act.put, List.setIfInBounds_toArray, List.set_cons_zero, List.set_cons_succ]
                  refine wpAnyT_take 2 (some 196) (.slice (some ⟨g, 0, none⟩) n kr) #[true, true, true, false, false, false, false, false, false, false, false] rfl rfl rfl (by kernel_rfl) (fun _ _ _ h => h) hS0 (by rfl) (fun W ⟨x0, x1⟩ => by go_simp) ?_
                  simp only [Act.put, List.setIfInBounds_toArray, List.set_cons_zero, List.set_cons_succ]
                  refine wpAnyT_take 3 (some 197) (.int .i64 (i : Int)) #[true, true, true, true, false, false, false, false, false, false, false] rfl rfl rfl (by kernel_rfl) (fun _ _ _ h => h) hS0 (by rfl) (fun W ⟨x0, x1⟩ => by go_simp) ?_
                  simp only [Act.put, List.setIfInBounds_toArray, List.set_cons_zero, List.set_cons_succ]
                  refine wpAnyT_take 4 (some 198) (.pointer (some ⟨g, i, none⟩)) #[true, true, true, true, true, false, false, false, false, false, false] rfl rfl rfl (by kernel_rfl) (fun _ _ _ h => h) hS0 (by rfl) (fun W ⟨x0, x1⟩ => by go_simp) ?_
                  simp only [Act.put, List.setIfInBounds_toArray, List.set_cons_zero, List.set_cons_succ]
                  refine wpAnyT_take 5 (some 199) (.slice (some ⟨gi, 0, none⟩) (2 * n) ci) #[true, true, true, true, true, true, false, false, false, false, false] rfl rfl rfl (by kernel_rfl) (fun _ _ _ h => h) hS0 (by rfl) (fun W ⟨x0, x1⟩ => by go_simp) ?_
                  simp only [Act.put, List.setIfInBounds_toArray, List.set_cons_zero, List.set_cons_succ]
                  refine wpAnyT_take 6 (some 200) (.int .i64 (n : Int)) #[true, true, true, true, true, true, true, false, false, false, false] rfl rfl rfl (by kernel_rfl) (fun _ _ _ h => h) hS0 (by rfl) (fun W ⟨x0, x1⟩ => by go_simp) ?_
                  simp only [Act.put, List.setIfInBounds_toArray, List.set_cons_zero, List.set_cons_succ]
                  refine wpAnyT_take 7 (some 201) (.slice (cutAt (some ⟨gi, 0, none⟩) ci n) (2 * n - n) (ci - n)) #[true, true, true, true, true, true, true, true, false, false, false] rfl rfl rfl (by kernel_rfl) (fun _ _ _ h => h) hS0 (by rfl) (fun W ⟨x0, x1⟩ => by go_simp) ?_
                  simp only [Act.put, List.setIfInBounds_toArray, List.set_cons_zero, List.set_cons_succ]
                  refine wpAnyT_only 8 #[true, true, true, true, true, true, true, true, true, false, false] (by kernel_rfl) rfl rfl (by rfl) (fun K hK => ?_)
                  refine wp_appAt (.tmp 195) (.tmp 201) rfl rfl hOd rfl hB9 hfit hBx ?_
                  intro v7 w7 hO7 hG7 _
                  have hW7 := hWd.ownGrown hG7 hne1
                  have o1 := hO7.one
                  have o2 := hO7.cells1
                  refine hK _ _ (fun h => absurd h (by decide)) ?_
                  clear hK K
                  refine wpAnyT_only 9 #[true, true, true, true, true, true, true, true, true, true, false] (by kernel_rfl) rfl rfl (by rfl) (fun K hK => ?_)
                  go_simp
                  refine hK _ _ (fun h => absurd h (by decide)) ?_
                  clear hK K
                  refine wpAnyT_only 10 #[true, true, true, true, true, true, true, true, true, true, true] (by kernel_rfl) rfl rfl (by rfl) (fun K hK => ?_)
                  refine wp_storeC 27 (.tmp 203) (.tmp 202) rfl #[.int .i64 n, .int .i64 n, v7] rfl rfl hW7 (by simp) (by kernel_rfl) o1 o2 rfl ?_
                  intro w8 hW8 hG8
                  refine hK _ _ (fun h => absurd h (by decide)) ?_
                  clear hK K
                  refine wpAnyT_done (by kernel_rfl) ?_ _
                  go_wp2
                  go_roundw
                  case rel =>
                    have hne8 : v7.ownBlock ≠ some gx := fun e => by
                      have := (hO7.lt _ e).1
                      omega
                    have hgxa : wa.heap.size ≤ gx := by rw [HG.out]; exact Nat.le_refl _
                    have hF7 : Ext wa w7 := Below.grown hE8d hG7 hE8d.le (fun k hk => by have := (hOd.lt k hk).1; omega)
                    have hF8 : Ext wa w8 := Below.grown hF7 hG8 hF7.le (fun k hk => by cases hk; exact hgxa)
                    exact ⟨i + 1, by omega, by go_num, ⟨v7, hW8, by rw [HS.out]; exact (Mod.ofRow (ob := none) hG8).own hO7 hne8 (by simp [Classical.em])⟩, hF8⟩
                  case measure => simp [intOf]; omega
                · obtain rfl : n = i := by omega
                  have o1 := hO.one
                  have hWz := (hWr2.ext hEr).ext hE8
                  have hEf := (hEw2.trans hEr).trans hE8
                  have hgxa : w.heap.size + 2 ≤ gx + 1 := by
                    have := HG.out
                    have := hEr.le
                    omega
                  go_wp2_with (first
                    | (refine wpList_load_row rfl 76 (.tmp 18) rfl _ rfl _ _ _ _ hWv Tryd.underlying76 rfl mat_info ?_)
                    | (refine wpList_storeW rfl 76 (.tmp 2) (.tmp 204) rfl rfl rfl hWz rfl mat_info (mat_one o1) ?_; intro w5 hW5 hG5 _))
                  refine bodyPost_ret (results_mat rfl _ rfl rfl hW5 rfl) rfl ?_
                  rw [HRes.out]
                  have hne5 : v.ownBlock ≠ some (w.heap.size + 1) := fun e => by
                    have := (hO.lt _ e).1
                    omega
                  exact ⟨v, rfl, ((Mod.ofRow (ob := none) hG5).own hO hne5 (by simp [Classical.em])).mono (by omega), Below.grown hEf hG5 hEf.le (fun k hk => by cases hk; omega)⟩
    · have HN := hide (MV.invE_not fun h => hrc h.2)
      rw [HN.out]
      have hne : (m.r != m.c) = true := by simpa using hrc
      clear hrc hm q1 q2 q3 q4 q5 HN
      go_enter Tryd.func59, Tryd.ntmps59
      go_wp2_with fail
      refine (M1 _).mono ?_
      rintro e w2 ⟨rfl, hF2⟩
      have hWa2 := hWa.ext hF2
      have hWr2 := hWr.ext hF2
      have hEw2 := hE.trans hF2
      have b0 := hWa2.at 0 rfl
      have b1 := hWa2.at 1 rfl
      have b2 := hWa2.at 2 rfl
      clear M1 hE hWa hWr hF2
      go_wp2_with (refine wpList_storeW rfl 76 (.tmp 2) (.tmp 30) rfl rfl rfl hWr2 rfl mat_info (mat_one rfl) ?_; intro w5 hW5 hG5 _)
      refine bodyPost_ret (results_mat rfl _ rfl rfl hW5 rfl) rfl ?_
      exact MadeM.zero 13 (Below.grown hEw2 hG5 hEw2.le (fun k hk => by cases hk; omega))
  · have HN := hide (MV.invE_not fun h => hm h.1)
    rw [HN.out]
    rw [Bool.not_eq_true] at hm
    rw [hm] at M1
    clear hm HN
    go_enter Tryd.func59, Tryd.ntmps59
    go_wp2_with fail
    refine (M1 _).mono ?_
    rintro e w2 ⟨rfl, hF2⟩
    have hWr2 := hWr.ext hF2
    have hEw2 := hE.trans hF2
    clear M1 hE hWa hWr hF2
    go_wp2_with (refine wpList_storeW rfl 76 (.tmp 2) (.tmp 30) rfl rfl rfl hWr2 rfl mat_info (mat_one rfl) ?_; intro w5 hW5 hG5 _)
    refine bodyPost_ret (results_mat rfl _ rfl rfl hW5 rfl) rfl ?_
    exact MadeM.zero 13 (Below.grown hEw2 hG5 hEw2.le (fun k hk => by cases hk; omega))
end Go.Proofs.YtkfipfhmbhmamaaDoor

