/- What parts say of one another: plain mathematics of chapter 6. Why it is enough to reckon the lost data back: plain mathematics of the program's way to mend. Parts of which some were spoilt, each told: how many good ones there are, and what the good ones are. -/
import Derived.Test.YtbfkknoeaekajaaRsRight
import Derived.Test.YtbfkknoeaekajaaMatCauM
namespace Go.Proofs.Ytbfkknoeaekajaa
open Go.RowKit

/-- Rows of bytes as a matrix. -/
def rowsM (D : List (List UInt8)) : Mat.M := fun j n => (D.getD j []).getD n 0
theorem cellL_mm (c : Nat) (f : Mat.M) (D : List (List UInt8)) (i n : Nat) : cellL c f D i n = Mat.mm c f (rowsM D) i n := rfl
theorem timesL_at {r c : Nat} {f : Mat.M} {D : List (List UInt8)} {i : Nat} (hi : i < r) : (timesL r c f D).getD i [] = rowB (D.getD 0 []).length (cellL c f D i) := by
  simp [timesL, List.getD_eq_getElem?_getD, hi]
theorem rowB_of (l : List UInt8) : l = rowB l.length (fun n => l.getD n 0) := by
  apply List.ext_getElem
  · rw [rowB_len]
  · intro i h1 h2
    simp [rowB, List.getD_eq_getElem?_getD, h1]
/-- The k + m parts of these data. -/
def codeL (k t : Nat) (D : List (List UInt8)) : List (List UInt8) := timesL t k (Mat.rowM k) D
theorem codeL_len (k t : Nat) (D : List (List UInt8)) : (codeL k t D).length = t := timesL_len _ _ _ _
theorem codeL_at {k t : Nat} {D : List (List UInt8)} {i : Nat} (hi : i < t) : (codeL k t D).getD i [] = rowB (D.getD 0 []).length (Mat.mm k (Mat.rowM k) (rowsM D) i) := timesL_at hi
theorem codeL_data {k t : Nat} {D : List (List UInt8)} (hD : D.length = k) (ha : alike D) {i : Nat} (hi : i < k) (ht : i < t) : (codeL k t D).getD i [] = D.getD i [] := by
  rw [codeL_at ht]
  have h1 : (D.getD i []).length = (D.getD 0 []).length := ha i (by omega)
  rw [← h1]
  refine Eq.trans ?_ (rowB_of (D.getD i [])).symm
  refine rowB_congr fun n _ => ?_
  have e : Mat.mm k (Mat.rowM k) (rowsM D) i n = Mat.mm k Mat.one (rowsM D) i n := Mat.mm_congr (fun j _ => if_pos hi) (fun _ _ => rfl)
  rw [e, Mat.one_mm _ _ hi]
  rfl
theorem list_ext {a b : List (List UInt8)} (hl : a.length = b.length) (h : ∀ i, i < a.length → a.getD i [] = b.getD i []) : a = b := by
  apply List.ext_getElem hl
  intro i h1 h2
  have := h i h1
  rw [List.getD_eq_getElem?_getD, List.getD_eq_getElem?_getD, List.getElem?_eq_getElem h1, List.getElem?_eq_getElem h2] at this
  exact this
theorem getD_app_l {a b : List (List UInt8)} {i : Nat} (h : i < a.length) : (a ++ b).getD i [] = a.getD i [] := by simp [List.getD_eq_getElem?_getD, List.getElem?_append_left h]
theorem getD_app_r {a b : List (List UInt8)} {i : Nat} (h : a.length ≤ i) : (a ++ b).getD i [] = b.getD (i - a.length) [] := by simp [List.getD_eq_getElem?_getD, List.getElem?_append_right h]
theorem code_split {k m : Nat} {D : List (List UInt8)} (hD : D.length = k) (ha : alike D) : codeL k (k + m) D = D ++ timesL m k (cauchyF k) D := by
  refine list_ext (by rw [codeL_len, List.length_append, timesL_len, hD]) fun i hi => ?_
  rw [codeL_len] at hi
  by_cases hik : i < k
  · rw [codeL_data hD ha hik hi, getD_app_l (by omega)]
  · rw [getD_app_r (by omega), hD, timesL_at (by omega), codeL_at hi]
    refine rowB_congr fun n _ => ?_
    rw [cellL_mm]
    refine Mat.sum_congr fun j _ => ?_
    show Mat.fm (Mat.rowM k i j) _ = Mat.fm (cauchyF k (i - k) j) _
    unfold Mat.rowM cauchyF
    rw [if_neg hik, show k + (i - k) = i by omega]
theorem code_parity {k m : Nat} {D : List (List UInt8)} (hk : 1 ≤ k) (hm : k + m ≤ 255) (hD : D.length = k) (ha : alike D) : parityE m D = ((codeL k (k + m) D).drop k, 0) := by
  unfold parityE
  rw [if_pos ⟨mayK_iff.2 ⟨by omega, by omega, by omega, by omega⟩, ha⟩, code_split hD ha, List.drop_append_of_le_length (by omega), hD]
  rw [List.drop_of_length_le (by omega)]
  simp
theorem codeL_alike {k t : Nat} {D : List (List UInt8)} : alike (codeL k t D) := by
  intro i hi
  rw [codeL_len] at hi
  rw [codeL_at hi, codeL_at (by omega), rowB_len, rowB_len]
theorem alike_of {ls : List (List UInt8)} {N : Nat} (h : ∀ i, i < ls.length → (ls.getD i []).length = N) : alike ls := fun i hi => by rw [h i hi, h 0 (by omega)]
theorem code_right {k m : Nat} {D : List (List UInt8)} (hk : 1 ≤ k) (hm : k + m ≤ 255) (hD : D.length = k) (ha : alike D) : rightR k m (codeL k (k + m) D) = true := by
  have hp := code_parity hk hm hD ha
  have ht : (codeL k (k + m) D).take k = D := by rw [code_split hD ha, List.take_append_of_le_length (by omega), List.take_of_length_le (by omega)]
  refine decide_eq_true ⟨mayK_iff.2 ⟨by omega, by omega, by omega, by omega⟩, by rw [codeL_len]; simp, codeL_alike, ?_⟩
  rw [Int.toNat_natCast, ht, hp]

/-- Places of good parts. -/
def goodAt (good : List Bool) : List Nat := (List.range good.length).filter fun i => good.getD i false
theorem goodAt_mem {good : List Bool} {i : Nat} : i ∈ goodAt good ↔ i < good.length ∧ good.getD i false = true := by simp [goodAt]
theorem goodAt_nodup (good : List Bool) : (goodAt good).Nodup := List.Pairwise.filter _ List.nodup_range
/-- The rows of these places, of the identity with Cauchy's matrix below. -/
def pickM (k : Nat) (L : List Nat) : Mat.M := fun i j => Mat.rowM k (L.getD i 0) j
noncomputable def backX (k : Nat) (L : List Nat) : Mat.M := @dite _ (∃ X, Mat.Inv k (pickM k L) X) (Classical.propDecidable _) (fun h => h.choose) (fun _ => fun _ _ => 0)
theorem backX_inv {k : Nat} {L : List Nat} (hk : k ≤ 255) (hl : L.length = k) (hd : L.Nodup) (hL : ∀ x ∈ L, x < 256) : Mat.Inv k (pickM k L) (backX k L) := by
  have h : ∃ X, Mat.Inv k (pickM k L) X := Mat.picked k (by omega) L hl hd hL
  unfold backX
  rw [dif_pos h]
  exact h.choose_spec
theorem nodup_take {L : List Nat} (h : L.Nodup) (k : Nat) : (L.take k).Nodup := h.sublist (List.take_sublist k L)
noncomputable def mendE (k m : Int) (parts : List (List UInt8)) (good : List Bool) : List (List UInt8) × Int :=
  if mayK k m = true ∧ (parts.length : Int) = k + m ∧ (good.length : Int) = k + m then
    if alike ((goodAt good).map fun i => parts.getD i []) then
      if ((goodAt good).length : Int) < k then ([], 12)
      else (codeL k.toNat (k.toNat + m.toNat) (timesL k.toNat k.toNat (backX k.toNat ((goodAt good).take k.toNat)) (((goodAt good).map fun i => parts.getD i []).take k.toNat)), 0)
    else ([], 13)
  else ([], 13)
theorem timesL_alike {r c : Nat} {f : Mat.M} {D : List (List UInt8)} : alike (timesL r c f D) := by
  intro i hi
  rw [timesL_len] at hi
  rw [timesL_at hi, timesL_at (by omega), rowB_len, rowB_len]
theorem getD_mapL {L : List Nat} {parts : List (List UInt8)} {i : Nat} (hi : i < L.length) : (L.map fun i => parts.getD i []).getD i [] = parts.getD (L.getD i 0) [] := by
  simp [List.getD_eq_getElem?_getD, hi]
theorem getD_takeL {L : List Nat} {i k : Nat} (hi : i < k) : (L.take k).getD i 0 = L.getD i 0 := by simp [List.getD_eq_getElem?_getD, hi]
theorem getD_takeP {L : List (List UInt8)} {i k : Nat} (hi : i < k) : (L.take k).getD i [] = L.getD i [] := by simp [List.getD_eq_getElem?_getD, hi]

section
variable {k m : Nat} {parts : List (List UInt8)} {good : List Bool}
/-- Good parts that are those of these data are mended to all of them. -/
theorem mend_code {D : List (List UInt8)} (hk : 1 ≤ k) (hm : k + m ≤ 255) (hp : parts.length = k + m) (hg : good.length = k + m) (hD : D.length = k) (ha : alike D) (hn : k ≤ (goodAt good).length)
    (hc : ∀ i, i < k + m → good.getD i false = true → parts.getD i [] = (codeL k (k + m) D).getD i []) : mendE k m parts good = (codeL k (k + m) D, 0) := by
  have hlen : ∀ i, i < (goodAt good).length → (((goodAt good).map fun i => parts.getD i []).getD i []).length = (D.getD 0 []).length := fun i hi => by
    have hmem : (goodAt good).getD i 0 ∈ goodAt good := by rw [List.getD_eq_getElem?_getD, List.getElem?_eq_getElem hi]; exact List.getElem_mem hi
    obtain ⟨h1, h2⟩ := goodAt_mem.1 hmem
    rw [getD_mapL hi, hc _ (by omega) h2, codeL_at (by omega), rowB_len]
  unfold mendE
  rw [if_pos ⟨mayK_iff.2 ⟨by omega, by omega, by omega, by omega⟩, by rw [hp]; simp, by rw [hg]; simp⟩, if_pos (alike_of fun i hi => hlen i (by simpa using hi)), if_neg (by omega)]
  simp only [Int.toNat_natCast]
  have hX := backX_inv (k := k) (L := (goodAt good).take k) (by omega) (by rw [List.length_take]; omega) (nodup_take (goodAt_nodup good) k) (fun x hx => by
    have := (goodAt_mem.1 (List.mem_of_mem_take hx)).1
    omega)
  have hN : ((((goodAt good).map fun i => parts.getD i []).take k).getD 0 []).length = (D.getD 0 []).length := by rw [getD_takeP (by omega), hlen 0 (by omega)]
  have e : timesL k k (backX k ((goodAt good).take k)) (((goodAt good).map fun i => parts.getD i []).take k) = D := by
    refine list_ext (by rw [timesL_len, hD]) fun a ha' => ?_
    rw [timesL_len] at ha'
    rw [timesL_at ha', hN, ← ha a (by omega)]
    refine Eq.trans ?_ (rowB_of (D.getD a [])).symm
    refine rowB_congr fun n hn' => ?_
    rw [cellL_mm]
    have hn2 : n < (D.getD 0 []).length := by rw [← ha a (by omega)]; exact hn'
    have e1 : Mat.mm k (backX k ((goodAt good).take k)) (rowsM (((goodAt good).map fun i => parts.getD i []).take k)) a n = Mat.mm k (backX k ((goodAt good).take k)) (Mat.mm k (pickM k ((goodAt good).take k)) (rowsM D)) a n :=
      Mat.mm_congr (fun _ _ => rfl) fun i hi => by
        have hmem : (goodAt good).getD i 0 ∈ goodAt good := by rw [List.getD_eq_getElem?_getD, List.getElem?_eq_getElem (by omega)]; exact List.getElem_mem (by omega)
        obtain ⟨h1, h2⟩ := goodAt_mem.1 hmem
        show ((((goodAt good).map fun i => parts.getD i []).take k).getD i []).getD n 0 = Mat.mm k (pickM k ((goodAt good).take k)) (rowsM D) i n
        rw [getD_takeP hi, getD_mapL (by omega), hc _ (by omega) h2, codeL_at (by omega), rowB_at _ hn2]
        refine Mat.sum_congr fun j _ => ?_
        show Mat.fm (Mat.rowM k _ j) _ = Mat.fm (Mat.rowM k _ j) _
        rw [getD_takeL hi]
    rw [e1, ← Mat.mm_assoc, Mat.mm_congr (A' := Mat.one) (B' := rowsM D) (fun j hj => hX.2 a j ha' hj) (fun _ _ => rfl), Mat.one_mm _ _ ha']
    rfl
  rw [e]
/-- What is mended is right, and has the first k good ones. -/
theorem mend_right (hk : 1 ≤ k) (hm : k + m ≤ 255) (hp : parts.length = k + m) (hg : good.length = k + m) (hn : k ≤ (goodAt good).length) (hal : alike ((goodAt good).map fun i => parts.getD i [])) :
    ∃ D, D.length = k ∧ alike D ∧ mendE k m parts good = (codeL k (k + m) D, 0) ∧ ∀ i, i < k → (codeL k (k + m) D).getD ((goodAt good).getD i 0) [] = parts.getD ((goodAt good).getD i 0) [] := by
  refine ⟨timesL k k (backX k ((goodAt good).take k)) (((goodAt good).map fun i => parts.getD i []).take k), timesL_len _ _ _ _, timesL_alike, ?_, fun i hi => ?_⟩
  · unfold mendE
    rw [if_pos ⟨mayK_iff.2 ⟨by omega, by omega, by omega, by omega⟩, by rw [hp]; simp, by rw [hg]; simp⟩, if_pos hal, if_neg (by omega)]
    simp only [Int.toNat_natCast]
  · have hX := backX_inv (k := k) (L := (goodAt good).take k) (by omega) (by rw [List.length_take]; omega) (nodup_take (goodAt_nodup good) k) (fun x hx => by
      have := (goodAt_mem.1 (List.mem_of_mem_take hx)).1
      omega)
    have hmem : (goodAt good).getD i 0 ∈ goodAt good := by rw [List.getD_eq_getElem?_getD, List.getElem?_eq_getElem (by omega)]; exact List.getElem_mem (by omega)
    obtain ⟨h1, h2⟩ := goodAt_mem.1 hmem
    have h0 := getD_mapL (parts := parts) (L := goodAt good) (i := i) (by omega)
    have hli := hal i (by simpa using (by omega : i < (goodAt good).length))
    rw [h0] at hli
    rw [codeL_at (by omega), timesL_at (by omega), rowB_len, getD_takeP (by omega), ← hli]
    refine Eq.trans ?_ (rowB_of (parts.getD ((goodAt good).getD i 0) [])).symm
    refine rowB_congr fun n hn' => ?_
    have hn2 : n < (((goodAt good).map fun i => parts.getD i []).getD 0 []).length := by rw [← hli]; exact hn'
    have e1 : Mat.mm k (Mat.rowM k) (rowsM (timesL k k (backX k ((goodAt good).take k)) (((goodAt good).map fun i => parts.getD i []).take k))) ((goodAt good).getD i 0) n =
        Mat.mm k (pickM k ((goodAt good).take k)) (Mat.mm k (backX k ((goodAt good).take k)) (rowsM (((goodAt good).map fun i => parts.getD i []).take k))) i n := by
      refine Mat.sum_congr fun a ha => ?_
      show Mat.fm (Mat.rowM k ((goodAt good).getD i 0) a) ((((timesL k k _ _).getD a []).getD n 0)) = Mat.fm (Mat.rowM k (((goodAt good).take k).getD i 0) a) _
      rw [getD_takeL hi, timesL_at ha, getD_takeP (by omega), rowB_at _ hn2]
      rfl
    rw [e1, ← Mat.mm_assoc, Mat.mm_congr (A' := Mat.one) (B' := rowsM (((goodAt good).map fun i => parts.getD i []).take k)) (fun j hj => hX.1 i j hi hj) (fun _ _ => rfl), Mat.one_mm _ _ hi]
    show ((((goodAt good).map fun i => parts.getD i []).take k).getD i []).getD n 0 = _
    rw [getD_takeP hi, h0]
end
end Go.Proofs.Ytbfkknoeaekajaa

namespace Go.Proofs.Ytbfkknoeaekajaa
open Go.RowKit

theorem getD_mapI {L : List Nat} {i : Nat} (hi : i < L.length) : (L.map Int.ofNat).getD i 0 = ((L.getD i 0 : Nat) : Int) := by simp [List.getD_eq_getElem?_getD, hi]
theorem sum_filter (p : Nat → Bool) (f : Nat → UInt8) : ∀ k : Nat, (∀ j, j < k → p j = false → f j = 0) → Mat.sum k f = Mat.sum ((List.range k).filter p).length fun a => f (((List.range k).filter p).getD a 0)
  | 0, _ => rfl
  | k + 1, h => by
    have IH := sum_filter p f k fun j hj => h j (by omega)
    rw [List.range_succ, List.filter_append]
    cases hp : p k with
    | true =>
      have e : List.filter p [k] = [k] := by simp [hp]
      rw [e, List.length_append, List.length_singleton, Mat.sum, Mat.sum, IH]
      congr 1
      · exact Mat.sum_congr fun a ha => by simp [List.getD_eq_getElem?_getD, List.getElem?_append_left ha]
      · simp [List.getD_eq_getElem?_getD]
    | false =>
      have e : List.filter p [k] = [] := by simp [hp]
      rw [e, List.append_nil, Mat.sum, IH, h k (by omega) hp, UInt8.xor_zero]
theorem sum_shift (h : Nat) (g : Nat → UInt8) (h0 : ∀ t, t < h → g t = 0) : ∀ l : Nat, Mat.sum (h + l) g = Mat.sum l fun b => g (h + b)
  | 0 => Mat.sum_zero h h0
  | l + 1 => by
    rw [← Nat.add_assoc, Mat.sum, Mat.sum, sum_shift h g h0 l]

/-- The numbers below j that aren't in the list. -/
def lostTo (L : List Nat) (j : Nat) : List Nat := (List.range j).filter fun i => decide (i ∉ L)
theorem lostTo_mem {L : List Nat} {j i : Nat} : i ∈ lostTo L j ↔ i < j ∧ i ∉ L := by simp [lostTo]
theorem lostTo_nodup (L : List Nat) (j : Nat) : (lostTo L j).Nodup := List.Pairwise.filter _ List.nodup_range
theorem lostTo_yes {L : List Nat} {j : Nat} (h : j ∈ L) : lostTo L (j + 1) = lostTo L j := by simp [lostTo, List.range_succ, h]
theorem lostTo_no {L : List Nat} {j : Nat} (h : j ∉ L) : lostTo L (j + 1) = lostTo L j ++ [j] := by simp [lostTo, List.range_succ, h]
theorem lostTo_le (L : List Nat) (j : Nat) : (lostTo L j).length ≤ j := by
  have := List.length_filter_le (fun i => decide (i ∉ L)) (List.range j)
  rwa [List.length_range] at this
theorem lostTo_sum (L : List Nat) (k : Nat) (f : Nat → UInt8) (h : ∀ j, j < k → j ∈ L → f j = 0) : Mat.sum k f = Mat.sum (lostTo L k).length fun a => f ((lostTo L k).getD a 0) :=
  sum_filter _ f k fun j hj hp => h j hj (by simpa using hp)
theorem lostTo_at {L : List Nat} {k a : Nat} (ha : a < (lostTo L k).length) : (lostTo L k).getD a 0 < k ∧ (lostTo L k).getD a 0 ∉ L := by
  refine lostTo_mem.1 ?_
  rw [List.getD_eq_getElem?_getD, List.getElem?_eq_getElem ha]
  exact List.getElem_mem ha
/-- What lies at the places below j: chunks, or zeros. -/
def dataTo (L : List Nat) (ch : List (List UInt8)) (N j : Nat) : List (List UInt8) := (List.range j).map fun i => if i ∈ L then ch.getD (L.idxOf i) [] else List.replicate N 0
theorem dataTo_len (L : List Nat) (ch : List (List UInt8)) (N j : Nat) : (dataTo L ch N j).length = j := by simp [dataTo]
theorem dataTo_at {L : List Nat} {ch : List (List UInt8)} {N j i : Nat} (h : i < j) : (dataTo L ch N j).getD i [] = if i ∈ L then ch.getD (L.idxOf i) [] else List.replicate N 0 := by simp [dataTo, List.getD_eq_getElem?_getD, h]
theorem dataTo_succ (L : List Nat) (ch : List (List UInt8)) (N j : Nat) : dataTo L ch N (j + 1) = dataTo L ch N j ++ [if j ∈ L then ch.getD (L.idxOf j) [] else List.replicate N 0] := by simp [dataTo, List.range_succ]

/-- Places that rise, below t; as many as k. -/
structure Plc (k t : Nat) (L : List Nat) : Prop where
  len : L.length = k
  lt : ∀ x ∈ L, x < t
  srt : L.Pairwise (· < ·)
theorem Plc.get_mem {L : List Nat} {i : Nat} (h : i < L.length) : L.getD i 0 ∈ L := by rw [List.getD_eq_getElem?_getD, List.getElem?_eq_getElem h]; exact List.getElem_mem h
theorem Plc.rise {k t : Nat} {L : List Nat} (h : Plc k t L) {i j : Nat} (hij : i < j) (hj : j < k) : L.getD i 0 < L.getD j 0 := by
  have hl := h.len
  have := List.pairwise_iff_getElem.1 h.srt i j (by omega) (by omega) hij
  rw [List.getD_eq_getElem?_getD, List.getD_eq_getElem?_getD, List.getElem?_eq_getElem (by omega), List.getElem?_eq_getElem (by omega)]
  exact this
theorem Plc.nodup {k t : Nat} {L : List Nat} (h : Plc k t L) : L.Nodup := h.srt.imp fun h => Nat.ne_of_lt h
theorem Plc.of_good {k t : Nat} {good : List Bool} (hg : good.length = t) (hn : k ≤ (goodAt good).length) : Plc k t ((goodAt good).take k) := by
  refine ⟨by rw [List.length_take]; omega, fun x hx => ?_, ?_⟩
  · have := (goodAt_mem.1 (List.mem_of_mem_take hx)).1
    omega
  · have : (goodAt good).Pairwise (· < ·) := List.Pairwise.filter _ List.pairwise_lt_range
    exact this.sublist (List.take_sublist k _)
/-- The first h places are below j, the others aren't. -/
structure Cut (L : List Nat) (h j : Nat) : Prop where
  le : h ≤ L.length
  lo : ∀ t, t < h → L.getD t 0 < j
  hi : ∀ t, h ≤ t → t < L.length → j ≤ L.getD t 0
theorem Cut.start (L : List Nat) : Cut L 0 0 := ⟨by omega, fun t ht => absurd ht (by omega), fun t _ _ => by omega⟩
section
variable {k t h j : Nat} {L : List Nat}
theorem Cut.yes (c : Cut L h j) (p : Plc k t L) (hh : h < k) (e : L.getD h 0 = j) : Cut L (h + 1) (j + 1) ∧ j ∈ L ∧ L.idxOf j = h := by
  have hl := p.len
  refine ⟨⟨by omega, fun a ha => ?_, fun a h1 h2 => ?_⟩, ?_, ?_⟩
  · by_cases hah : a = h
    · rw [hah, e]; omega
    · have := c.lo a (by omega); omega
  · have := p.rise (i := h) (j := a) (by omega) (by omega); omega
  · rw [← e]; exact Plc.get_mem (by omega)
  · have hj : L[h]'(by omega) = j := by
      rw [List.getD_eq_getElem?_getD, List.getElem?_eq_getElem (by omega)] at e
      exact e
    rw [← hj]
    exact List.Nodup.idxOf_getElem p.nodup h (by omega)
theorem Cut.no (c : Cut L h j) (p : Plc k t L) (hh : h < k) (e : L.getD h 0 ≠ j) : Cut L h (j + 1) ∧ j ∉ L := by
  have hl := p.len
  have h1 := c.hi h (Nat.le_refl _) (by omega)
  have hup : ∀ a, h ≤ a → a < L.length → j + 1 ≤ L.getD a 0 := fun a h2 h3 => by
    by_cases hah : a = h
    · subst hah; omega
    · have := p.rise (i := h) (j := a) (by omega) (by omega); omega
  refine ⟨⟨c.le, fun a ha => by have := c.lo a ha; omega, hup⟩, fun hm => ?_⟩
  obtain ⟨a, ha, hj⟩ := List.mem_iff_getElem.1 hm
  have hj' : L.getD a 0 = j := by rw [List.getD_eq_getElem?_getD, List.getElem?_eq_getElem ha]; exact hj
  by_cases hah : a < h
  · have := c.lo a hah; omega
  · have := hup a (by omega) ha; omega
theorem Cut.le_j (c : Cut L h j) (p : Plc k t L) : h ≤ j := by
  have hl := p.len
  have hge : ∀ a, a < k → a ≤ L.getD a 0 := fun a => by
    induction a with
    | zero => intro _; omega
    | succ a ih =>
      intro ha
      have := ih (by omega)
      have := p.rise (i := a) (j := a + 1) (by omega) ha
      omega
  by_cases h0 : h = 0
  · omega
  · have h1 := c.lo (h - 1) (by omega)
    have h2 := hge (h - 1) (by have := c.le; omega)
    omega
end

/-- The lost columns of the rows of Cauchy that are there. -/
def lostC (k : Nat) (L : List Nat) : Mat.M := fun a b => cauchyF k (L.getD (k - (lostTo L k).length + a) 0 - k) ((lostTo L k).getD b 0)
def lostY (k : Nat) (L : List Nat) (X : Mat.M) : Mat.M := fun a b => X ((lostTo L k).getD a 0) (k - (lostTo L k).length + b)
section
variable {k t h : Nat} {L : List Nat} {X : Mat.M}
theorem rowM_hi {k i : Nat} (hi : k ≤ i) (j : Nat) : Mat.rowM k i j = cauchyF k (i - k) j := by
  unfold Mat.rowM cauchyF
  rw [if_neg (by omega), show k + (i - k) = i by omega]
theorem rowM_lo {k i : Nat} (hi : i < k) (j : Nat) : Mat.rowM k i j = Mat.one i j := if_pos hi
theorem getD_inj {Z : List Nat} (hd : Z.Nodup) {a b : Nat} (ha : a < Z.length) (hb : b < Z.length) (e : Z.getD a 0 = Z.getD b 0) : a = b := by
  rw [List.getD_eq_getElem?_getD, List.getD_eq_getElem?_getD, List.getElem?_eq_getElem ha, List.getElem?_eq_getElem hb] at e
  have e' : Z[a] = Z[b] := e
  rcases Nat.lt_trichotomy a b with h | h | h
  · exact absurd e' (List.pairwise_iff_getElem.1 hd a b ha hb h)
  · exact h
  · exact absurd e'.symm (List.pairwise_iff_getElem.1 hd b a hb ha h)
theorem one_lost {Z : List Nat} (hd : Z.Nodup) {a b : Nat} (ha : a < Z.length) (hb : b < Z.length) : Mat.one (Z.getD a 0) (Z.getD b 0) = Mat.one a b := by
  unfold Mat.one
  by_cases e : a = b
  · rw [if_pos e, if_pos (by rw [e])]
  · rw [if_neg e, if_neg fun e2 => e (getD_inj hd ha hb e2)]
theorem one_shift (h a b : Nat) : Mat.one (h + a) (h + b) = Mat.one a b := by
  unfold Mat.one
  by_cases e : a = b
  · rw [if_pos e, if_pos (by omega)]
  · rw [if_neg e, if_neg (by omega)]
/-- A place that isn't lost is one of the first h. -/
theorem Cut.at (c : Cut L h k) {j : Nat} (hj : j < k) (hm : j ∈ L) : ∃ a, a < h ∧ L.getD a 0 = j ∧ a < L.length := by
  obtain ⟨a, ha, e⟩ := List.mem_iff_getElem.1 hm
  have e' : L.getD a 0 = j := by rw [List.getD_eq_getElem?_getD, List.getElem?_eq_getElem ha]; exact e
  refine ⟨a, ?_, e', ha⟩
  rcases Nat.lt_or_ge a h with h1 | h1
  · exact h1
  · have := c.hi a h1 ha; omega
theorem lost_inv (p : Plc k t L) (c : Cut L h k) (hh : h + (lostTo L k).length = k) (hX : Mat.Inv k (pickM k L) X) : Mat.Inv (lostTo L k).length (lostC k L) (lostY k L X) := by
  have hl := p.len
  have hsub : k - (lostTo L k).length = h := by omega
  constructor
  · intro a b ha hb
    have e1 : ∀ j, Mat.rowM k (L.getD (h + a) 0) j = cauchyF k (L.getD (h + a) 0 - k) j := fun j => rowM_hi (c.hi (h + a) (by omega) (by omega)) j
    have s := lostTo_sum L k (fun j => Mat.fm (Mat.rowM k (L.getD (h + a) 0) j) (X j (h + b))) (fun j hj hm => by
      obtain ⟨i, hi, e, hil⟩ := c.at hj hm
      have h2 := hX.1 i (h + b) (by omega) (by omega)
      have h3 : Mat.mm k (pickM k L) X i (h + b) = X j (h + b) := by
        have : Mat.mm k (pickM k L) X i (h + b) = Mat.mm k Mat.one X j (h + b) := Mat.sum_congr fun q _ => by
          show Mat.fm (Mat.rowM k (L.getD i 0) q) _ = Mat.fm (Mat.one j q) _
          rw [e, rowM_lo hj]
        rw [this, Mat.one_mm _ _ hj]
      rw [h3] at h2
      rw [h2]
      have : Mat.one i (h + b) = 0 := if_neg (by omega)
      rw [this, Mat.fm_zero])
    have h2 := hX.1 (h + a) (h + b) (by omega) (by omega)
    rw [one_shift] at h2
    rw [← h2]
    refine Eq.trans ?_ s.symm
    refine Mat.sum_congr fun q _ => ?_
    show Mat.fm (cauchyF k (L.getD (k - (lostTo L k).length + a) 0 - k) _) (X _ (k - (lostTo L k).length + b)) = _
    rw [hsub, e1]
  · intro a b ha hb
    obtain ⟨za, _⟩ := lostTo_at ha
    obtain ⟨zb, nb⟩ := lostTo_at hb
    have h2 := hX.2 ((lostTo L k).getD a 0) ((lostTo L k).getD b 0) za zb
    rw [one_lost (lostTo_nodup L k) ha hb] at h2
    rw [← h2]
    have s := sum_shift h (fun q => Mat.fm (X ((lostTo L k).getD a 0) q) (pickM k L q ((lostTo L k).getD b 0))) (fun q hq => by
      have : pickM k L q ((lostTo L k).getD b 0) = 0 := by
        show Mat.rowM k (L.getD q 0) _ = 0
        rw [rowM_lo (c.lo q hq)]
        refine if_neg fun e => nb ?_
        rw [← e]
        exact Plc.get_mem (by omega)
      rw [this, Mat.fm_zero]) (lostTo L k).length
    rw [hh] at s
    refine Eq.trans ?_ s.symm
    refine Mat.sum_congr fun q hq => ?_
    show Mat.fm (X _ (k - (lostTo L k).length + q)) (cauchyF k (L.getD (k - (lostTo L k).length + q) 0 - k) _) = Mat.fm _ (Mat.rowM k (L.getD (h + q) 0) _)
    rw [hsub, rowM_hi (c.hi (h + q) (by omega) (by omega))]
end

/-- What the parities lack, and the lost data of it. -/
def lackL (k : Nat) (L : List Nat) (ch : List (List UInt8)) (N : Nat) : List (List UInt8) :=
  (List.range (lostTo L k).length).map fun a => rowB N fun n => cellL k (fun a j => cauchyF k (L.getD (k - (lostTo L k).length + a) 0 - k) j) (dataTo L ch N k) a n ^^^ (ch.getD (k - (lostTo L k).length + a) []).getD n 0
theorem lackL_len (k : Nat) (L : List Nat) (ch : List (List UInt8)) (N : Nat) : (lackL k L ch N).length = (lostTo L k).length := by simp [lackL]
theorem lackL_at {k N a : Nat} {L : List Nat} {ch : List (List UInt8)} (ha : a < (lostTo L k).length) :
    (lackL k L ch N).getD a [] = rowB N fun n => cellL k (fun a j => cauchyF k (L.getD (k - (lostTo L k).length + a) 0 - k) j) (dataTo L ch N k) a n ^^^ (ch.getD (k - (lostTo L k).length + a) []).getD n 0 := by
  simp [lackL, List.getD_eq_getElem?_getD, ha]
section
variable {k t h N : Nat} {L : List Nat} {X : Mat.M} {ch : List (List UInt8)}
/-- What the chunks say. -/
theorem back_says (hX : Mat.Inv k (pickM k L) X) (hN : (ch.getD 0 []).length = N) {i n : Nat} (hi : i < k) (hn : n < N) :
    Mat.sum k (fun j => Mat.fm (Mat.rowM k (L.getD i 0) j) (rowsM (timesL k k X ch) j n)) = (ch.getD i []).getD n 0 := by
  have e1 : Mat.sum k (fun j => Mat.fm (Mat.rowM k (L.getD i 0) j) (rowsM (timesL k k X ch) j n)) = Mat.mm k (pickM k L) (Mat.mm k X (rowsM ch)) i n := Mat.sum_congr fun j hj => by
    show Mat.fm (Mat.rowM k (L.getD i 0) j) (((timesL k k X ch).getD j []).getD n 0) = Mat.fm (Mat.rowM k (L.getD i 0) j) _
    rw [timesL_at hj, hN, rowB_at _ hn]
    rfl
  rw [e1, ← Mat.mm_assoc, Mat.mm_congr (A' := Mat.one) (B' := rowsM ch) (fun j hj => hX.1 i j hi hj) (fun _ _ => rfl), Mat.one_mm _ _ hi]
  rfl
theorem back_had (p : Plc k t L) (hX : Mat.Inv k (pickM k L) X) (hN : (ch.getD 0 []).length = N) (hal : ∀ i, i < k → (ch.getD i []).length = N) {j : Nat} (hj : j < k) (hm : j ∈ L) :
    (timesL k k X ch).getD j [] = ch.getD (L.idxOf j) [] := by
  have hl := p.len
  have hix : L.idxOf j < L.length := List.idxOf_lt_length_of_mem hm
  have hgj : L.getD (L.idxOf j) 0 = j := by rw [List.getD_eq_getElem?_getD, List.getElem?_eq_getElem hix]; exact List.getElem_idxOf hix
  rw [timesL_at hj, hN]
  have h1 := rowB_of (ch.getD (L.idxOf j) [])
  rw [hal _ (by omega)] at h1
  rw [h1]
  refine rowB_congr fun n hn => ?_
  have h2 := back_says hX hN (i := L.idxOf j) (by omega) hn
  rw [hgj] at h2
  rw [← h2]
  have e2 : Mat.sum k (fun q => Mat.fm (Mat.rowM k j q) (rowsM (timesL k k X ch) q n)) = Mat.mm k Mat.one (rowsM (timesL k k X ch)) j n := Mat.sum_congr fun q _ => by rw [rowM_lo hj]
  rw [e2, Mat.one_mm _ _ hj]
  show _ = ((timesL k k X ch).getD j []).getD n 0
  rw [timesL_at hj, hN, rowB_at _ hn]
theorem lack_says (p : Plc k t L) (c : Cut L h k) (hh : h + (lostTo L k).length = k) (hX : Mat.Inv k (pickM k L) X) (hN : (ch.getD 0 []).length = N) (hal : ∀ i, i < k → (ch.getD i []).length = N) {a n : Nat} (ha : a < (lostTo L k).length) (hn : n < N) :
    ((lackL k L ch N).getD a []).getD n 0 = Mat.sum (lostTo L k).length fun b => Mat.fm (lostC k L a b) (rowsM (timesL k k X ch) ((lostTo L k).getD b 0) n) := by
  have hl := p.len
  have hsub : k - (lostTo L k).length = h := by omega
  rw [lackL_at ha, rowB_at _ hn, hsub]
  have h1 := back_says hX hN (i := h + a) (by omega) hn
  rw [← h1]
  have e1 : cellL k (fun a j => cauchyF k (L.getD (h + a) 0 - k) j) (dataTo L ch N k) a n = Mat.sum k fun j => if j ∈ L then Mat.fm (Mat.rowM k (L.getD (h + a) 0) j) (rowsM (timesL k k X ch) j n) else 0 := Mat.sum_congr fun j hj => by
    show Mat.fm (cauchyF k (L.getD (h + a) 0 - k) j) (((dataTo L ch N k).getD j []).getD n 0) = _
    rw [dataTo_at hj]
    by_cases hm : j ∈ L
    · rw [if_pos hm, if_pos hm, rowM_hi (c.hi (h + a) (by omega) (by omega))]
      show _ = Mat.fm _ (((timesL k k X ch).getD j []).getD n 0)
      rw [back_had p hX hN hal hj hm]
    · rw [if_neg hm, if_neg hm]
      have : (List.replicate N (0 : UInt8)).getD n 0 = 0 := by simp [List.getD_eq_getElem?_getD, hn]
      rw [this, Mat.fm_zero]
  rw [e1, ← Mat.sum_xor]
  have s := lostTo_sum L k (fun j => (if j ∈ L then Mat.fm (Mat.rowM k (L.getD (h + a) 0) j) (rowsM (timesL k k X ch) j n) else 0) ^^^ Mat.fm (Mat.rowM k (L.getD (h + a) 0) j) (rowsM (timesL k k X ch) j n)) (fun j _ hm => by rw [if_pos hm, UInt8.xor_self])
  rw [s]
  refine Mat.sum_congr fun b hb => ?_
  rw [if_neg (lostTo_at hb).2, UInt8.zero_xor, rowM_hi (c.hi (h + a) (by omega) (by omega))]
  show _ = Mat.fm (cauchyF k (L.getD (k - (lostTo L k).length + a) 0 - k) _) _
  rw [hsub]
/-- A lost row, reckoned back. -/
theorem back_lost (p : Plc k t L) (c : Cut L h k) (hh : h + (lostTo L k).length = k) (hX : Mat.Inv k (pickM k L) X) (hN : (ch.getD 0 []).length = N) (hal : ∀ i, i < k → (ch.getD i []).length = N) {a : Nat} (ha : a < (lostTo L k).length) :
    (timesL (lostTo L k).length (lostTo L k).length (lostY k L X) (lackL k L ch N)).getD a [] = (timesL k k X ch).getD ((lostTo L k).getD a 0) [] := by
  have hI := lost_inv p c hh hX
  obtain ⟨za, _⟩ := lostTo_at ha
  rw [timesL_at ha, timesL_at za, hN, lackL_at (by omega), rowB_len]
  refine rowB_congr fun n hn => ?_
  rw [cellL_mm]
  have e1 : Mat.mm (lostTo L k).length (lostY k L X) (rowsM (lackL k L ch N)) a n = Mat.mm (lostTo L k).length (lostY k L X) (Mat.mm (lostTo L k).length (lostC k L) (fun b n => rowsM (timesL k k X ch) ((lostTo L k).getD b 0) n)) a n :=
    Mat.mm_congr (fun _ _ => rfl) fun q hq => lack_says p c hh hX hN hal hq hn
  rw [e1, ← Mat.mm_assoc, Mat.mm_congr (A' := Mat.one) (B' := fun b n => rowsM (timesL k k X ch) ((lostTo L k).getD b 0) n) (fun j hj => hI.2 a j ha hj) (fun _ _ => rfl), Mat.one_mm _ _ ha]
  show ((timesL k k X ch).getD ((lostTo L k).getD a 0) []).getD n 0 = _
  rw [timesL_at za, hN, rowB_at _ hn]
/-- The data with the first t lost rows put in their places. -/
def placed (Z : List Nat) (D rows : List (List UInt8)) : Nat → List (List UInt8)
  | 0 => D
  | t + 1 => (placed Z D rows t).set (Z.getD t 0) (rows.getD t [])
theorem placed_len (Z : List Nat) (D rows : List (List UInt8)) : ∀ t, (placed Z D rows t).length = D.length
  | 0 => rfl
  | t + 1 => by rw [placed, List.length_set, placed_len Z D rows t]
theorem placed_at {Z : List Nat} {D rows E : List (List UInt8)} (hE : ∀ a, a < Z.length → rows.getD a [] = E.getD (Z.getD a 0) []) (hD : ∀ j, j < D.length → j ∉ Z → D.getD j [] = E.getD j []) :
    ∀ t, t ≤ Z.length → ∀ j, j < D.length → j ∉ Z.drop t → (placed Z D rows t).getD j [] = E.getD j []
  | 0, _, j, hj, hn => hD j hj (by simpa using hn)
  | t + 1, ht, j, hj, hn => by
    have hlen := placed_len Z D rows t
    rw [placed]
    have hz : Z.drop t = Z.getD t 0 :: Z.drop (t + 1) := by
      rw [List.drop_eq_getElem_cons (by omega), List.getD_eq_getElem?_getD, List.getElem?_eq_getElem (by omega)]
      rfl
    by_cases e : Z.getD t 0 = j
    · rw [e, List.getD_eq_getElem?_getD, List.getElem?_set_self (by omega), ← e, ← hE t (by omega)]
      rfl
    · rw [List.getD_eq_getElem?_getD, List.getElem?_set_ne e, ← List.getD_eq_getElem?_getD]
      refine placed_at hE hD t (by omega) j hj ?_
      rw [hz]
      simp only [List.mem_cons, not_or]
      exact ⟨fun e2 => e e2.symm, hn⟩
/-- All data. -/
theorem back_all (p : Plc k t L) (c : Cut L h k) (hh : h + (lostTo L k).length = k) (hX : Mat.Inv k (pickM k L) X) (hN : (ch.getD 0 []).length = N) (hal : ∀ i, i < k → (ch.getD i []).length = N) :
    placed (lostTo L k) (dataTo L ch N k) (timesL (lostTo L k).length (lostTo L k).length (lostY k L X) (lackL k L ch N)) (lostTo L k).length = timesL k k X ch := by
  refine list_ext (by rw [placed_len, dataTo_len, timesL_len]) fun j hj => ?_
  rw [placed_len, dataTo_len] at hj
  refine placed_at (fun a ha => back_lost p c hh hX hN hal ha) (fun j hj hn => ?_) _ (Nat.le_refl _) j (by rw [dataTo_len]; exact hj) (by simp)
  rw [dataTo_len] at hj
  rw [dataTo_at hj]
  have hm : j ∈ L := Decidable.of_not_not fun h => hn (lostTo_mem.2 ⟨hj, h⟩)
  rw [if_pos hm, back_had p hX hN hal hj hm]
end
end Go.Proofs.Ytbfkknoeaekajaa

namespace Go.Proofs.Ytbfkknoeaekajaa
open Go.RowKit

/-- The parts X, of which c were overwritten: N, and in G which of them weren't. -/
structure Spoil (X N : List (List UInt8)) (G : List Bool) (c : Nat) : Prop where
  len : N.length = X.length
  glen : G.length = X.length
  cnt : (goodAt G).length + c = X.length
  same : ∀ i, i < X.length → G.getD i false = true → N.getD i [] = X.getD i []
theorem goodAt_replicate (n : Nat) : goodAt (List.replicate n true) = List.range n := by
  unfold goodAt
  rw [List.length_replicate]
  refine List.filter_eq_self.2 fun a ha => ?_
  have := List.mem_range.1 ha
  simp [List.getD_eq_getElem?_getD, this]
theorem goodAt_set {G : List Bool} {a : Nat} (ha : a < G.length) (hg : G.getD a false = true) : (goodAt (G.set a false)).length + 1 = (goodAt G).length := by
  have e : goodAt (G.set a false) = (goodAt G).erase a := by
    rw [(goodAt_nodup G).erase_eq_filter]
    unfold goodAt
    rw [List.length_set, List.filter_filter]
    refine List.filter_congr fun i hi => ?_
    have hi' := List.mem_range.1 hi
    by_cases h : i = a
    · subst h
      simp [List.getD_eq_getElem?_getD, hi']
    · have h' : ¬ a = i := fun e => h e.symm
      simp [List.getD_eq_getElem?_getD, h, h']
  have hm : a ∈ goodAt G := goodAt_mem.2 ⟨ha, hg⟩
  rw [e, List.length_erase_of_mem hm]
  have := List.length_pos_of_mem hm
  omega
theorem Spoil.start (X : List (List UInt8)) : Spoil X X (List.replicate X.length true) 0 :=
  ⟨rfl, by simp, by rw [goodAt_replicate]; simp, fun _ _ _ => rfl⟩
theorem Spoil.step {X N : List (List UInt8)} {G : List Bool} {c a : Nat} (h : Spoil X N G c) (ha : a < X.length) (hg : G.getD a false = true) (y : List UInt8) : Spoil X (N.set a y) (G.set a false) (c + 1) := by
  have hl := h.len
  have hgl := h.glen
  refine ⟨by rw [List.length_set, hl], by rw [List.length_set, hgl], ?_, fun i hi hgi => ?_⟩
  · have h1 := goodAt_set (by omega) hg
    have h2 := h.cnt
    omega
  · by_cases hia : a = i
    · subst hia
      rw [List.getD_eq_getElem?_getD, List.getElem?_set] at hgi
      simp [hgl, hi] at hgi
    · have e1 : (G.set a false).getD i false = G.getD i false := by rw [List.getD_eq_getElem?_getD, List.getD_eq_getElem?_getD, List.getElem?_set, if_neg hia]
      have e2 : (N.set a y).getD i [] = N.getD i [] := by rw [List.getD_eq_getElem?_getD, List.getD_eq_getElem?_getD, List.getElem?_set, if_neg hia]
      rw [e1] at hgi
      rw [e2, h.same i hi hgi]
/-- What is mended of spoilt parts, of which at most m are spoilt. -/
theorem Spoil.mend {k m c : Nat} {D N : List (List UInt8)} {G : List Bool} (h : Spoil (codeL k (k + m) D) N G c) (hk : 1 ≤ k) (hm : k + m ≤ 255) (hD : D.length = k) (ha : alike D) (hc : c ≤ m) : mendE k m N G = (codeL k (k + m) D, 0) := by
  have h1 := h.len
  have h2 := h.glen
  have h3 := h.cnt
  rw [codeL_len] at h1 h2 h3
  exact mend_code hk hm h1 h2 hD ha (by omega) (fun i hi hg => h.same i (by rw [codeL_len]; exact hi) hg)
end Go.Proofs.Ytbfkknoeaekajaa
