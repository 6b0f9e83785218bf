/- What was put is got: plain mathematics; slices of calls of the call's own. -/
import Derived.Test.YtabhemmmefefgaaBitWriter
import Derived.Test.YtabhemmmefefgaaBitReader2
import Derived.Test.YtabhemmmefefgaaBitOps
namespace Go.Proofs.Ytabhemmmefefgaa
open Go.RowKit

namespace Bit
/-- The bits that a call puts. -/
def enc (o : OpV) : List Bool := if o.k % 2 = 0 then putBits o.x o.n else unaryBits o.n
def flat (L : List OpV) : List Bool := L.flatMap enc
/-- Its call was answered OK. -/
def good (o : OpV) : Prop := (o.k % 2 = 0 ∧ fits o.x o.n = true) ∨ (o.k % 2 = 1 ∧ runs o.n = true)
theorem flat_nil : flat [] = [] := rfl
theorem flat_snoc (L : List OpV) (o : OpV) : flat (L ++ [o]) = flat L ++ enc o := by simp [flat]
theorem flat_take (L : List OpV) (k : Nat) (h : k < L.length) : flat (L.take (k + 1)) = flat (L.take k) ++ enc (L.getD k default) := by
  rw [List.take_succ_eq_append_getElem h, flat_snoc, List.getD_eq_getElem?_getD, List.getElem?_eq_getElem h]
  rfl
theorem flat_split (L : List OpV) (k : Nat) (h : k < L.length) : flat L = flat (L.take k) ++ enc (L.getD k default) ++ flat (L.drop (k + 1)) := by
  rw [← flat_take L k h]
  unfold flat
  rw [← List.flatMap_append, List.take_append_drop]
theorem Packs.bit {l : List UInt8} {P E Q : List Bool} (h : Packs l (P ++ E ++ Q)) {i : Nat} (hi : i < E.length) : at_ l (P.length + i) = E.getD i false := by
  have hl := h.1
  simp only [List.length_append] at hl
  rw [h.2 _ (by omega), List.append_assoc, getD_app_right _ _ _ (by omega), Nat.add_sub_cancel_left, getD_app_left _ _ _ hi]
theorem Packs.room {l : List UInt8} {P E Q : List Bool} (h : Packs l (P ++ E ++ Q)) : P.length + E.length ≤ 8 * l.length := by
  have hl := h.1
  simp only [List.length_append] at hl
  omega
theorem get_back {l : List UInt8} {P Q : List Bool} {x k : Nat} (h : Packs l (P ++ num x k ++ Q)) (hk : k ≤ 64) (hx : x < 2 ^ k) :
    getErr (8 * l.length - P.length) (k : Int) = 0 ∧ getNum l P.length (k : Int) = x ∧ getTo (8 * l.length - P.length) P.length (k : Int) = P.length + k := by
  have hr := h.room
  rw [num_length] at hr
  have h1 : getErr (8 * l.length - P.length) (k : Int) = 0 := by unfold getErr; rw [if_pos ⟨by omega, by omega⟩, if_pos (by omega)]
  refine ⟨h1, ?_, by unfold getTo; rw [h1]; simp⟩
  unfold getNum
  rw [h1, if_pos rfl, Int.toNat_natCast]
  have : val (rest l P.length) k = val (fun i => x.testBit (k - 1 - i)) k := val_congr k fun i hi => by
    unfold rest
    rw [h.bit (by rw [num_length]; exact hi), num_getD _ _ _ hi]
  rw [this, val_num hx]
theorem unBits_getD (n i : Nat) (h : i ≤ n) : (unBits n).getD i false = decide (i = n) := by
  unfold unBits
  rcases Nat.lt_or_ge i n with hi | hi
  · rw [getD_app_left _ _ _ (by simpa using hi), decide_eq_false (by omega), List.getD_eq_getElem?_getD, List.getElem?_replicate, if_pos hi]; rfl
  · obtain rfl : i = n := by omega
    rw [getD_app_right _ _ _ (by simp)]; simp
theorem un_back {l : List UInt8} {P Q : List Bool} {n : Nat} (h : Packs l (P ++ unBits n ++ Q)) : unErr l P.length = 0 ∧ unNum l P.length = n ∧ unTo l P.length = P.length + n + 1 := by
  have hlen : (unBits n).length = n + 1 := by simp [unBits]
  have hr := h.room
  rw [hlen] at hr
  have hz : zs l P.length = n := zeros_eq (by omega) (fun i hi => by
    unfold rest
    rw [h.bit (by omega), unBits_getD n i (by omega)]
    exact decide_eq_false (by omega)) (fun _ => by
    unfold rest
    rw [h.bit (by omega), unBits_getD n n (Nat.le_refl _)]
    exact decide_eq_true rfl)
  have hne : zs l P.length ≠ 8 * l.length - P.length := by omega
  refine ⟨by unfold unErr; rw [if_neg hne], by unfold unNum; rw [if_neg hne, hz], by unfold unTo; rw [if_neg hne, hz]⟩
theorem pad_back {l : List UInt8} {B : List Bool} (h : Packs l B) : padErr l B.length = 0 ∧ 8 * l.length - B.length < 8 := by
  have hl := h.1
  have h8 : 8 * l.length - B.length < 8 := by omega
  have hz : zs l B.length = 8 * l.length - B.length := zeros_eq (Nat.le_refl _) (fun i hi => by
    unfold rest
    rw [h.2 _ (by omega), getD_far _ _ (by omega)]) (fun h => by omega)
  exact ⟨by unfold padErr; rw [if_pos ⟨h8, hz⟩], h8⟩
theorem enc_le (o : OpV) (h : o.k % 2 = 1 → o.n ≤ 300) : (enc o).length ≤ 301 := by
  unfold enc
  split
  · exact Nat.le_trans (putBits_le _ _) (by omega)
  · have hn := h (by omega)
    unfold unaryBits
    split
    · rename_i hr
      have := of_decide_eq_true hr
      simp [unBits]; omega
    · simp
end Bit

def opCells (o : OpV) : List Value := [.int .u8 (o.k : Int), .int .u64 (o.x : Int), .int .i64 o.n]
theorem opCells_get : ∀ (L : List OpV) (i j : Nat), i < L.length → j < 3 → (L.flatMap opCells)[i * 3 + j]? = (opCells (L.getD i default))[j]?
  | o :: L, 0, j, _, hj => by
    rw [List.flatMap_cons, Nat.zero_mul, Nat.zero_add, List.getElem?_append_left (by simp [opCells]; omega)]
    rfl
  | o :: L, i + 1, j, h, hj => by
    rw [List.flatMap_cons, List.getElem?_append_right (by simp [opCells]; omega)]
    have := opCells_get L i j (by simpa using h) hj
    rw [show (i + 1) * 3 + j - (opCells o).length = i * 3 + j by simp [opCells]; omega, this]
    simp
section
variable {o : Oper} {a : Act} {K : Act → World → Prop} {Q : Exit → Act → World → Prop} {w : World} {base : Nat} {v : Value} {L : List OpV}
end
end Go.Proofs.Ytabhemmmefefgaa
