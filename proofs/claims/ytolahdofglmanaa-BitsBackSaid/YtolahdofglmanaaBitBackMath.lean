/- What was put is got: plain mathematics; slices of calls of the call's own. -/
import Derived.Test.YtolahdofglmanaaBitWriter
import Derived.Test.YtolahdofglmanaaBitReader2
import Derived.Test.YtolahdofglmanaaBitOps
namespace Go.Proofs.Ytolahdofglmanaa
open Go.RowKit

namespace Bit
/-- The bits that a call puts. -/
def enc (o : OpV) : List Bool := if o.k % 2 = 0 then putBits o.x o.n else unaryBits o.n
def flat (L : List OpV) : List Bool := L.flatMap enc
/-- Its call was answered OK. -/
def good (o : OpV) : Prop := (o.k % 2 = 0 ∧ fits o.x o.n = true) ∨ (o.k % 2 = 1 ∧ runs o.n = true)
theorem flat_nil : flat [] = [] := rfl
theorem flat_snoc (L : List OpV) (o : OpV) : flat (L ++ [o]) = flat L ++ enc o := by simp [flat]
theorem flat_take (L : List OpV) (k : Nat) (h : k < L.length) : flat (L.take (k + 1)) = flat (L.take k) ++ enc (L.getD k default) := by
  rw [List.take_succ_eq_append_getElem h, flat_snoc, List.getD_eq_getElem?_getD, List.getElem?_eq_getElem h]
  rfl
theorem flat_split (L : List OpV) (k : Nat) (h : k < L.length) : flat L = flat (L.take k) ++ enc (L.getD k default) ++ flat (L.drop (k + 1)) := by
  rw [← flat_take L k h]
  unfold flat
  rw [← List.flatMap_append, List.take_append_drop]
theorem Packs.bit {l : List UInt8} {P E Q : List Bool} (h : Packs l (P ++ E ++ Q)) {i : Nat} (hi : i < E.length) : at_ l (P.length + i) = E.getD i false := by
  have hl := h.1
  simp only [List.length_append] at hl
  rw [h.2 _ (by omega), List.append_assoc, getD_app_right _ _ _ (by omega), Nat.add_sub_cancel_left, getD_app_left _ _ _ hi]
theorem Packs.room {l : List UInt8} {P E Q : List Bool} (h : Packs l (P ++ E ++ Q)) : P.length + E.length ≤ 8 * l.length := by
  have hl := h.1
  simp only [List.length_append] at hl
  omega
theorem get_back {l : List UInt8} {P Q : List Bool} {x k : Nat} (h : Packs l (P ++ num x k ++ Q)) (hk : k ≤ 64) (hx : x < 2 ^ k) :
    getErr (8 * l.length - P.length) (k : Int) = 0 ∧ getNum l P.length (k : Int) = x ∧ getTo (8 * l.length - P.length) P.length (k : Int) = P.length + k := by
  have hr := h.room
  rw [num_length] at hr
  have h1 : getErr (8 * l.length - P.length) (k : Int) = 0 := by unfold getErr; rw [if_pos ⟨by omega, by omega⟩, if_pos (by omega)]
  refine ⟨h1, ?_, by unfold getTo; rw [h1]; simp⟩
  unfold getNum
  rw [h1, if_pos rfl, Int.toNat_natCast]
  have : val (rest l P.length) k = val (fun i => x.testBit (k - 1 - i)) k := val_congr k fun i hi => by
    unfold rest
    rw [h.bit (by rw [num_length]; exact hi), num_getD _ _ _ hi]
  rw [this, val_num hx]
theorem unBits_getD (n i : Nat) (h : i ≤ n) : (unBits n).getD i false = decide (i = n) := by
  unfold unBits
  rcases Nat.lt_or_ge i n with hi | hi
  · rw [getD_app_left _ _ _ (by simpa using hi), decide_eq_false (by omega), List.getD_eq_getElem?_getD, List.getElem?_replicate, if_pos hi]; rfl
  · obtain rfl : i = n := by omega
    rw [getD_app_right _ _ _ (by simp)]; simp
theorem un_back {l : List UInt8} {P Q : List Bool} {n : Nat} (h : Packs l (P ++ unBits n ++ Q)) : unErr l P.length = 0 ∧ unNum l P.length = n ∧ unTo l P.length = P.length + n + 1 := by
  have hlen : (unBits n).length = n + 1 := by simp [unBits]
  have hr := h.room
  rw [hlen] at hr
  have hz : zs l P.length = n := zeros_eq (by omega) (fun i hi => by
    unfold rest
    rw [h.bit (by omega), unBits_getD n i (by omega)]
    exact decide_eq_false (by omega)) (fun _ => by
    unfold rest
    rw [h.bit (by omega), unBits_getD n n (Nat.le_refl _)]
    exact decide_eq_true rfl)
  have hne : zs l P.length ≠ 8 * l.length - P.length := by omega
  refine ⟨by unfold unErr; rw [if_neg hne], by unfold unNum; rw [if_neg hne, hz], by unfold unTo; rw [if_neg hne, hz]⟩
theorem pad_back {l : List UInt8} {B : List Bool} (h : Packs l B) : padErr l B.length = 0 ∧ 8 * l.length - B.length < 8 := by
  have hl := h.1
  have h8 : 8 * l.length - B.length < 8 := by omega
  have hz : zs l B.length = 8 * l.length - B.length := zeros_eq (Nat.le_refl _) (fun i hi => by
    unfold rest
    rw [h.2 _ (by omega), getD_far _ _ (by omega)]) (fun h => by omega)
  exact ⟨by unfold padErr; rw [if_pos ⟨h8, hz⟩], h8⟩
theorem enc_le (o : OpV) (h : o.k % 2 = 1 → o.n ≤ 300) : (enc o).length ≤ 301 := by
  unfold enc
  split
  · exact Nat.le_trans (putBits_le _ _) (by omega)
  · have hn := h (by omega)
    unfold unaryBits
    split
    · rename_i hr
      have := of_decide_eq_true hr
      simp [unBits]; omega
    · simp
end Bit

def opCells (o : OpV) : List Value := [.int .u8 (o.k : Int), .int .u64 (o.x : Int), .int .i64 o.n]
/-- v is nil, or lies in a block of the call's own, and reads as these calls. -/
def OwnO (w : World) (base : Nat) (v : Value) (L : List OpV) : Prop := w.ownsRow base 34 3 v L.length (L.flatMap opCells)
theorem op_info : (Try.prog.info? 34).map (fun i => (i.zero, i.size, i.bytes)) = some (some (.agg #[.int .u8 0, .int .u64 0, .int .i64 0]), 3, 24) := by kernel_rfl
theorem OwnO.nil (w : World) (base : Nat) : OwnO w base (.slice none 0 0) [] := World.ownsRow_nil w base _ _
theorem OwnO.ext {w w' : World} {base : Nat} {v : Value} {L : List OpV} (h : OwnO w base v L) (hE : Ext w w') : OwnO w' base v L :=
  World.ownsRow.kept h (hE.grown none) (by cases hv : v.ownBlock <;> simp)
theorem OwnO.lt {w : World} {base : Nat} {v : Value} {L : List OpV} (h : OwnO w base v L) : ∀ k, v.ownBlock = some k → base ≤ k ∧ k < w.heap.size := World.ownsRow.lt h
theorem Mod.ownO {w w' : World} {g : Nat} {ob : Option Nat} (h : Mod w w' g ob) {base : Nat} {v : Value} {L : List OpV} (hv : OwnO w base v L) (hg : v.ownBlock ≠ some g) (ho : v.ownBlock = none ∨ v.ownBlock ≠ ob) : OwnO w' base v L := by
  refine ⟨hv.1, ?_⟩
  rcases hv.2 with hn | ⟨x, cap, cur, rfl, hb, hgg, rest⟩
  · exact .inl hn
  · refine .inr ⟨x, cap, cur, rfl, hb, ?_, rest⟩
    rw [h.block x (Array.getElem?_eq_some_iff.1 hgg).1 (by intro e; subst e; simp [Value.ownBlock] at hg) (by
      intro e
      rcases ho with ho | ho
      · simp [Value.ownBlock] at ho
      · exact ho (by simpa [Value.ownBlock] using e))]
    exact hgg
theorem opCells_get : ∀ (L : List OpV) (i j : Nat), i < L.length → j < 3 → (L.flatMap opCells)[i * 3 + j]? = (opCells (L.getD i default))[j]?
  | o :: L, 0, j, _, hj => by
    rw [List.flatMap_cons, Nat.zero_mul, Nat.zero_add, List.getElem?_append_left (by simp [opCells]; omega)]
    rfl
  | o :: L, i + 1, j, h, hj => by
    rw [List.flatMap_cons, List.getElem?_append_right (by simp [opCells]; omega)]
    have := opCells_get L i j (by simpa using h) hj
    rw [show (i + 1) * 3 + j - (opCells o).length = i * 3 + j by simp [opCells]; omega, this]
    simp
/-- What its elements hold. -/
theorem OwnO.form {w : World} {base : Nat} {v : Value} {L : List OpV} (h : OwnO w base v L) : ∃ A c, v = .slice A L.length c ∧ (L.length = 0 ∨ ∃ g, A = some ⟨g, 0, none⟩ ∧ ∀ i, i < L.length → OpAt w g (0 + i * 3) (L.getD i default)) := by
  rcases h.2 with ⟨rfl, h0⟩ | ⟨g, cap, cur, rfl, hb, hgg, hn, hc, hs, ht⟩
  · exact ⟨none, 0, by rw [h0], .inl h0⟩
  · refine ⟨_, cap, rfl, .inr ⟨g, rfl, fun i hi => ?_⟩⟩
    have hcell : ∀ j, j < 3 → w.cell? ⟨g, i * 3 + j, none⟩ = (opCells (L.getD i default))[j]? := fun j hj => by
      rw [cell_of_row w g (i * 3 + j) cur _ _ hgg, ← opCells_get L i j hi hj, ← ht, List.getElem?_take, if_pos (by omega)]
      simp
    rw [Nat.zero_add]
    exact ⟨by have := hcell 0 (by omega); simpa [opCells] using this, by have := hcell 1 (by omega); simpa [opCells] using this, by have := hcell 2 (by omega); simpa [opCells] using this⟩

section
variable {o : Oper} {a : Act} {K : Act → World → Prop} {Q : Exit → Act → World → Prop} {w : World} {base : Nat} {v : Value} {L : List OpV}
/-- append of one call, which lies in a block of its own. -/
theorem wpList_appO {ops : Array Oper} {rest : List Oper} (hgd : o.guard = none) (s x : Operand) (ho : o.op = .call { callee := .builtin .append, args := #[s, x], argTypes := #[22, 22] }) (hs : a.eval s = v) (p : OpV) (hown : OwnO (w.alloc (.cells #[.int .u8 (p.k : Int), .int .u64 (p.x : Int), .int .i64 p.n] 34)) base v L)
    {c : Nat} (hx : a.eval x = .slice (some ⟨w.heap.size, 0, none⟩) 1 c) (hlen : L.length ≤ 1000) (hbase : base ≤ w.heap.size)
    (h : ∀ v' w', OwnO w' base v' (L ++ [p]) → (w.alloc (.cells #[.int .u8 (p.k : Int), .int .u64 (p.x : Int), .int .i64 p.n] 34)).grownBy w' v.ownBlock → NewOb (w.alloc (.cells #[.int .u8 (p.k : Int), .int .u64 (p.x : Int), .int .i64 p.n] 34)) v.ownBlock v'.ownBlock → wpList Try.prog ops Q rest (a.put o.dst v') w') :
    wpList Try.prog ops Q (o :: rest) a (w.alloc (.cells #[.int .u8 (p.k : Int), .int .u64 (p.x : Int), .int .i64 p.n] 34)) := by
  obtain ⟨i, hi, hz, hsz, hby⟩ := info_parts op_info
  refine wpList_append_own_at _ hgd s x 22 ho base 34 i _ 3 24 Try.underlying22 hi hz hsz hby rfl (by omega) v L.length (L.flatMap opCells) hs hown ⟨w.heap.size, 0, none⟩ 1 c (opCells p) hx rfl (by
    intro j u hu
    rw [addr_add', Nat.zero_add, cellNew]
    match j, hu with
    | 0, hu => simpa [opCells] using hu
    | 1, hu => simpa [opCells] using hu
    | 2, hu => simpa [opCells] using hu
    | j + 3, hu => simp [opCells] at hu) (by
    intro u hu
    simp [opCells] at hu
    rcases hu with rfl | rfl | rfl <;> rfl) (by unfold maxLen; omega) (by omega) (by simp; omega) ?_
  intro v' w' h2 h3 _ h5
  refine h v' w' ?_ h3 (h5.imp id fun h => ⟨_, h, Nat.le_refl _⟩)
  unfold OwnO
  rw [List.length_append, List.flatMap_append]
  simpa using h2
end
end Go.Proofs.Ytolahdofglmanaa
