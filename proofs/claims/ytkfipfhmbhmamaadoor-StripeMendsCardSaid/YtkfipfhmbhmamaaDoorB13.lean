/- The beginning of a slice of bytes; numbers of 64 bits. copy into a slice of bytes of the call's own, also out of itself; make of many bytes. -/
import Derived.Test.YtkfipfhmbhmamaaDoorB03
import Derived.OpenShut
import Derived.Laws.IdiomCopy
namespace Go.Proofs.YtkfipfhmbhmamaaDoor
open Go.RowKit

/-- A number of 64 bits. -/
def IsI64 (x : Int) : Prop := -9223372036854775808 ≤ x ∧ x ≤ 9223372036854775807
open Go.WideMaps in
theorem isI64_of {x : Int} (h : (Lit.int .i64 x).wf = true) : IsI64 x := by
  have := bounds_i64 h
  unfold IsI64
  omega
/-- 'b[:n]' of bytes. -/
theorem run_headB (W : World) (a : Option Addr) (n c : Nat) (k : IntKind) (h : Int) (h0 : 0 ≤ h) (h1 : h ≤ c) :
    (Instr.slice 27 (.slice a n c) none (some (.int k h)) none).run Tryd.prog W = .ok (.slice (cutAt a c 0) h.toNat c) W := by
  rw [run_slice_h (P := Tryd.prog) (w := W) 27 a n c (by kernel_rfl) k h h0 h1]
  have hs : (sizeOf (Tryd.prog.elem 27)).run Tryd.prog W = .ok 1 W := by kernel_rfl
  rw [hs]
  simp [Result.andThen, sliced, cutAt]
theorem Ef.bytes_take {w : World} {B n k : Nat} {A : Option Addr} {l : List UInt8} (h : Bytes w B A n l) (hk : k ≤ n) : Bytes w B A k (l.take k) := by
  refine ⟨by rw [List.length_take, h.1]; omega, ?_⟩
  rcases h.2 with h0 | ⟨b, off, rfl, hB, hc⟩
  · exact .inl (by omega)
  · refine .inr ⟨b, off, rfl, hB, fun i hi => ?_⟩
    have := hc i (by omega)
    rw [List.getD_eq_getElem?_getD, List.getElem?_take, if_pos hi, ← List.getD_eq_getElem?_getD]
    exact this
theorem Ef.bytes_head {w : World} {B n c k : Nat} {A : Option Addr} {l : List UInt8} (h : Bytes w B A n l) (hk : k ≤ n) (hc : n ≤ c) : Bytes w B (cutAt A c 0) k (l.take k) := by
  have h1 := bytes_take (h.drop (k := 0) (c := c) (by omega) hc) (k := k) (by omega)
  rwa [List.drop_zero] at h1
end Go.Proofs.YtkfipfhmbhmamaaDoor

namespace Go.Proofs.YtkfipfhmbhmamaaDoor
open Go.RowKit

def splB (l : List UInt8) (o : Nat) (xs : List UInt8) : List UInt8 := l.take o ++ xs ++ l.drop (o + xs.length)
theorem splB_len {l xs : List UInt8} {o : Nat} (h : o + xs.length ≤ l.length) : (splB l o xs).length = l.length := by
  unfold splB
  simp only [List.length_append, List.length_take, List.length_drop]
  omega
theorem OwnB.setCellsB {base g n c : Nat} : ∀ (xs : List UInt8) (o : Nat) {w : World} {l : List UInt8}, OwnB w base (.slice (some ⟨g, 0, none⟩) n c) l → o + xs.length ≤ l.length →
    OwnB (w.setCells g o (xs.map byteV)) base (.slice (some ⟨g, 0, none⟩) n c) (splB l o xs)
  | [], o, w, l, h, _ => by simpa [splB, World.setCells] using h
  | x :: xs, o, w, l, h, hl => by
    rw [List.length_cons] at hl
    have := (h.set o x).setCellsB xs (o + 1) (by rw [List.length_set]; omega)
    have e : splB (l.set o x) (o + 1) xs = splB l o (x :: xs) := by
      unfold splB
      rw [List.take_set, List.set_eq_take_append_cons_drop, if_pos (by rw [List.length_take]; omega), List.take_take, Nat.min_eq_left (by omega), List.drop_eq_nil_of_le (by rw [List.length_take]; omega)]
      rw [List.drop_set_of_lt (by omega), List.length_cons, show o + 1 + xs.length = o + (xs.length + 1) by omega]
      simp
    rw [e] at this
    exact this
theorem cutAt_zeroB {A : Option Addr} {c : Nat} : cutAt A c 0 = A := by
  unfold cutAt
  split
  · rfl
  · cases A with
    | none => rfl
    | some x => obtain ⟨b, o, s⟩ := x; cases s <;> rfl
variable {o : Oper} {a : Act} {w : World} {K : Act → World → Prop} {Q : Exit → Act → World → Prop}
theorem wp_copyBP (d s : Operand) (ho : o.op = .call { callee := .builtin .copy, args := #[d, s], argTypes := #[27, 27] }) {base g N kN i c kd m ks B : Nat} {D A : Option Addr} {l x : List UInt8}
    (hd : a.eval d = .slice D c kd) (hs : a.eval s = .slice A m ks) (hO : OwnB w base (.slice (some ⟨g, 0, none⟩) N kN) l) (hB : Bytes w B A m x) (hl : l.length = N) (hic : i + c ≤ N) (hk : N ≤ kN) (hD : D = cutAt (some ⟨g, 0, none⟩) kN i)
    (h : ∀ w', OwnB w' base (.slice (some ⟨g, 0, none⟩) N kN) (splB l i (x.take c)) → w.grownBy w' (some g) → w'.heap.size = w.heap.size → K (a.put o.dst (goInt (Nat.min m c))) w') : o.wp Tryd.prog a w K Q := by
  have hinf : (Tryd.prog.info? 5).map (·.size) = some 1 := by kernel_rfl
  have hx := hB.1
  have hxc : (x.take c).length = Nat.min m c := by rw [List.length_take, hx]; exact Nat.min_comm c m
  subst hD
  by_cases h0 : Nat.min m c = 0
  · have hrun := run_copy_none (P := Tryd.prog) w 27 27 o.type 5 (cutAt (some ⟨g, 0, none⟩) kN i) A c kd m ks Tryd.underlying27 hinf h0
    unfold Oper.wp
    simp [execOp, ho, resolve, invoke, builtin, hd, hs, hrun, Result.andThen]
    have h1 := h w (by
      have e : x.take c = [] := List.eq_nil_of_length_eq_zero (by rw [hxc, h0])
      rw [e]
      simpa [splB] using hO) (World.grownBy.refl w _) rfl
    rw [h0] at h1
    exact h1
  · have hc0 : 0 < c := Nat.pos_of_ne_zero (fun e => h0 (by rw [e]; exact Nat.min_zero m))
    have hcut : cutAt (some ⟨g, 0, none⟩) kN i = some ⟨g, i, none⟩ := by
      unfold cutAt
      rw [if_neg (by omega)]
      unfold Addr.add
      simp
      intro e
      exact e.symm
    rw [hcut] at hd
    rcases hB.2 with h1 | ⟨b, off, rfl, _, hcell⟩
    · exact absurd (by rw [h1]; exact Nat.zero_min c) h0
    have hlen : ((x.take c).map byteV).length = Nat.min m c := by rw [List.length_map, hxc]
    have hmc : Nat.min m c ≤ c := Nat.min_le_right m c
    have hmm : Nat.min m c ≤ m := Nat.min_le_left m c
    have hrun := run_copy_cells (P := Tryd.prog) w 27 27 o.type 5 g i c kd ⟨b, off, none⟩ m ks ((x.take c).map byteV) Tryd.underlying27 hinf hlen
      (fun j v hj => by
        have hj' : j < Nat.min m c := by have := (List.getElem?_eq_some_iff.1 hj).1; rw [hlen] at this; exact this
        have := hcell j (by omega)
        rw [show (⟨b, off, none⟩ : Addr).add j = ⟨b, off + j, none⟩ by simp [Addr.add], this, ← hj]
        have hjx : j < x.length := by omega
        simp [byteV, show j < c by omega, hjx])
      (fun j hj => by
        rw [hlen] at hj
        rw [(hO.cell (i := i + j) (by omega)).1]
        rfl)
      (fun j hj => by
        rw [hlen] at hj
        exact (hO.cell (i := i + j) (by omega)).2)
      (fun v hv => by
        obtain ⟨y, _, rfl⟩ := List.mem_map.1 hv
        rfl)
    rw [hlen] at hrun
    unfold Oper.wp
    simp [execOp, ho, resolve, invoke, builtin, hd, hs, hrun, Result.andThen]
    have hO2 := hO.setCellsB (x.take c) i (by omega)
    obtain ⟨g1, g2⟩ := setCells_grown g ((x.take c).map byteV) i w
    rw [List.map_take] at hO2 g1 g2
    exact h _ hO2 g1 g2
theorem wp_copyB (d s : Operand) (ho : o.op = .call { callee := .builtin .copy, args := #[d, s], argTypes := #[27, 27] }) {base g N kN i c kd m ks B : Nat} {D A : Option Addr} {l x : List UInt8}
    (hd : a.eval d = .slice D c kd) (hs : a.eval s = .slice A m ks) (hO : OwnB w base (.slice (some ⟨g, 0, none⟩) N kN) l) (hB : Bytes w B A m x) (hl : l.length = N) (hic : i + c = N) (hk : N ≤ kN) (hD : D = cutAt (some ⟨g, 0, none⟩) kN i)
    (h : ∀ w', OwnB w' base (.slice (some ⟨g, 0, none⟩) N kN) (splB l i (x.take c)) → w.grownBy w' (some g) → w'.heap.size = w.heap.size → K (a.put o.dst (goInt (Nat.min m c))) w') : o.wp Tryd.prog a w K Q := wp_copyBP d s ho hd hs hO hB hl (Nat.le_of_eq hic) hk hD h
theorem wpList_copyB {ops : Array Oper} {rest : List Oper} (hgd : o.guard = none) (d s : Operand) (ho : o.op = .call { callee := .builtin .copy, args := #[d, s], argTypes := #[27, 27] }) {base g N kN i c kd m ks B : Nat} {D A : Option Addr} {l x : List UInt8}
    (hd : a.eval d = .slice D c kd) (hs : a.eval s = .slice A m ks) (hO : OwnB w base (.slice (some ⟨g, 0, none⟩) N kN) l) (hB : Bytes w B A m x) (hl : l.length = N) (hic : i + c = N) (hk : N ≤ kN) (hD : D = cutAt (some ⟨g, 0, none⟩) kN i)
    (h : ∀ w', OwnB w' base (.slice (some ⟨g, 0, none⟩) N kN) (splB l i (x.take c)) → w.grownBy w' (some g) → w'.heap.size = w.heap.size → wpList Tryd.prog ops Q rest (a.put o.dst (goInt (Nat.min m c))) w') :
    wpList Tryd.prog ops Q (o :: rest) a w :=
  wpList_plain hgd fun _ hK => wp_copyB d s ho hd hs hO hB hl hic hk hD fun w' h1 h2 h3 => hK _ _ (h w' h1 h2 h3)
theorem wpList_makeBB {ops : Array Oper} {rest : List Oper} (hgd : o.guard = none) (x y : Operand) (ho : o.op = .makeSlice 27 x y) {n : Nat} (hx : a.eval x = .int .i64 (n : Int)) (hy : a.eval y = .int .i64 (n : Int)) (hn : n ≤ 1000000)
    (h : ∀ w', OwnB w' w.heap.size (.slice (some ⟨w.heap.size, 0, none⟩) n n) (List.replicate n 0) → Ext w w' → wpList Tryd.prog ops Q rest (a.put o.dst (.slice (some ⟨w.heap.size, 0, none⟩) n n)) w') : wpList Tryd.prog ops Q (o :: rest) a w := by
  obtain ⟨i, hi, hz, hsz, hby⟩ := info_parts byte_info
  refine wpList_make_full w hgd x y 27 ho w.heap.size 5 i _ 1 Tryd.underlying27 hi hz hsz .i64 .i64 _ _ n hx hy rfl rfl (by rw [hby]; omega) (by unfold maxLen; omega) (Nat.le_refl _) ?_
  intro w' h1 h2
  refine h w' ?_ (Below.grown (Ext.refl w) h2 (Nat.le_refl _) fun k hk => by cases hk)
  unfold OwnB
  have e : (madeCells (Value.int .u8 0).cells (n * 1)).toList = (List.replicate n (0 : UInt8)).map byteV := by
    have : madeCells (Value.int .u8 0).cells n = ((List.replicate n (0 : UInt8)).map byteV).toArray := by
      apply Array.ext
      · simp [size_madeCells]
      · intro i h1 h2
        simp [madeCells, Value.cells, byteV, Nat.mod_one]
    rw [Nat.mul_one, this]
  rw [e] at h1
  simpa using h1
end Go.Proofs.YtkfipfhmbhmamaaDoor

