/- A block that is known whole. Worlds that differ in one block and one row at most; append and stores, told with where what they make lies. A table of rows of bytes in the call's own memory: a slice of slices, no two of which share a block. The contract of the document's Mul in its field; what its other calls answer. The contract of the document's Inv. Contracts of the document's numbers: Num, Fixed, Zig, Zag, scan. Contracts of the document's numbers: Fixed, scan, Text. A value of one cell stored into a block that is known whole, at the operation. What the call owns lies in no block of another kind. -/
import Derived.Test.YtkfipfhmbhmamaaDoorB02
import Derived.Deep.MidRow
import Derived.Laws.Rows
import Derived.Maps.AppendAt
import Derived.Laws.OwnMore
import Derived.Lib.AppendStr
namespace Go.Proofs.YtkfipfhmbhmamaaDoor
open Go.RowKit

/-- Block g is just these cells, none of them frozen. -/
def Whole (w : World) (g : Nat) (t : TypeId) (cs : Array Value) : Prop := w.heap[g]? = some (.cells cs t (0, 0))
section
variable {w W : World} {g : Nat} {t : TypeId} {cs : Array Value}
theorem Whole.lt (h : Whole w g t cs) : g < w.heap.size := (Array.getElem?_eq_some_iff.1 h).1
theorem Whole.cell (h : Whole w g t cs) (i : Nat) : w.cell? ⟨g, i, none⟩ = cs[i]? := cell_of_row w g i cs t (0, 0) h
theorem Whole.frozen (h : Whole w g t cs) (i : Nat) : w.frozen? ⟨g, i, none⟩ = false := frozen_of_row w g i cs t h
theorem Whole.new (w : World) (t : TypeId) (cs : Array Value) : Whole (w.alloc (.cells cs t)) w.heap.size t cs := heap_alloc_new w _
theorem Whole.alloc (h : Whole w g t cs) (o : Obj) : Whole (w.alloc o) g t cs := (Below.heap_alloc w o g h.lt).trans h
theorem Whole.set (h : Whole w g t cs) (i : Nat) (u : Value) : Whole (w.setCell ⟨g, i, none⟩ u) g t (cs.setIfInBounds i u) := heap_setCell_same w g i cs t u h
theorem Whole.far (h : Whole w g t cs) {b : Nat} (hb : g ≠ b) (i : Nat) (u : Value) : Whole (w.setCell ⟨b, i, none⟩ u) g t cs := (Below.heap_setCell w ⟨b, i, none⟩ u g hb).trans h
theorem Whole.ext (h : Whole w g t cs) (hE : Ext w W) : Whole W g t cs := (hE.block g h.lt).trans h
theorem Whole.below {B : Nat} (h : Whole w g t cs) (hE : Below B w W) (hg : g < B) : Whole W g t cs := (hE.block g hg).trans h
theorem Whole.grown (h : Whole w g t cs) {b : Nat} (hE : w.grownBy W (some b)) (hb : g ≠ b) : Whole W g t cs := (hE.block g h.lt (by simpa using hb)).trans h
end
theorem setCells_grown (g : Nat) : ∀ (vs : List Value) (o : Nat) (w : World), w.grownBy (w.setCells g o vs) (some g) ∧ (w.setCells g o vs).heap.size = w.heap.size
  | [], _, w => ⟨World.grownBy.refl w _, rfl⟩
  | v :: r, o, w => by
    have h1 : w.grownBy (w.setCell ⟨g, o, none⟩ v) (some g) := ⟨rfl, rfl, rfl, by simp, fun k _ hk => Below.heap_setCell w ⟨g, o, none⟩ v k (fun e => hk (by rw [e]))⟩
    obtain ⟨h2, h3⟩ := setCells_grown g r (o + 1) (w.setCell ⟨g, o, none⟩ v)
    exact ⟨h1.trans h2, by show ((w.setCell ⟨g, o, none⟩ v).setCells g (o + 1) r).heap.size = _; rw [h3]; simp⟩
theorem Whole.setCells {g : Nat} {t : TypeId} : ∀ (vs : List Value) (o : Nat) (w : World) (cs : Array Value), Whole w g t cs → o + vs.length ≤ cs.size →
    ∃ cs', Whole (w.setCells g o vs) g t cs' ∧ cs'.size = cs.size ∧ (∀ i, i < o → cs'[i]? = cs[i]?) ∧ ∀ j, j < vs.length → cs'[o + j]? = vs[j]?
  | [], _, _, cs, h, _ => ⟨cs, h, rfl, fun _ _ => rfl, fun j hj => by simp at hj⟩
  | v :: r, o, w, cs, h, hl => by
    simp only [List.length_cons] at hl
    obtain ⟨cs', h1, h2, h3, h4⟩ := Whole.setCells r (o + 1) (w.setCell ⟨g, o, none⟩ v) _ (h.set o v) (by simp; omega)
    refine ⟨cs', h1, by simpa using h2, fun i hi => by rw [h3 i (by omega), Array.getElem?_setIfInBounds_ne (by omega)], fun j hj => ?_⟩
    rcases j with _ | j
    · rw [Nat.add_zero, h3 o (by omega), Array.getElem?_setIfInBounds_self_of_lt (by omega)]
      rfl
    · rw [show o + (j + 1) = o + 1 + j by omega, h4 j (by simpa using hj)]
      rfl
theorem Whole.storeAll {w : World} {g : Nat} {t : TypeId} {cs cells : Array Value} (h : Whole w g t cs) (hs : cells.size = cs.size) : Whole (w.setCells g 0 cells.toList) g t cells := by
  obtain ⟨cs', h1, h2, _, h4⟩ := Whole.setCells cells.toList 0 w cs h (by simp [hs])
  have : cs' = cells := by
    apply Array.ext_getElem?
    intro i
    by_cases hi : i < cells.size
    · have := h4 i (by simpa using hi)
      rw [Nat.zero_add] at this
      rw [this]; simp
    · rw [Array.getElem?_eq_none (by omega), Array.getElem?_eq_none (by omega)]
  rwa [this] at h1
/-- An element of an array as a value. -/
theorem run_indexArr {P : Program} (t e : TypeId) (n : Nat) (cs : Array Value) (k : IntKind) (i : Nat) (v : Value) (W : World) (ht : P.underlying t = some (.array n e)) (hn : i < n) (hs : ∀ W, (sizeOf e).run P W = .ok 1 W) (ha : ∀ W, (isAgg e).run P W = .ok false W) (hv : cs[i]? = some v) :
    (Instr.index t (.agg cs) (.int k (i : Int))).run P W = .ok v W := by
  have h1 : (0 : Int) ≤ (i : Int) ∧ (i : Int) < (n : Int) := by omega
  simp [Instr.index, asIntOf, run_underlying ht, h1, hs, part, ha, hv]
  exact fun h => absurd hn (by omega)
/-- A whole array stored into a block that is known whole. -/
theorem wpList_storeW {P : Program} {ops : Array Oper} {rest : List Oper} {op : Oper} {a : Act} {w : World} {Q : Exit → Act → World → Prop} (hgd : op.guard = none) (ty : TypeId) (x y : Operand) (ho : op.op = .store ty x y)
    {g : Nat} {t : TypeId} {cs cells : Array Value} (hx : a.eval x = .pointer (some ⟨g, 0, none⟩)) (hy : a.eval y = .agg cells) (hw : Whole w g t cs) (hs : cells.size = cs.size)
    (hi : (P.info? ty).map (·.size) = some cells.size) (h1 : cells.all (·.oneCell') = true)
    (h : ∀ w', Whole w' g t cells → w.grownBy w' (some g) → w'.heap.size = w.heap.size → wpList P ops Q rest (a.put op.dst undef) w') : wpList P ops Q (op :: rest) a w := by
  refine wpList_store_mid hgd ty x y ho g 0 cells hx hy (fun j hj => ?_) hi h1 (h _ (hw.storeAll hs) (setCells_grown g _ _ _).1 (setCells_grown g _ _ _).2)
  rw [Nat.zero_add]
  refine ⟨?_, hw.frozen j⟩
  rw [hw.cell j, Array.getElem?_eq_getElem (by omega)]
  rfl
end Go.Proofs.YtkfipfhmbhmamaaDoor

namespace Go.Proofs.YtkfipfhmbhmamaaDoor
open Go.RowKit

theorem ret_i64 {a b : Int} (h : a = b) : Ending.returned (.int .i64 a) = .returned (.int .i64 b) := by rw [h]
/-- Everything that was there is there as it was, but block g and block ob. -/
structure Mod (w w' : World) (g : Nat) (ob : Option Nat) : Prop where
  os : w'.os = w.os
  tape : w'.tape = w.tape
  output : w'.output = w.output
  size : w.heap.size ≤ w'.heap.size
  block : ∀ k, k < w.heap.size → k ≠ g → some k ≠ ob → w'.heap[k]? = w.heap[k]?
/-- The own block is the one that it was, or was made since. -/
def NewOb (w : World) (ob ob' : Option Nat) : Prop := ob' = ob ∨ ∃ n, ob' = some n ∧ w.heap.size ≤ n
theorem NewOb.same (w : World) (ob : Option Nat) : NewOb w ob ob := .inl rfl
theorem NewOb.trans {a b : World} {o1 o2 o3 : Option Nat} (h : NewOb a o1 o2) (hs : a.heap.size ≤ b.heap.size) (k : NewOb b o2 o3) : NewOb a o1 o3 := by
  rcases k with rfl | ⟨n, rfl, hn⟩
  · exact h
  · exact .inr ⟨n, rfl, by omega⟩
theorem NewOb.ne {w : World} {ob ob' : Option Nat} (h : NewOb w ob ob') {g : Nat} (hg : g < w.heap.size) (ho : ob ≠ some g) : ob' ≠ some g := by
  rcases h with rfl | ⟨n, rfl, hn⟩
  · exact ho
  · intro e
    injection e with e
    omega
theorem NewOb.le {w : World} {ob ob' : Option Nat} (h : NewOb w ob ob') {b : Nat} (hb : b ≤ w.heap.size) (ho : ∀ k, ob = some k → b ≤ k) : ∀ k, ob' = some k → b ≤ k := by
  rcases h with rfl | ⟨n, rfl, hn⟩
  · exact ho
  · intro k e
    injection e with e
    omega
section
variable {a b c w w' : World} {g : Nat} {ob ob' : Option Nat}
theorem Mod.refl (w : World) (g : Nat) (ob : Option Nat) : Mod w w g ob := ⟨rfl, rfl, rfl, Nat.le_refl _, fun _ _ _ _ => rfl⟩
theorem Mod.trans (h : Mod a b g ob) (k : Mod b c g ob') (ho : NewOb a ob ob') : Mod a c g ob :=
  ⟨k.os.trans h.os, k.tape.trans h.tape, k.output.trans h.output, Nat.le_trans h.size k.size, fun i hi hg hb =>
    (k.block i (Nat.lt_of_lt_of_le hi h.size) hg (fun e => ho.ne hi (fun e' => hb e'.symm) e.symm)).trans (h.block i hi hg hb)⟩
theorem Mod.ofRow (h : w.grownBy w' (some g)) : Mod w w' g ob := ⟨h.os, h.tape, h.output, h.size, fun k hk hg _ => h.block k hk (fun e => hg (by injection e))⟩
theorem Mod.ofOwn (h : w.grownBy w' ob) : Mod w w' g ob := ⟨h.os, h.tape, h.output, h.size, fun k hk _ ho => h.block k hk ho⟩
theorem Mod.ofExt (h : Ext w w') : Mod w w' g ob := ⟨h.os, h.tape, h.output, h.size, fun k hk _ _ => h.block k hk⟩
theorem Mod.drew (w : World) : Mod w w.drew g ob := Mod.ofExt (Ext.refl w).drew
theorem Mod.below (h : Mod a b g ob) {B : Nat} (hB : B ≤ a.heap.size) (hg : B ≤ g) (ho : ∀ k, ob = some k → B ≤ k) : Below B a b :=
  ⟨h.os, h.tape, h.output, h.size, fun k hk => h.block k (by omega) (by omega) (fun e => by have := ho k e.symm; omega)⟩
theorem Mod.whole (h : Mod w w' g ob) {x : Nat} {t : TypeId} {cs : Array Value} (hw : Whole w x t cs) (hg : x ≠ g) (ho : ob ≠ some x) : Whole w' x t cs := (h.block x hw.lt hg (fun e => ho e.symm)).trans hw
theorem Mod.own (h : Mod w w' g ob) {base : Nat} {v : Value} {l : List UInt8} (hv : OwnB w base v l) (hg : v.ownBlock ≠ some g) (ho : v.ownBlock = none ∨ v.ownBlock ≠ ob) : OwnB w' base v l := by
  refine ⟨hv.1, ?_⟩
  rcases hv.2 with hn | ⟨x, cap, cur, rfl, hb, hgg, rest⟩
  · exact .inl hn
  · refine .inr ⟨x, cap, cur, rfl, hb, ?_, rest⟩
    rw [h.block x (Array.getElem?_eq_some_iff.1 hgg).1 (by intro e; subst e; simp [Value.ownBlock] at hg) (by
      intro e
      rcases ho with ho | ho
      · simp [Value.ownBlock] at ho
      · exact ho (by simpa [Value.ownBlock] using e))]
    exact hgg
theorem Mod.cell (h : Mod w w' g ob) {x i : Nat} (hx : x < w.heap.size) (hg : x ≠ g) (ho : ob ≠ some x) : w'.cell? ⟨x, i, none⟩ = w.cell? ⟨x, i, none⟩ :=
  World.cell?_of_block (a := ⟨x, i, none⟩) (h.block x hx hg (fun e => ho e.symm))
end
theorem OwnB.newOb {w : World} {base : Nat} {v : Value} {l : List UInt8} (h : OwnB w base v l) : ∀ k, v.ownBlock = some k → base ≤ k := fun k hk => (h.lt k hk).1
theorem OwnB.ltOb {w : World} {base : Nat} {v : Value} {l : List UInt8} (h : OwnB w base v l) : ∀ k, v.ownBlock = some k → k < w.heap.size := fun k hk => (h.lt k hk).2
theorem OwnB.far {w : World} {base g : Nat} {v : Value} {l : List UInt8} (h : OwnB w base v l) (hg : v.ownBlock ≠ some g) (i : Nat) (u : Value) : OwnB (w.setCell ⟨g, i, none⟩ u) base v l :=
  (Mod.ofRow (ob := none) (show w.grownBy (w.setCell ⟨g, i, none⟩ u) (some g) from ⟨rfl, rfl, rfl, by simp, fun k _ hk => Below.heap_setCell w ⟨g, i, none⟩ u k (fun e => hk (by rw [e]))⟩)).own h hg (by cases v.ownBlock <;> simp)
theorem grown_setCell (w : World) (g i : Nat) (u : Value) : w.grownBy (w.setCell ⟨g, i, none⟩ u) (some g) := ⟨rfl, rfl, rfl, by simp, fun k _ hk => Below.heap_setCell w ⟨g, i, none⟩ u k (fun e => hk (by rw [e]))⟩

/-- append of bytes, wherever they lie; where what comes back lies. -/
theorem app_run_at {w : World} (ty : TypeId) {base : Nat} {v : Value} {l : List UInt8} (hown : OwnB w base v l) {A : Option Addr} {m : Nat} {k : List UInt8} (c : Nat) (hb : Bytes w w.heap.size A m k)
    (hlen : l.length + m ≤ 140737488355328) (hbase : base ≤ w.heap.size) :
    ∃ v' w', (Builtin.append_ #[27, 27] ty #[v, .slice A m c]).run Tryd.prog w = .ok v' w' ∧ OwnB w' base v' (l ++ k) ∧ w.grownBy w' v.ownBlock ∧ NewOb w v.ownBlock v'.ownBlock := by
  obtain ⟨hk, hb⟩ := hb
  rcases hb with rfl | ⟨b, off, rfl, hB, hc⟩
  · obtain rfl := List.eq_nil_of_length_eq_zero hk
    exact ⟨v, w, run_append_zero w ty base v l hown A c, by simpa using hown, World.grownBy.refl w _, .inl rfl⟩
  · obtain ⟨i, hi, hz, hs, hby⟩ := info_parts byte_info
    obtain ⟨v', w', hr, h2, h3, _, h5⟩ := run_append_own_at (P := Tryd.prog) w base 27 ty 5 i _ 1 1 Tryd.underlying27 hi hz hs hby rfl (by omega) v l.length (l.map byteV) hown
      ⟨b, off, none⟩ m c (k.map byteV) (by simpa using hk) (by
        intro j u hu
        have hj : j < m := by
          rcases Nat.lt_or_ge j m with h | h
          · exact h
          · rw [List.getElem?_eq_none (by simp; omega)] at hu; cases hu
        have hadd : (⟨b, off, none⟩ : Addr).add j = ⟨b, off + j, none⟩ := by unfold Addr.add; split <;> simp_all
        rw [hadd, hc j hj]
        rw [List.getElem?_map, List.getElem?_eq_getElem (by omega)] at hu
        rw [List.getD_eq_getElem?_getD, List.getElem?_eq_getElem (by omega)]
        simpa [byteV] using hu) (by
        intro u hu
        obtain ⟨x, _, rfl⟩ := List.mem_map.1 hu
        rfl) (by unfold maxLen; omega) (by omega) hbase
    refine ⟨v', w', hr, ?_, h3, h5.imp id fun h => ⟨_, h, Nat.le_refl _⟩⟩
    unfold OwnB
    rw [List.length_append, hk, List.map_append]
    exact h2
theorem zeroCells_byte (n : Nat) : Builtin.zeroCells (Value.int .u8 0).cells n = ((List.replicate n (0 : UInt8)).map byteV).toArray := by
  apply Array.ext
  · rw [size_zeroCells]; simp [Value.cells]
  · intro i h1 h2
    simp [Builtin.zeroCells, Value.cells, byteV, Nat.mod_one]
/-- append of n bytes 0. -/
theorem app_zero_run {w : World} (ty : TypeId) {base : Nat} {v : Value} {l : List UInt8} (hown : OwnB w base v l) (n : Nat) (hlen : l.length + n ≤ 140737488355328) (hbase : base ≤ w.heap.size) :
    ∃ v' w', (Builtin.append_ #[27, 3] ty #[v, .int .i64 n]).run Tryd.prog w = .ok v' w' ∧ OwnB w' base v' (l ++ List.replicate n 0) ∧ w.grownBy w' v.ownBlock ∧ NewOb w v.ownBlock v'.ownBlock := by
  obtain ⟨i, hi, hz, hs, hby⟩ := info_parts byte_info
  have hw : IntKind.i64.wrap (n : Int) = n := by rw [IntKind.wrap_i64]; omega
  have hneg : ¬ ((n : Int) < 0) := by omega
  have hw0 : IntKind.i64.wrap 0 = 0 := by rw [IntKind.wrap_i64]; omega
  have h48i : ¬ (281474976710656 < (n : Int)) := by omega
  have hsz : Tryd.prog.info? 5 = some i := hi
  -- what the growing arm leaves
  have grown : ∀ (old : Nat), old < l.length + n → ∀ (row : Option Nat),
      OwnB (w.drew.alloc (.cells ((l.map byteV).toArray ++ Builtin.zeroCells (Value.int .u8 0).cells n ++ Builtin.zeroCells (Value.int .u8 0).cells (grownCap w (l.length + n) old 5 - (l.length + n))) 5)) base
        (.slice (some ⟨w.heap.size, 0, none⟩) (l.length + n) (grownCap w (l.length + n) old 5)) (l ++ List.replicate n 0) ∧
      w.grownBy (w.drew.alloc (.cells ((l.map byteV).toArray ++ Builtin.zeroCells (Value.int .u8 0).cells n ++ Builtin.zeroCells (Value.int .u8 0).cells (grownCap w (l.length + n) old 5 - (l.length + n))) 5)) row := by
    intro old ho row
    have hge := grownCap_ge w (l.length + n) old 5
    have hcm : grownCap w (l.length + n) old 5 ≤ maxLen := grownCap_le_maxLen w (l.length + n) old 5 (by unfold maxLen; omega)
    refine ⟨?_, ⟨rfl, rfl, rfl, by simp, fun k hk _ => Below.heap_alloc w.drew _ k hk⟩⟩
    unfold OwnB
    rw [List.length_append, List.length_replicate]
    refine ⟨by simp, .inr ⟨w.heap.size, _, _, rfl, hbase, heap_alloc_new w.drew _, hge, hcm, ?_, ?_⟩⟩
    · simp only [Array.size_append, size_zeroCells]
      simp [Value.cells]
      omega
    · rw [zeroCells_byte n, List.map_append]
      simp only [Array.toList_append, Nat.mul_one]
      rw [List.take_append_of_le_length (by simp), List.take_of_length_le (by simp)]
  rcases hown.2 with ⟨rfl, h0⟩ | ⟨g, cap, cur, rfl, hbg, hg, hnc, hcm, hcs, htake⟩
  · have hl : l = [] := List.eq_nil_of_length_eq_zero h0
    subst hl
    by_cases hn : n = 0
    · subst hn
      refine ⟨.slice none 0 0, w, ?_, by simpa using hown, World.grownBy.refl w _, .inl rfl⟩
      simp [Builtin.append_, run_underlying Tryd.underlying27, run_underlying Tryd.underlying3, sizeOf, typeInfo, hsz, asInt, asIntOf, hby, hw0]
    · have h48' : ¬ (281474976710656 < Builtin.nextslicecap n 0) := by rw [nextslicecap_zero (by omega)]; omega
      have h63' : ¬ (9223372036854775807 < (n : Int)) := by omega
      have hgr := grown 0 (by simp; omega) (Value.ownBlock (.slice none 0 0))
      simp only [List.length_nil, Nat.zero_add, List.map_nil, List.nil_append, Array.empty_append] at hgr ⊢
      refine ⟨_, _, ?_, hgr.1, hgr.2, .inr ⟨_, rfl, Nat.le_refl _⟩⟩
      simp [Builtin.append_, run_underlying Tryd.underlying27, run_underlying Tryd.underlying3, sizeOf, typeInfo, zeroValue, hsz, hz, asInt, asIntOf, hs, hby, hw, hneg, h48i, hn, h48', h63', Question.forced, run_firstCells_none, newRow, grownCap]
  · by_cases hroom : l.length + n ≤ cap
    · by_cases hn : n = 0
      · subst hn
        refine ⟨_, w, ?_, by simpa using hown, World.grownBy.refl w _, .inl rfl⟩
        simp [Builtin.append_, run_underlying Tryd.underlying27, run_underlying Tryd.underlying3, sizeOf, typeInfo, hsz, asInt, asIntOf, hw0, hnc, storeCells]
      have hst := run_storeCells_at Tryd.prog g l.length 5 ((List.replicate n (0 : UInt8)).map byteV) 0 cur w hg (by simp; omega) (by
        intro u hu
        obtain ⟨x, _, rfl⟩ := List.mem_map.1 hu
        rfl)
      have hsr := setRow_heap w g cur ((cur.toList.take (l.length + 0) ++ (List.replicate n (0 : UInt8)).map byteV ++ cur.toList.drop (l.length + 0 + ((List.replicate n (0 : UInt8)).map byteV).length)).toArray) _ _ hg
      have hzc : (Builtin.zeroCells (Value.int .u8 0).cells n).toList = (List.replicate n (0 : UInt8)).map byteV := by rw [zeroCells_byte]
      refine ⟨.slice (some ⟨g, 0, none⟩) (l.length + n) cap, w.setRow g ((cur.toList.take (l.length + 0) ++ (List.replicate n (0 : UInt8)).map byteV ++ cur.toList.drop (l.length + 0 + ((List.replicate n (0 : UInt8)).map byteV).length)).toArray), ?_, ?_,
        ⟨rfl, rfl, rfl, by simp, fun k _ hk => setRow_other w g k _ (fun e => hk (by simp [Value.ownBlock, e]))⟩, .inl rfl⟩
      · simp [Builtin.append_, run_underlying Tryd.underlying27, run_underlying Tryd.underlying3, sizeOf, typeInfo, zeroValue, hsz, hz, asInt, asIntOf, hs, hby, hw, hneg, h48i, hn, hroom, Addr.add_lit, hzc, -List.map_replicate]
        rw [hst]
        simp [-List.map_replicate]
      · unfold OwnB
        rw [List.length_append, List.length_replicate]
        refine ⟨by simp, .inr ⟨g, cap, _, rfl, hbg, hsr, hroom, hcm, ?_, ?_⟩⟩
        · simp; omega
        · rw [Nat.mul_one] at htake
          rw [Nat.add_zero, htake, List.map_append, Nat.mul_one]
          rw [List.take_append_of_le_length (by simp), List.take_of_length_le (by simp)]
    · have hlo : (l.map byteV).length = l.length * i.size := by rw [hs]; simp
      have hfo := run_firstCells_some (P := Tryd.prog) w.drew i.size l.length ⟨g, 0, none⟩ l.length cap (l.map byteV) hlo (by simpa using hown.cells (g := g) rfl)
      have hgr := grown cap (by omega) (Value.ownBlock (.slice (some ⟨g, 0, none⟩) l.length cap))
      have hn : n ≠ 0 := by omega
      have h63' : ¬ (9223372036854775807 < ((l.length : Int) + (n : Int))) := by omega
      have h48' : ¬ (281474976710656 < Builtin.nextslicecap (l.length + n) cap) := by
        have := growslice_fits (need := l.length + n) (old := cap) (bytes := 1) (by omega) (by omega)
        omega
      refine ⟨_, _, ?_, hgr.1, hgr.2, .inr ⟨_, rfl, Nat.le_refl _⟩⟩
      simp [Builtin.append_, run_underlying Tryd.underlying27, run_underlying Tryd.underlying3, sizeOf, typeInfo, zeroValue, hsz, hz, asInt, asIntOf, hs, hby, hw, hneg, h48i, hn, hroom, h63', h48', Question.forced, newRow, grownCap]
      rw [hs] at hfo
      simp [hfo]
section
variable {o : Oper} {a : Act} {K : Act → World → Prop} {Q : Exit → Act → World → Prop} {w : World} {base : Nat} {v : Value} {l : List UInt8}
theorem wp_appAt (s x : Operand) (ho : o.op = .call { callee := .builtin .append, args := #[s, x], argTypes := #[27, 27] }) (hs : a.eval s = v) (hown : OwnB w base v l)
    {A : Option Addr} {m c : Nat} {k : List UInt8} (hx : a.eval x = .slice A m c) (hb : Bytes w w.heap.size A m k) (hlen : l.length + m ≤ 140737488355328) (hbase : base ≤ w.heap.size)
    (h : ∀ v' w', OwnB w' base v' (l ++ k) → w.grownBy w' v.ownBlock → NewOb w v.ownBlock v'.ownBlock → K (a.put o.dst v') w') : o.wp Tryd.prog a w K Q := by
  obtain ⟨v', w', hr, h2, h3, h4⟩ := app_run_at o.type hown c hb hlen hbase
  unfold Oper.wp execOp
  simp only [ho, resolve, invoke, builtin, Sem.run_bind, Sem.run_pure, Result.andThen_ok, List.map_toArray, List.map_cons, List.map_nil, hs, hx, hr]
  exact h v' w' h2 h3 h4
theorem wp_zerosAt (s x : Operand) (ho : o.op = .call { callee := .builtin .append, args := #[s, x], argTypes := #[27, 3] }) (hs : a.eval s = v) (hown : OwnB w base v l)
    (n : Nat) (hx : a.eval x = .int .i64 n) (hlen : l.length + n ≤ 140737488355328) (hbase : base ≤ w.heap.size)
    (h : ∀ v' w', OwnB w' base v' (l ++ List.replicate n 0) → w.grownBy w' v.ownBlock → NewOb w v.ownBlock v'.ownBlock → K (a.put o.dst v') w') : o.wp Tryd.prog a w K Q := by
  obtain ⟨v', w', hr, h2, h3, h4⟩ := app_zero_run o.type hown n hlen hbase
  unfold Oper.wp execOp
  simp only [ho, resolve, invoke, builtin, Sem.run_bind, Sem.run_pure, Result.andThen_ok, List.map_toArray, List.map_cons, List.map_nil, hs, hx, hr]
  exact h v' w' h2 h3 h4
theorem wpList_appAt {ops : Array Oper} {rest : List Oper} (hgd : o.guard = none) (s x : Operand) (ho : o.op = .call { callee := .builtin .append, args := #[s, x], argTypes := #[27, 27] }) (hs : a.eval s = v) (hown : OwnB w base v l)
    {A : Option Addr} {m c : Nat} {k : List UInt8} (hx : a.eval x = .slice A m c) (hb : Bytes w w.heap.size A m k) (hlen : l.length + m ≤ 140737488355328) (hbase : base ≤ w.heap.size)
    (h : ∀ v' w', OwnB w' base v' (l ++ k) → w.grownBy w' v.ownBlock → NewOb w v.ownBlock v'.ownBlock → wpList Tryd.prog ops Q rest (a.put o.dst v') w') : wpList Tryd.prog ops Q (o :: rest) a w :=
  wpList_plain hgd fun _ hK => wp_appAt s x ho hs hown hx hb hlen hbase fun v' w' h2 h3 h4 => hK _ _ (h v' w' h2 h3 h4)
theorem step_appAt {ops : Array Oper} {E : Prop} (hgd : o.guard = none) (s x : Operand) (ho : o.op = .call { callee := .builtin .append, args := #[s, x], argTypes := #[27, 27] }) (hs : a.eval s = v) (hown : OwnB w base v l)
    {A : Option Addr} {m c : Nat} {k : List UInt8} (hx : a.eval x = .slice A m c) (hb : Bytes w w.heap.size A m k) (hlen : l.length + m ≤ 140737488355328) (hbase : base ≤ w.heap.size)
    (h : ∀ v' w', OwnB w' base v' (l ++ k) → w.grownBy w' v.ownBlock → NewOb w v.ownBlock v'.ownBlock → K (a.put o.dst v') w') :
    if Region.wanted o (yielded ops a.tmps) = true then Oper.wp Tryd.prog o a w K Q else E := by
  have hw : Region.wanted o (yielded ops a.tmps) = true := by simp [Region.wanted, hgd]
  rw [if_pos hw]
  exact wp_appAt s x ho hs hown hx hb hlen hbase h
theorem step_zerosAt {ops : Array Oper} {E : Prop} (hgd : o.guard = none) (s x : Operand) (ho : o.op = .call { callee := .builtin .append, args := #[s, x], argTypes := #[27, 3] }) (hs : a.eval s = v) (hown : OwnB w base v l)
    (n : Nat) (hx : a.eval x = .int .i64 n) (hlen : l.length + n ≤ 140737488355328) (hbase : base ≤ w.heap.size)
    (h : ∀ v' w', OwnB w' base v' (l ++ List.replicate n 0) → w.grownBy w' v.ownBlock → NewOb w v.ownBlock v'.ownBlock → K (a.put o.dst v') w') :
    if Region.wanted o (yielded ops a.tmps) = true then Oper.wp Tryd.prog o a w K Q else E := by
  have hw : Region.wanted o (yielded ops a.tmps) = true := by simp [Region.wanted, hgd]
  rw [if_pos hw]
  exact wp_zerosAt s x ho hs hown n hx hlen hbase h
end
theorem Whole.at {w : World} {g : Nat} {t : TypeId} {cs : Array Value} (h : Whole w g t cs) (i : Nat) {u : Value} (hu : cs[i]? = some u) : w.cell? ⟨g, i, none⟩ = some u := (h.cell i).trans hu
theorem Whole.ownGrown {w w' : World} {g : Nat} {t : TypeId} {cs : Array Value} {ob : Option Nat} (h : Whole w g t cs) (hG : w.grownBy w' ob) (ho : ob ≠ some g) : Whole w' g t cs := (hG.block g h.lt (fun e => ho e.symm)).trans h
/-- A value of one cell stored into a block that is known whole. -/
theorem wpList_storeC {ops : Array Oper} {rest : List Oper} {o : Oper} {a : Act} {w : World} {Q : Exit → Act → World → Prop} (hgd : o.guard = none) (ty : TypeId) (x y : Operand) (ho : o.op = .store ty x y)
    {g i : Nat} {t : TypeId} {cs : Array Value} (cs' : Array Value) {u : Value} (hx : a.eval x = .pointer (some ⟨g, i, none⟩)) (hy : a.eval y = u) (hw : Whole w g t cs) (hi : i < cs.size)
    (hs : (Tryd.prog.info? ty).map (·.size) = some 1) (h1 : u.oneCell' = true) (hcells : u.cells = #[u]) (hcs : cs.setIfInBounds i u = cs')
    (h : ∀ w', Whole w' g t cs' → w.grownBy w' (some g) → wpList Tryd.prog ops Q rest (a.put o.dst undef) w') : wpList Tryd.prog ops Q (o :: rest) a w := by
  subst hcs
  refine wpList_plain hgd fun _ hK => ?_
  have hst := run_storeCells_at Tryd.prog g i t [u] 0 cs w hw (by simp; omega) (fun x hx => by simp at hx; subst hx; exact h1)
  unfold Oper.wp execOp
  cases hq : Tryd.prog.info? ty with
  | none => simp [hq] at hs
  | some d =>
    have hs' : d.size = 1 := by simpa [hq] using hs
    have hr : (storeVar ty ⟨g, i, none⟩ u).run Tryd.prog w = .ok () (w.setRow g (cs.toList.take (i + 0) ++ [u] ++ cs.toList.drop (i + 0 + [u].length)).toArray) := by
      simp only [storeVar, sizeOf, typeInfo, hcells]
      simpa [hq, hs'] using hst
    simp only [ho, hx, hy, Instr.storeAt, Instr.sureAddr, Sem.run_bind, Sem.run_pure, Result.andThen_ok, hr]
    refine hK _ _ (h _ ?_ ⟨rfl, rfl, rfl, by simp, fun k _ hk => setRow_other w g k _ (fun e => hk (by simp [e]))⟩)
    have e : (cs.toList.take (i + 0) ++ [u] ++ cs.toList.drop (i + 0 + [u].length)).toArray = cs.setIfInBounds i u := by
      apply Array.ext'
      rw [Array.toList_setIfInBounds, List.set_eq_take_append_cons_drop, if_pos (by simpa using hi)]
      simp
    rw [e]
    exact setRow_heap w g cs _ _ _ hw
/-- 'min' of two numbers, with its value named. -/
theorem wpList_min {ops : Array Oper} {rest : List Oper} {o : Oper} {a : Act} {w : World} {Q : Exit → Act → World → Prop} (hgd : o.guard = none) (x y : Operand) {ts : Array TypeId} (ho : o.op = .call { callee := .builtin .min, args := #[x, y], argTypes := ts })
    {p q r : Int} {k : IntKind} (hx : a.eval x = .int k p) (hy : a.eval y = .int k q) (hr : (if q < p then q else p) = r) (h : wpList Tryd.prog ops Q rest (a.put o.dst (.int k r)) w) : wpList Tryd.prog ops Q (o :: rest) a w := by
  subst hr
  refine wpList_plain hgd fun _ hK => ?_
  unfold Oper.wp execOp
  simp only [ho, resolve, invoke, builtin, Sem.run_bind, Sem.run_pure, Result.andThen_ok, List.map_toArray, List.map_cons, List.map_nil, hx, hy, run_min_int2]
  exact hK _ _ h
/-- The world is as it was, but for what was drawn. -/
def Qt (w w' : World) : Prop := ∃ m, w' = w.drewN m
theorem Qt.refl (w : World) : Qt w w := ⟨0, rfl⟩
theorem Qt.drewN {a b : World} (h : Qt a b) (n : Nat) : Qt a (b.drewN n) := by
  obtain ⟨m, rfl⟩ := h
  exact ⟨m + n, World.drewN_drewN a m n⟩
theorem Qt.ext {a b : World} (h : Qt a b) : Ext a b := by
  obtain ⟨m, rfl⟩ := h
  exact (Ext.refl a).drewN m
theorem Qt.trans {a b c : World} (h : Qt a b) (k : Qt b c) : Qt a c := by
  obtain ⟨m, rfl⟩ := k
  exact h.drewN m
/-- 'b[l:h]'. -/
theorem run_mid (W : World) (a : Option Addr) (n c : Nat) (k k' : IntKind) (l h : Int) (h0 : 0 ≤ l) (h1 : l ≤ h) (h2 : h ≤ c) :
    (Instr.slice 27 (.slice a n c) (some (.int k l)) (some (.int k' h)) none).run Tryd.prog W = .ok (.slice (cutAt a c l.toNat) (h.toNat - l.toNat) (c - l.toNat)) W := by
  rw [run_slice_lh (P := Tryd.prog) (w := W) 27 a n c (by kernel_rfl) k k' l h h0 h1 h2]
  have hs : (sizeOf (Tryd.prog.elem 27)).run Tryd.prog W = .ok 1 W := by kernel_rfl
  rw [hs]
  simp [Result.andThen, sliced, cutAt]
end Go.Proofs.YtkfipfhmbhmamaaDoor

namespace Go.Proofs.YtkfipfhmbhmamaaDoor
open Go.RowKit

/-- The row of c cells. -/
def rowB (c : Nat) (f : Nat → UInt8) : List UInt8 := (List.range c).map f
theorem rowB_len (c : Nat) (f : Nat → UInt8) : (rowB c f).length = c := by simp [rowB]
theorem rowB_at {c : Nat} (f : Nat → UInt8) {j : Nat} (hj : j < c) : (rowB c f).getD j 0 = f j := by simp [rowB, List.getD_eq_getElem?_getD, hj]
theorem rowB_succ (c : Nat) (f : Nat → UInt8) : rowB (c + 1) f = rowB c f ++ [f c] := by simp [rowB, List.range_succ]
theorem rowB_congr {c : Nat} {f g : Nat → UInt8} (h : ∀ j, j < c → f j = g j) : rowB c f = rowB c g := List.map_congr_left fun j hj => h j (List.mem_range.1 hj)
theorem rowB_set {c : Nat} (f : Nat → UInt8) {j : Nat} (x : UInt8) : (rowB c f).set j x = rowB c (fun k => if k = j then x else f k) := by
  apply List.ext_getElem?
  intro i
  rw [List.getElem?_set]
  by_cases hi : i < c
  · simp only [rowB, List.length_map, List.length_range, List.getElem?_map, List.getElem?_range hi, Option.map_some]
    by_cases hij : j = i
    · subst hij
      simp [hi]
    · rw [if_neg hij, if_neg (fun e => hij e.symm)]
  · have h1 : (rowB c f)[i]? = none := List.getElem?_eq_none (by rw [rowB_len]; omega)
    have h2 : (rowB c (fun k => if k = j then x else f k))[i]? = none := List.getElem?_eq_none (by rw [rowB_len]; omega)
    rw [h1, h2]
    simp [rowB_len]
    omega
theorem rowB_drop (n : Nat) (f : Nat → UInt8) : (rowB (2 * n) f).drop n = rowB n (fun j => f (n + j)) := by
  apply List.ext_getElem?
  intro i
  rw [List.getElem?_drop]
  by_cases hi : i < n
  · simp [rowB, hi, show n + i < 2 * n by omega]
  · rw [List.getElem?_eq_none (by rw [rowB_len]; omega), List.getElem?_eq_none (by rw [rowB_len]; omega)]

theorem sl_info : (Tryd.prog.info? 27).map (fun i => (i.zero, i.size, i.bytes)) = some (some (.slice none 0 0), 1, 24) := by kernel_rfl
structure Tbl (w : World) (base : Nat) (v : Value) (n c : Nat) (R : Nat → Value) (F : Mat.M) : Prop where
  own : w.ownsRow base 27 1 v n ((List.range n).map R)
  row : ∀ i, i < n → OwnB w base (R i) (rowB c (F i))
  pos : 0 < n → 0 < c
  far : ∀ i, i < n → (R i).ownBlock ≠ v.ownBlock
  apart : ∀ i j, i < n → j < n → i ≠ j → (R i).ownBlock ≠ (R j).ownBlock

section
variable {w w' : World} {base n c : Nat} {v : Value} {R : Nat → Value} {F G : Mat.M}
theorem Tbl.bare (w : World) (base c : Nat) (R : Nat → Value) (F : Mat.M) : Tbl w base (.slice none 0 0) 0 c R F :=
  ⟨World.ownsRow_nil w base _ _, fun i hi => absurd hi (by omega), fun h => absurd h (by omega), fun i hi => absurd hi (by omega), fun i j hi => absurd hi (by omega)⟩
theorem Tbl.congr (h : Tbl w base v n c R F) (hF : ∀ i j, i < n → j < c → F i j = G i j) : Tbl w base v n c R G :=
  ⟨h.own, fun i hi => by rw [rowB_congr (g := F i) fun j hj => (hF i j hi hj).symm]; exact h.row i hi, h.pos, h.far, h.apart⟩
theorem Tbl.ext (h : Tbl w base v n c R F) (hE : Ext w w') : Tbl w' base v n c R F :=
  ⟨World.ownsRow.kept h.own (hE.grown none) (by cases hv : v.ownBlock <;> simp), fun i hi => (h.row i hi).ext hE, h.pos, h.far, h.apart⟩
/-- Where things lie. -/
theorem Tbl.form (h : Tbl w base v n c R F) (hn : 0 < n) : ∃ g k, v = .slice (some ⟨g, 0, none⟩) n k ∧ base ≤ g ∧ g < w.heap.size := by
  have hl := h.own.lt
  rcases h.own.2 with ⟨_, h0⟩ | ⟨g, cap, cur, rfl, hb, hg, hnn, hc, hs, ht⟩
  · omega
  · exact ⟨g, cap, rfl, hb, (hl g rfl).2⟩
theorem Tbl.len (h : Tbl w base v n c R F) : ∃ A k, v = .slice A n k := by
  rcases h.own.2 with ⟨rfl, rfl⟩ | ⟨g, cap, cur, rfl, hb, hg, hnn, hc, hs, ht⟩
  · exact ⟨_, _, rfl⟩
  · exact ⟨_, _, rfl⟩
theorem Tbl.rowAt {g k : Nat} (h : Tbl w base (.slice (some ⟨g, 0, none⟩) n k) n c R F) {i : Nat} (hi : i < n) :
    ∃ gi ci, R i = .slice (some ⟨gi, 0, none⟩) c ci ∧ base ≤ gi ∧ gi < w.heap.size ∧ gi ≠ g ∧ c ≤ ci ∧ w.cell? ⟨g, i, none⟩ = some (.slice (some ⟨gi, 0, none⟩) c ci) ∧ w.frozen? ⟨g, i, none⟩ = false ∧
      ∀ j, j < c → w.cell? ⟨gi, j, none⟩ = some (.int .u8 ((F i j).toNat : Int)) ∧ w.frozen? ⟨gi, j, none⟩ = false := by
  have hr := h.row i hi
  have hp := h.pos (by omega)
  obtain ⟨gi, ci, hR, hb, hci⟩ := hr.formG (by rw [rowB_len]; exact hp)
  rw [rowB_len] at hR hci
  have hlt := hr.lt gi (by rw [hR]; rfl)
  have hfar := h.far i hi
  rw [hR] at hr hfar
  refine ⟨gi, ci, hR, hb, hlt.2, fun e => hfar (by rw [e]; rfl), hci, ?_, World.ownsRow.frozenAt h.own i, fun j hj => ?_⟩
  · rw [World.ownsRow.cellAt h.own i (by omega), ← hR]
    simp [hi]
  · have := hr.cell (i := j) (by rw [rowB_len]; exact hj)
    rwa [rowB_at _ hj] at this
/-- One cell is stored. -/
theorem Tbl.put (h : Tbl w base v n c R F) {i gi ci m : Nat} (hi : i < n) (hR : R i = .slice (some ⟨gi, 0, none⟩) m ci) (j : Nat) (x : UInt8) :
    Tbl (w.setCell ⟨gi, j, none⟩ (.int .u8 (x.toNat : Int))) base v n c R (fun a b => if a = i then (if b = j then x else F a b) else F a b) := by
  have hg := grown_setCell w gi j (.int .u8 (x.toNat : Int))
  have hfar := h.far i hi
  rw [hR] at hfar
  refine ⟨World.ownsRow.kept h.own hg (.inr fun e => hfar e.symm), fun a ha => ?_, h.pos, h.far, h.apart⟩
  by_cases hai : a = i
  · subst hai
    have hr := h.row a ha
    rw [hR] at hr ⊢
    have := hr.set j x
    rw [rowB_set] at this
    simpa using this
  · have hne := h.apart a i ha hi hai
    rw [hR] at hne
    have := (h.row a ha).far (g := gi) (by simpa [Value.ownBlock] using hne) j (.int .u8 (x.toNat : Int))
    simpa [hai] using this
/-- Two rows change places. -/
theorem Tbl.swap {g k : Nat} (h : Tbl w base (.slice (some ⟨g, 0, none⟩) n k) n c R F) {i p : Nat} (hi : i < n) (hp : p < n) :
    Tbl ((w.setCell ⟨g, i, none⟩ (R p)).setCell ⟨g, p, none⟩ (R i)) base (.slice (some ⟨g, 0, none⟩) n k) n c (fun a => R (Mat.sw i p a)) (fun a => F (Mat.sw i p a)) := by
  have h1 := (World.ownsRow.stored h.own i (R p)).1
  have h2 := (World.ownsRow.stored h1 p (R i)).1
  have hsw : ∀ a, a < n → Mat.sw i p a < n := fun a ha => Mat.sw_lt hi hp ha
  refine ⟨?_, fun a ha => ?_, h.pos, fun a ha => h.far _ (hsw a ha), fun a b ha hb hab => h.apart _ _ (hsw a ha) (hsw b hb) fun e => hab (by rw [← Mat.sw_sw i p a, e, Mat.sw_sw])⟩
  · have e : (((List.range n).map R).set i (R p)).set p (R i) = (List.range n).map fun a => R (Mat.sw i p a) := by
      apply List.ext_getElem?
      intro a
      rw [List.getElem?_set, List.getElem?_set]
      by_cases ha : a < n
      · simp only [List.length_set, List.length_map, List.length_range, List.getElem?_map, List.getElem?_range ha, Option.map_some]
        unfold Mat.sw
        by_cases h1 : p = a
        · subst h1
          by_cases h2 : p = i
          · subst h2; simp [ha]
          · simp [ha, h2]
        · by_cases h2 : i = a
          · subst h2; simp [h1, ha]
          · simp [h1, h2, show ¬ a = p from fun e => h1 e.symm, show ¬ a = i from fun e => h2 e.symm]
      · simp [ha]
        rw [if_neg (by omega), if_neg (by omega)]
    rw [← e]
    exact h2
  · have hf := h.far _ (hsw a ha)
    have hk : ∀ b, (R (Mat.sw i p a)).ownBlock = some b → b ≠ g := fun b hb e => hf (by rw [hb, e]; rfl)
    exact ((h.row _ (hsw a ha)).far (g := g) (fun e => hk g e rfl) i (R p)).far (g := g) (fun e => hk g e rfl) p (R i)
/-- What was made later lies elsewhere. -/
theorem matOwn_apart {x v : Value} {H : Nat} (hx : ∃ b, x.ownBlock = some b ∧ H ≤ b) (hv : ∀ k, v.ownBlock = some k → k < H) : x.ownBlock ≠ v.ownBlock := fun e => by
  obtain ⟨b, hb, hle⟩ := hx
  have := hv b (by rw [← e, hb])
  omega
/-- A row more; w1: the world in which it is appended, x: the row. -/
theorem Tbl.push (h : Tbl w base v n c R F) (hc : 0 < c) {x v' : Value} {f : Nat → UInt8} (hx : OwnB w base x (rowB c f)) (hxv : x.ownBlock ≠ v.ownBlock) (hxr : ∀ i, i < n → (R i).ownBlock ≠ x.ownBlock)
    (hO : w'.ownsRow base 27 1 v' (n + 1) ((List.range n).map R ++ [x])) (hG : w.grownBy w' v.ownBlock) (hN : v'.ownBlock = v.ownBlock ∨ v'.ownBlock = some w.heap.size) :
    Tbl w' base v' (n + 1) c (fun a => if a = n then x else R a) (fun a => if a = n then f else F a) := by
  have hxb : ∃ b, x.ownBlock = some b ∧ b < w.heap.size := by
    obtain ⟨b, ci, hxe, _, _⟩ := hx.formG (by rw [rowB_len]; exact hc)
    have := hx.lt b (by rw [hxe]; rfl)
    exact ⟨b, by rw [hxe]; rfl, this.2⟩
  have hrb : ∀ i, i < n → ∃ b, (R i).ownBlock = some b ∧ b < w.heap.size := fun i hi => by
    obtain ⟨b, ci, hxe, _, _⟩ := (h.row i hi).formG (by rw [rowB_len]; exact hc)
    have := (h.row i hi).lt b (by rw [hxe]; rfl)
    exact ⟨b, by rw [hxe]; rfl, this.2⟩
  have hkeep : ∀ {y : Value} {l : List UInt8}, OwnB w base y l → y.ownBlock ≠ v.ownBlock → OwnB w' base y l := fun hy hne => World.ownsRow.kept hy hG (.inr hne)
  have hfar : ∀ {y : Value} {b : Nat}, y.ownBlock = some b → b < w.heap.size → y.ownBlock ≠ v.ownBlock → y.ownBlock ≠ v'.ownBlock := fun {y b} hy hb hne => by
    rcases hN with e | e
    · rw [e]; exact hne
    · rw [e, hy]
      intro e2
      injection e2 with e2
      omega
  refine ⟨?_, fun a ha => ?_, fun _ => hc, fun a ha => ?_, fun a b ha hb hab => ?_⟩
  · have e : (List.range (n + 1)).map (fun a => if a = n then x else R a) = (List.range n).map R ++ [x] := by
      rw [List.range_succ, List.map_append, List.map_cons, List.map_nil, if_pos rfl]
      congr 1
      exact List.map_congr_left fun a ha => if_neg (by have := List.mem_range.1 ha; omega)
    rw [e]
    exact hO
  · by_cases han : a = n
    · subst han
      simpa using hkeep hx hxv
    · simpa [han] using hkeep (h.row a (by omega)) (h.far a (by omega))
  · by_cases han : a = n
    · obtain ⟨b, hb, hlt⟩ := hxb
      rw [if_pos han]
      exact hfar hb hlt hxv
    · obtain ⟨b, hb, hlt⟩ := hrb a (by omega)
      rw [if_neg han]
      exact hfar hb hlt (h.far a (by omega))
  · by_cases han : a = n
    · by_cases hbn : b = n
      · omega
      · rw [if_pos han, if_neg hbn]
        exact fun e => hxr b (by omega) e.symm
    · by_cases hbn : b = n
      · rw [if_neg han, if_pos hbn]
        exact hxr a (by omega)
      · rw [if_neg han, if_neg hbn]
        exact h.apart a b (by omega) (by omega) hab
end

section
variable {o : Oper} {a : Act} {Q : Exit → Act → World → Prop} {w : World} {base n : Nat} {v : Value} {L : List Value}
/-- append of one row, whose slice lies in a block of its own. -/
theorem wpList_appSM {ops : Array Oper} {rest : List Oper} (hgd : o.guard = none) (s x : Operand) (ho : o.op = .call { callee := .builtin .append, args := #[s, x], argTypes := #[55, 55] }) (hs : a.eval s = v) {A : Option Addr} {m k : Nat}
    (hown : w.ownsRow base 27 1 v n L) {c : Nat} (hx : a.eval x = .slice (some ⟨w.heap.size, 0, none⟩) 1 c) (hlen : n ≤ 1000) (hbase : base ≤ w.heap.size)
    (h : ∀ v' w', w'.ownsRow base 27 1 v' (n + 1) (L ++ [.slice A m k]) → (w.alloc (.cells #[.slice A m k] 27)).grownBy w' v.ownBlock → (v'.ownBlock = v.ownBlock ∨ v'.ownBlock = some (w.alloc (.cells #[.slice A m k] 27)).heap.size) → wpList Tryd.prog ops Q rest (a.put o.dst v') w') :
    wpList Tryd.prog ops Q (o :: rest) a (w.alloc (.cells #[.slice A m k] 27)) := by
  obtain ⟨i, hi, hz, hsz, hby⟩ := info_parts sl_info
  have hE := extNew w (.cells #[.slice A m k] 27)
  refine wpList_append_own_at _ hgd s x 55 ho base 27 i _ 1 24 Tryd.underlying55 hi hz hsz hby rfl (by omega) v n L hs (World.ownsRow.kept hown (hE.grown none) (by cases hv : v.ownBlock <;> simp)) ⟨w.heap.size, 0, none⟩ 1 c [.slice A m k] hx rfl (by
    intro j u hu
    match j, hu with
    | 0, hu =>
      have : (⟨w.heap.size, 0, none⟩ : Addr).add 0 = ⟨w.heap.size, 0, none⟩ := rfl
      rw [this, cellNew]
      simpa using hu
    | j + 1, hu => simp at hu) (by
    intro u hu
    simp at hu
    subst hu
    rfl) (by unfold maxLen; omega) (by omega) (by simp; omega) ?_
  intro v' w' h2 h3 _ h5
  exact h v' w' h2 h3 h5
end
end Go.Proofs.YtkfipfhmbhmamaaDoor

namespace Go.Proofs.YtkfipfhmbhmamaaDoor
open Go.RowKit

theorem i64_xor_nat (a b : Nat) (ha : a < 4611686018427387904) (hb : b < 4611686018427387904) : bits .xor .i64 (a : Int) (b : Int) = ((a ^^^ b : Nat) : Int) := by
  have hx : a ^^^ b < 2 ^ 62 := Nat.xor_lt_two_pow (by omega) (by omega)
  have h1 : (BitVec.ofInt 64 (a : Int)).toNat = a := by rw [BitVec.ofInt_natCast, BitVec.toNat_ofNat]; exact Nat.mod_eq_of_lt (by omega)
  have h2 : (BitVec.ofInt 64 (b : Int)).toNat = b := by rw [BitVec.ofInt_natCast, BitVec.toNat_ofNat]; exact Nat.mod_eq_of_lt (by omega)
  show IntKind.i64.wrap ((BitVec.ofInt 64 (a : Int) ^^^ BitVec.ofInt 64 (b : Int)).toNat : Int) = _
  rw [BitVec.toNat_xor, h1, h2, IntKind.wrap_i64]
  omega
namespace Gf
theorem cl_lt (a b : Nat) (ha : a < 256) : ∀ k, cl a b k < 2 ^ (8 + k)
  | 0 => by simp [cl]
  | k + 1 => by
    rw [cl]
    have h1 : cl a b k < 2 ^ (8 + (k + 1)) := Nat.lt_of_lt_of_le (cl_lt a b ha k) (Nat.pow_le_pow_right (by decide) (by omega))
    refine Nat.xor_lt_two_pow h1 ?_
    split
    · rw [Nat.shiftLeft_eq]
      have h2 : a * 2 ^ k < 2 ^ 8 * 2 ^ k := Nat.mul_lt_mul_of_pos_right ha (Nat.two_pow_pos k)
      rw [← Nat.pow_add] at h2
      exact Nat.lt_of_lt_of_le h2 (Nat.pow_le_pow_right (by decide) (by omega))
    · exact Nat.two_pow_pos _
theorem red1_lt {k p : Nat} (hk : k ≤ 6) (hp : p < 2 ^ 16) : red1 k p < 2 ^ 16 := by
  unfold red1
  split
  · refine Nat.xor_lt_two_pow hp ?_
    rw [Nat.shiftLeft_eq]
    have h2 : 285 * 2 ^ k ≤ 285 * 2 ^ 6 := Nat.mul_le_mul_left _ (Nat.pow_le_pow_right (by decide) hk)
    omega
  · exact hp
end Gf

theorem bit_int (b k : Nat) : (((b : Int) / 2 ^ k).tmod 2 == 1) = b.testBit k := by
  have h : (b : Int) / 2 ^ k = ((b / 2 ^ k : Nat) : Int) := by simp only [Int.natCast_ediv, Int.natCast_pow]; rfl
  rw [h, Nat.testBit_eq_decide_div_mod_eq, Bool.eq_iff_iff]
  simp only [beq_iff_eq, decide_eq_true_eq]
  rw [Int.tmod_eq_emod_of_nonneg (Int.natCast_nonneg _)]
  omega
theorem xor_shift (p a k : Nat) (hp : p < 2 ^ 16) (ha : a < 512) (hk : k < 8) : bits .xor .i64 (p : Int) (wrap64 ((a : Int) * 2 ^ k)) = ((p ^^^ a <<< k : Nat) : Int) := by
  have h1 : a * 2 ^ k < 2 ^ 17 := by
    have h2 : 2 ^ k ≤ 2 ^ 7 := Nat.pow_le_pow_right (by decide) (by omega)
    have h3 : a * 2 ^ k ≤ 511 * 2 ^ 7 := Nat.mul_le_mul (by omega) h2
    omega
  have e : IntKind.i64.wrap ((a : Int) * 2 ^ k) = ((a * 2 ^ k : Nat) : Int) := by
    have : (a : Int) * 2 ^ k = ((a * 2 ^ k : Nat) : Int) := by simp only [Int.natCast_mul, Int.natCast_pow]; rfl
    rw [this, IntKind.wrap_i64]
    omega
  rw [← IntWalk.i64_left, e, i64_xor_nat _ _ (by omega) (by omega), Nat.shiftLeft_eq]

set_option maxHeartbeats 1000000 in
set_option maxRecDepth 100000 in
theorem refMul_any (a b : Nat) (w : World) (ha : a < 256) (hb : b < 256) : Calls Tryd.prog 69 #[.int .u8 a, .int .u8 b] w fun e w' => e = .returned (.int .u8 (Gf.mul a b : Nat)) ∧ w = w' := by
  have HM := hide (show Gf.mul a b = Gf.red 7 (Gf.cl a b 8) from rfl)
  have HL := hide (Gf.mul_lt ha hb)
  go_enter Tryd.func69, Tryd.ntmps69
  go_wp2
  go_loop [5, 7] (fun p i => ∃ k : Nat, k ≤ 8 ∧ i = .int .i64 (k : Int) ∧ p = .int .i64 ((Gf.cl a b k : Nat) : Int)) (fun _ i => 8 - (intOf i).toNat)
  case atStart => exact ⟨0, by omega, rfl, rfl⟩
  case round =>
    obtain ⟨k, hk, rfl, rfl⟩ := hrel
    by_cases hlt : k < 8
    · have hcl := Gf.cl_lt a b ha k
      have hcl' : Gf.cl a b k < 2 ^ 16 := Nat.lt_of_lt_of_le hcl (Nat.pow_le_pow_right (by decide) (by omega))
      have hk' : (k : Int) < 8 := by omega
      have hbit := bit_int b k
      have HX := hide (xor_shift (Gf.cl a b k) a k hcl' (by omega) hlt)
      have HC := hide (show Gf.cl a b (k + 1) = Gf.cl a b k ^^^ (if b.testBit k then a <<< k else 0) from rfl)
      clear hcl hcl'
      cases hbk : b.testBit k with
      | true =>
        rw [hbk] at hbit HC
        rw [if_pos rfl] at HC
        go_wp2
        go_round
        case rel => exact ⟨k + 1, by omega, by go_num, by rw [HC.out]; exact congrArg _ HX.out⟩
        case measure => simp [intOf]; omega
      | false =>
        rw [hbk] at hbit HC
        rw [if_neg (by simp), Nat.xor_zero] at HC
        go_wp2
        go_round
        case rel => exact ⟨k + 1, by omega, by go_num, by rw [HC.out]⟩
        case measure => simp [intOf]; omega
    · obtain rfl : k = 8 := by omega
      have hcl := Gf.cl_lt a b ha 8
      go_wp2
      go_loop [5, 8] (fun p i => ∃ j q : Nat, j ≤ 7 ∧ i = .int .i64 (((7 + j : Nat) : Int)) ∧ p = .int .i64 (q : Int) ∧ q < 2 ^ 16 ∧ Gf.red j q = Gf.mul a b) (fun _ i => (intOf i).toNat)
      case atStart => exact ⟨7, _, by omega, rfl, rfl, hcl, HM.out.symm⟩
      case round =>
        obtain ⟨j, q, hj, rfl, rfl, hq, hred⟩ := hrel
        rcases j with _ | j
        · obtain rfl : q = Gf.mul a b := hred
          have hm := HL.out
          clear hq hcl
          go_wp2
          go_ret
          exact ⟨by go_num, rfl⟩
        · have hbit := bit_int q (8 + j)
          have hi : ((7 + (j + 1) : Nat) : Int) = ((8 + j : Nat) : Int) := by omega
          rw [hi]
          have HX := hide (xor_shift q 285 j hq (by omega) (by omega))
          have HR := hide (show Gf.red (j + 1) q = Gf.red j (Gf.red1 j q) from rfl)
          have HQ := hide (Gf.red1_lt (k := j) (by omega) hq)
          have HR1 := hide (show Gf.red1 j q = (if q.testBit (8 + j) then q ^^^ 285 <<< j else q) from rfl)
          have HRed := hide hred
          clear hred hcl hq
          cases hbk : q.testBit (8 + j) with
          | true =>
            rw [hbk] at hbit HR1
            rw [if_pos rfl] at HR1
            go_wp2
            go_round
            case rel => exact ⟨j, Gf.red1 j q, by omega, by go_num, by rw [HR1.out]; exact congrArg _ HX.out, HQ.out, by rw [← HR.out]; exact HRed.out⟩
            case measure => simp [intOf]; omega
          | false =>
            rw [hbk] at hbit HR1
            rw [if_neg (by simp)] at HR1
            go_wp2
            go_round
            case rel => exact ⟨j, q, by omega, by go_num, rfl, by rw [← HR1.out]; exact HQ.out, by rw [← HR1.out, ← HR.out]; exact HRed.out⟩
            case measure => simp [intOf]; omega

/-- What the calls answer. -/
def Gf.invR (a : Nat) : Nat × Int := if a = 0 then (0, 13) else (Gf.inv a, 0)
def Gf.divR (a b : Nat) : Nat × Int := if b = 0 then (0, 13) else (Gf.mul a (Gf.inv b), 0)
/-- The least n for which 2 to the n is a. -/
def Gf.logF (a : Nat) : Nat → Nat → Nat
  | 0, n => n
  | f + 1, n => if Gf.pow 2 n = a then n else Gf.logF a f (n + 1)
def Gf.logR (a : Nat) : Nat × Int := if a = 0 then (0, 13) else (Gf.logF a 255 0, 0)
theorem Gf.inv_only {a i : Nat} (ha : a < 256) (hi : i < 256) (h0 : a ≠ 0) (h : Gf.mul a i = 1) : i = Gf.inv a := Gf.mul_cancel ha hi (Gf.inv_lt ha h0) h0 (by rw [h, Gf.mul_inv ha h0])
theorem Gf.div_only {a b i : Nat} (ha : a < 256) (hb : b < 256) (hi : i < 256) (h0 : b ≠ 0) (h : Gf.mul b i = a) : i = Gf.mul a (Gf.inv b) := by
  have hib := Gf.inv_lt hb h0
  refine Gf.mul_cancel hb hi (Gf.mul_lt ha hib) h0 ?_
  rw [h, ← Gf.mul_assoc hb ha hib, Gf.mul_comm hb ha, Gf.mul_assoc ha hb hib, Gf.mul_inv hb h0, Gf.mul_one ha]
theorem Gf.mul_div {a b : Nat} (ha : a < 256) (hb : b < 256) (h0 : b ≠ 0) : Gf.mul b (Gf.mul a (Gf.inv b)) = a := by
  have hib := Gf.inv_lt hb h0
  rw [← Gf.mul_assoc hb ha hib, Gf.mul_comm hb ha, Gf.mul_assoc ha hb hib, Gf.mul_inv hb h0, Gf.mul_one ha]
theorem Gf.logF_spec (a : Nat) : ∀ (f n m : Nat), n ≤ m → m < n + f → (∀ k, n ≤ k → k < m → Gf.pow 2 k ≠ a) → Gf.pow 2 m = a → Gf.logF a f n = m
  | 0, n, m, h1, h2, _, _ => by omega
  | f + 1, n, m, h1, h2, h3, h4 => by
    rw [Gf.logF]
    by_cases h : n = m
    · rw [if_pos (by rw [h]; exact h4), h]
    · rw [if_neg (h3 n (Nat.le_refl _) (by omega))]
      exact Gf.logF_spec a f (n + 1) m (by omega) (by omega) (fun k hk => h3 k (by omega)) h4
/-- The logarithm is the one number below 255 whose power is a. -/
theorem Gf.log_only {a m : Nat} (hm : m < 255) (h : Gf.pow 2 m = a) : Gf.logF a 255 0 = m :=
  Gf.logF_spec a 255 0 m (by omega) (by omega) (fun k _ hk hp => by have := Gf.pow2_inj (n := k) (m := m) (by omega) hm (by rw [hp, h]); omega) h
theorem Gf.pow_log {a : Nat} (ha : a < 256) (h0 : a ≠ 0) : Gf.logF a 255 0 < 255 ∧ Gf.pow 2 (Gf.logF a 255 0) = a := by
  obtain ⟨n, hn, hp⟩ := Gf.log_exists ha h0
  rw [Gf.log_only hn hp]
  exact ⟨hn, hp⟩
theorem ret_u8err {x : Nat} {e : Int} {r : Nat × Int} (h : r = (x, e)) : Ending.returned (.tuple #[.int .u8 (x : Int), .int .i64 e]) = .returned (.tuple #[.int .u8 ((r.1 : Nat) : Int), .int .i64 r.2]) := by rw [h]
theorem ret_i64err {x : Nat} {e : Int} {r : Nat × Int} (h : r = (x, e)) : Ending.returned (.tuple #[.int .i64 (x : Int), .int .i64 e]) = .returned (.tuple #[.int .i64 ((r.1 : Nat) : Int), .int .i64 r.2]) := by rw [h]
end Go.Proofs.YtkfipfhmbhmamaaDoor

namespace Go.Proofs.YtkfipfhmbhmamaaDoor
open Go.RowKit

set_option maxHeartbeats 1000000 in
set_option maxRecDepth 100000 in
theorem refInv_any (a : Nat) (w : World) (ha : a < 256) : Calls Tryd.prog 68 #[.int .u8 a] w fun e w' => e = .returned (.tuple #[.int .u8 (((Gf.invR a).1 : Nat) : Int), .int .i64 (Gf.invR a).2]) ∧ w = w' := by
  have CM := fun x (hx : x < 256) => refMul_any a x w ha hx
  have HR := hide (show Gf.invR a = if a = 0 then (0, 13) else (Gf.inv a, 0) from rfl)
  go_enter Tryd.func68, Tryd.ntmps68
  go_wp2
  go_loop [4] (fun i => ∃ k : Nat, 1 ≤ k ∧ k ≤ 256 ∧ i = .int .i64 (k : Int) ∧ ∀ j, 1 ≤ j → j < k → Gf.mul a j ≠ 1) (fun i => 256 - (intOf i).toNat)
  case atStart => exact ⟨1, by omega, by omega, rfl, fun j h1 h2 => by omega⟩
  case round =>
    obtain ⟨k, hk1, hk, rfl, hno⟩ := hrel
    by_cases hlt : k < 256
    · have C := CM k hlt
      have hk8 : IntKind.u8.wrap (k : Int) = (k : Int) := by rw [IntKind.wrap_u8']; omega
      have hml := Gf.mul_lt ha hlt
      obtain ⟨x, hx⟩ : ∃ x, x = Gf.mul a k := ⟨_, rfl⟩
      rw [← hx] at C hml
      have HX := hide hx
      have HN := hide hno
      clear hx hno
      by_cases h1 : x = 1
      · subst h1
        go_wp2_with fail
        refine C.mono ?_
        rintro e w2 ⟨rfl, rfl⟩
        go_wp2
        go_ret2
        have h0 : a ≠ 0 := fun h => by have := HX.out; rw [h, Gf.zero_mul] at this; omega
        exact ⟨ret_u8err (by rw [HR.out, if_neg h0, Gf.inv_only ha hlt h0 HX.out.symm]), rfl⟩
      · have h1' : ((x : Int) == 1) = false := by simp; omega
        have HX1 := hide h1
        clear h1
        go_wp2_with fail
        refine C.mono ?_
        rintro e w2 ⟨rfl, rfl⟩
        go_wp2
        go_round
        case rel =>
          refine ⟨k + 1, by omega, by omega, by go_num, fun j hj1 hj => ?_⟩
          by_cases hjk : j = k
          · subst hjk
            rw [← HX.out]
            exact HX1.out
          · exact HN.out j hj1 (by omega)
        case measure => simp [intOf]; omega
    · obtain rfl : k = 256 := by omega
      have h0 : a = 0 := by
        by_cases h : a = 0
        · exact h
        · have hne : Gf.inv a ≠ 0 := fun h' => by have := Gf.mul_inv ha h; rw [h', Gf.mul_zero] at this; omega
          exact absurd (Gf.mul_inv ha h) (hno _ (by omega) (Gf.inv_lt ha h))
      have H0 := hide h0
      clear hno h0
      go_wp2
      go_ret2
      exact ⟨ret_u8err (by rw [HR.out, if_pos H0.out]), rfl⟩
end Go.Proofs.YtkfipfhmbhmamaaDoor

namespace Go.Proofs.YtkfipfhmbhmamaaDoor
open Go.RowKit

/-- A byte that a number becomes. -/
theorem byte_of {z : Int} {y : Nat} (h : z = (y : Int)) (hy : y < 256) : z = ((UInt8.ofNat y).toNat : Int) := by rw [h, Num.ofNat_low y hy]

theorem ret_u64 {a b : Int} (h : a = b) : Ending.returned (.int .u64 a) = .returned (.int .u64 b) := by rw [h]
end Go.Proofs.YtkfipfhmbhmamaaDoor

namespace Go.Proofs.YtkfipfhmbhmamaaDoor
open Go.RowKit

namespace Num
def fixErr (x : Nat) (n : Int) : Int := if 1 ≤ n ∧ n ≤ 8 ∧ x < 256 ^ n.toNat then 0 else 13
def fixBytes (x : Nat) (n : Int) : List UInt8 := if 1 ≤ n ∧ n ≤ 8 ∧ x < 256 ^ n.toNat then fix n.toNat x else []
end Num
theorem ret_verr' {v : Value} {a b : Int} (h : a = b) : Ending.returned (.tuple #[v, .int .i64 a]) = .returned (.tuple #[v, .int .i64 b]) := by rw [h]
/-- Behind a call that makes bytes and tells an error. -/
def MadeE (w : World) (l : List UInt8) (err : Int) (e : Ending) (w' : World) : Prop := ∃ v, e = .returned (.tuple #[v, .int .i64 err]) ∧ OwnB w' w.heap.size v l ∧ Ext w w'

end Go.Proofs.YtkfipfhmbhmamaaDoor

namespace Go.Proofs.YtkfipfhmbhmamaaDoor
open Go.RowKit

theorem wpOper_putC {op : Oper} {a : Act} {w : World} {K : Act → World → Prop} {Q : Exit → Act → World → Prop} (ty : TypeId) (x y : Operand) (ho : op.op = .store ty x y)
    {g i : Nat} {t : TypeId} {cs : Array Value} (cs' : Array Value) {u : Value} (hx : a.eval x = .pointer (some ⟨g, i, none⟩)) (hy : a.eval y = u) (hw : Whole w g t cs) (hi : i < cs.size)
    (hs : (Tryd.prog.info? ty).map (·.size) = some 1) (h1 : u.oneCell' = true) (hcells : u.cells = #[u]) (hcs : cs.setIfInBounds i u = cs')
    (h : ∀ w', Whole w' g t cs' → w.grownBy w' (some g) → K (a.put op.dst undef) w') : Oper.wp Tryd.prog op a w K Q := by
  subst hcs
  have hf := hw.frozen i
  have hc : w.cell? ⟨g, i, none⟩ = some (cs[i]) := hw.at i (Array.getElem?_eq_getElem hi)
  unfold Oper.wp execOp
  cases hq : Tryd.prog.info? ty with
  | none => simp [hq] at hs
  | some d =>
    have hs' : d.size = 1 := by simpa [hq] using hs
    have ht : w.there g i 1 := fun j hj => by
      obtain rfl : j = 0 := by omega
      exact ⟨by rw [Nat.add_zero, hc]; rfl, by rw [Nat.add_zero]; exact hf⟩
    have hr : (storeVar ty ⟨g, i, none⟩ u).run Tryd.prog w = .ok () (w.setCells g i [u]) := by
      have := run_storeCells_cells (P := Tryd.prog) g i [u] 0 w (fun j hj => by simpa using (ht j (by simpa using hj)).1) (fun j hj => by simpa using (ht j (by simpa using hj)).2) (fun v hv => by simp at hv; subst hv; exact h1)
      simp only [storeVar, sizeOf, typeInfo, hcells]
      simpa [hq, hs'] using this
    simp only [ho, hx, hy, Instr.storeAt, Instr.sureAddr, Sem.run_bind, Sem.run_pure, Result.andThen_ok, hr]
    exact h _ (hw.set i u) (grown_setCell w g i u)
end Go.Proofs.YtkfipfhmbhmamaaDoor

namespace Go.Proofs.YtkfipfhmbhmamaaDoor
open Go.RowKit

/-- Bytes of the call's own lie in no block of another kind. -/
theorem OwnB.notKind {w : World} {base b : Nat} {v : Value} {l : List UInt8} {t : TypeId} {cs : Array Value} (h : OwnB w base v l) (hb : Whole w b t cs) (ht : t ≠ 5) : v.ownBlock ≠ some b := by
  intro e
  rcases h.2 with ⟨rfl, _⟩ | ⟨g', cap, cur, rfl, _, hg, _⟩
  · simp [Value.ownBlock] at e
  · simp only [Value.ownBlock, Option.some.injEq] at e
    subst e
    unfold Whole at hb
    rw [hb] at hg
    simp only [Option.some.injEq, Obj.cells.injEq] at hg
    exact ht hg.2.1
end Go.Proofs.YtkfipfhmbhmamaaDoor

