/- Worlds that differ in one block and one row at most; append and stores, told with where what they make lies. Contracts of the document's numbers: Num, Fixed, Zig, Zag, scan. Contracts of the document's numbers: Fixed, scan, Text. The contract of the document's Text; append of a string's bytes. Contracts of the program's numbers: Zig, Zag, Num, Text. The contract of the program's Fixed. The contract of the example that every law of chapter 3 asks first. The program's cursor: what its block and its row hold. The library's sort.Search. Are two rows of bytes the same? Bytes as strings. Texts as values: a text, lists of texts that came in or are the call's own. A text cut at its top. Regions that draw their order, where one call stands behind all that is read: what is asked of the world holds till that call, not behind it. Regions that draw their order: an operation that asks nothing of the world may be taken at any time. The program's dictionary of chapter 16: below, Len, At, seek. Texts of the call's own lie in no block of another kind. Three slices of bytes of the call's own, side by side. Lists of texts of the dictionary's own kind: append, copy; two such lists side by side. The document's functions of chapter 16: Find, Begins, Range, Alike. -/
import Derived.Test.YtmaddohfkfnnhaaB01
import Derived.Lib.AppendStr
import Derived.Laws.OwnMore
import Derived.Maps.AppendAt
import Derived.OrdersHeld
import Derived.StillTail
import Derived.RegionTactic
import Derived.BigQuiet
import Derived.Deep.QuietTactic
import Derived.Lib.SliceRun
import Derived.OwnWalk
namespace Go.Proofs.Ytmaddohfkfnnhaa
open Go.RowKit

theorem ret_i64 {a b : Int} (h : a = b) : Ending.returned (.int .i64 a) = .returned (.int .i64 b) := by rw [h]
/-- Everything that was there is there as it was, but block g and block ob. -/
structure Mod (w w' : World) (g : Nat) (ob : Option Nat) : Prop where
  os : w'.os = w.os
  tape : w'.tape = w.tape
  output : w'.output = w.output
  size : w.heap.size ≤ w'.heap.size
  block : ∀ k, k < w.heap.size → k ≠ g → some k ≠ ob → w'.heap[k]? = w.heap[k]?
/-- The own block is the one that it was, or was made since. -/
def NewOb (w : World) (ob ob' : Option Nat) : Prop := ob' = ob ∨ ∃ n, ob' = some n ∧ w.heap.size ≤ n
theorem NewOb.same (w : World) (ob : Option Nat) : NewOb w ob ob := .inl rfl
theorem NewOb.trans {a b : World} {o1 o2 o3 : Option Nat} (h : NewOb a o1 o2) (hs : a.heap.size ≤ b.heap.size) (k : NewOb b o2 o3) : NewOb a o1 o3 := by
  rcases k with rfl | ⟨n, rfl, hn⟩
  · exact h
  · exact .inr ⟨n, rfl, by omega⟩
theorem NewOb.ne {w : World} {ob ob' : Option Nat} (h : NewOb w ob ob') {g : Nat} (hg : g < w.heap.size) (ho : ob ≠ some g) : ob' ≠ some g := by
  rcases h with rfl | ⟨n, rfl, hn⟩
  · exact ho
  · intro e
    injection e with e
    omega
theorem NewOb.le {w : World} {ob ob' : Option Nat} (h : NewOb w ob ob') {b : Nat} (hb : b ≤ w.heap.size) (ho : ∀ k, ob = some k → b ≤ k) : ∀ k, ob' = some k → b ≤ k := by
  rcases h with rfl | ⟨n, rfl, hn⟩
  · exact ho
  · intro k e
    injection e with e
    omega
section
variable {a b c w w' : World} {g : Nat} {ob ob' : Option Nat}
theorem Mod.refl (w : World) (g : Nat) (ob : Option Nat) : Mod w w g ob := ⟨rfl, rfl, rfl, Nat.le_refl _, fun _ _ _ _ => rfl⟩
theorem Mod.trans (h : Mod a b g ob) (k : Mod b c g ob') (ho : NewOb a ob ob') : Mod a c g ob :=
  ⟨k.os.trans h.os, k.tape.trans h.tape, k.output.trans h.output, Nat.le_trans h.size k.size, fun i hi hg hb =>
    (k.block i (Nat.lt_of_lt_of_le hi h.size) hg (fun e => ho.ne hi (fun e' => hb e'.symm) e.symm)).trans (h.block i hi hg hb)⟩
theorem Mod.ofRow (h : w.grownBy w' (some g)) : Mod w w' g ob := ⟨h.os, h.tape, h.output, h.size, fun k hk hg _ => h.block k hk (fun e => hg (by injection e))⟩
theorem Mod.ofOwn (h : w.grownBy w' ob) : Mod w w' g ob := ⟨h.os, h.tape, h.output, h.size, fun k hk _ ho => h.block k hk ho⟩
theorem Mod.ofExt (h : Ext w w') : Mod w w' g ob := ⟨h.os, h.tape, h.output, h.size, fun k hk _ _ => h.block k hk⟩
theorem Mod.drew (w : World) : Mod w w.drew g ob := Mod.ofExt (Ext.refl w).drew
theorem Mod.below (h : Mod a b g ob) {B : Nat} (hB : B ≤ a.heap.size) (hg : B ≤ g) (ho : ∀ k, ob = some k → B ≤ k) : Below B a b :=
  ⟨h.os, h.tape, h.output, h.size, fun k hk => h.block k (by omega) (by omega) (fun e => by have := ho k e.symm; omega)⟩
theorem Mod.whole (h : Mod w w' g ob) {x : Nat} {t : TypeId} {cs : Array Value} (hw : Whole w x t cs) (hg : x ≠ g) (ho : ob ≠ some x) : Whole w' x t cs := (h.block x hw.lt hg (fun e => ho e.symm)).trans hw
theorem Mod.own (h : Mod w w' g ob) {base : Nat} {v : Value} {l : List UInt8} (hv : OwnB w base v l) (hg : v.ownBlock ≠ some g) (ho : v.ownBlock = none ∨ v.ownBlock ≠ ob) : OwnB w' base v l := by
  refine ⟨hv.1, ?_⟩
  rcases hv.2 with hn | ⟨x, cap, cur, rfl, hb, hgg, rest⟩
  · exact .inl hn
  · refine .inr ⟨x, cap, cur, rfl, hb, ?_, rest⟩
    rw [h.block x (Array.getElem?_eq_some_iff.1 hgg).1 (by intro e; subst e; simp [Value.ownBlock] at hg) (by
      intro e
      rcases ho with ho | ho
      · simp [Value.ownBlock] at ho
      · exact ho (by simpa [Value.ownBlock] using e))]
    exact hgg
theorem Mod.cell (h : Mod w w' g ob) {x i : Nat} (hx : x < w.heap.size) (hg : x ≠ g) (ho : ob ≠ some x) : w'.cell? ⟨x, i, none⟩ = w.cell? ⟨x, i, none⟩ :=
  World.cell?_of_block (a := ⟨x, i, none⟩) (h.block x hx hg (fun e => ho e.symm))
end
theorem OwnB.newOb {w : World} {base : Nat} {v : Value} {l : List UInt8} (h : OwnB w base v l) : ∀ k, v.ownBlock = some k → base ≤ k := fun k hk => (h.lt k hk).1
theorem OwnB.ltOb {w : World} {base : Nat} {v : Value} {l : List UInt8} (h : OwnB w base v l) : ∀ k, v.ownBlock = some k → k < w.heap.size := fun k hk => (h.lt k hk).2
theorem OwnB.far {w : World} {base g : Nat} {v : Value} {l : List UInt8} (h : OwnB w base v l) (hg : v.ownBlock ≠ some g) (i : Nat) (u : Value) : OwnB (w.setCell ⟨g, i, none⟩ u) base v l :=
  (Mod.ofRow (ob := none) (show w.grownBy (w.setCell ⟨g, i, none⟩ u) (some g) from ⟨rfl, rfl, rfl, by simp, fun k _ hk => Below.heap_setCell w ⟨g, i, none⟩ u k (fun e => hk (by rw [e]))⟩)).own h hg (by cases v.ownBlock <;> simp)
theorem grown_setCell (w : World) (g i : Nat) (u : Value) : w.grownBy (w.setCell ⟨g, i, none⟩ u) (some g) := ⟨rfl, rfl, rfl, by simp, fun k _ hk => Below.heap_setCell w ⟨g, i, none⟩ u k (fun e => hk (by rw [e]))⟩

/-- append of bytes, wherever they lie; where what comes back lies. -/
theorem app_run_at {w : World} (ty : TypeId) {base : Nat} {v : Value} {l : List UInt8} (hown : OwnB w base v l) {A : Option Addr} {m : Nat} {k : List UInt8} (c : Nat) (hb : Bytes w w.heap.size A m k)
    (hlen : l.length + m ≤ 140737488355328) (hbase : base ≤ w.heap.size) :
    ∃ v' w', (Builtin.append_ #[25, 25] ty #[v, .slice A m c]).run Try.prog w = .ok v' w' ∧ OwnB w' base v' (l ++ k) ∧ w.grownBy w' v.ownBlock ∧ NewOb w v.ownBlock v'.ownBlock := by
  obtain ⟨hk, hb⟩ := hb
  rcases hb with rfl | ⟨b, off, rfl, hB, hc⟩
  · obtain rfl := List.eq_nil_of_length_eq_zero hk
    exact ⟨v, w, run_append_zero w ty base v l hown A c, by simpa using hown, World.grownBy.refl w _, .inl rfl⟩
  · obtain ⟨i, hi, hz, hs, hby⟩ := info_parts byte_info
    obtain ⟨v', w', hr, h2, h3, _, h5⟩ := run_append_own_at (P := Try.prog) w base 25 ty 5 i _ 1 1 Try.underlying25 hi hz hs hby rfl (by omega) v l.length (l.map byteV) hown
      ⟨b, off, none⟩ m c (k.map byteV) (by simpa using hk) (by
        intro j u hu
        have hj : j < m := by
          rcases Nat.lt_or_ge j m with h | h
          · exact h
          · rw [List.getElem?_eq_none (by simp; omega)] at hu; cases hu
        have hadd : (⟨b, off, none⟩ : Addr).add j = ⟨b, off + j, none⟩ := by unfold Addr.add; split <;> simp_all
        rw [hadd, hc j hj]
        rw [List.getElem?_map, List.getElem?_eq_getElem (by omega)] at hu
        rw [List.getD_eq_getElem?_getD, List.getElem?_eq_getElem (by omega)]
        simpa [byteV] using hu) (by
        intro u hu
        obtain ⟨x, _, rfl⟩ := List.mem_map.1 hu
        rfl) (by unfold maxLen; omega) (by omega) hbase
    refine ⟨v', w', hr, ?_, h3, h5.imp id fun h => ⟨_, h, Nat.le_refl _⟩⟩
    unfold OwnB
    rw [List.length_append, hk, List.map_append]
    exact h2
theorem zeroCells_byte (n : Nat) : Builtin.zeroCells (Value.int .u8 0).cells n = ((List.replicate n (0 : UInt8)).map byteV).toArray := by
  apply Array.ext
  · rw [size_zeroCells]; simp [Value.cells]
  · intro i h1 h2
    simp [Builtin.zeroCells, Value.cells, byteV, Nat.mod_one]
/-- append of n bytes 0. -/
theorem app_zero_run {w : World} (ty : TypeId) {base : Nat} {v : Value} {l : List UInt8} (hown : OwnB w base v l) (n : Nat) (hlen : l.length + n ≤ 140737488355328) (hbase : base ≤ w.heap.size) :
    ∃ v' w', (Builtin.append_ #[25, 3] ty #[v, .int .i64 n]).run Try.prog w = .ok v' w' ∧ OwnB w' base v' (l ++ List.replicate n 0) ∧ w.grownBy w' v.ownBlock ∧ NewOb w v.ownBlock v'.ownBlock := by
  obtain ⟨i, hi, hz, hs, hby⟩ := info_parts byte_info
  have hw : IntKind.i64.wrap (n : Int) = n := by rw [IntKind.wrap_i64]; omega
  have hneg : ¬ ((n : Int) < 0) := by omega
  have hw0 : IntKind.i64.wrap 0 = 0 := by rw [IntKind.wrap_i64]; omega
  have h48i : ¬ (281474976710656 < (n : Int)) := by omega
  have hsz : Try.prog.info? 5 = some i := hi
  -- what the growing arm leaves
  have grown : ∀ (old : Nat), old < l.length + n → ∀ (row : Option Nat),
      OwnB (w.drew.alloc (.cells ((l.map byteV).toArray ++ Builtin.zeroCells (Value.int .u8 0).cells n ++ Builtin.zeroCells (Value.int .u8 0).cells (grownCap w (l.length + n) old 5 - (l.length + n))) 5)) base
        (.slice (some ⟨w.heap.size, 0, none⟩) (l.length + n) (grownCap w (l.length + n) old 5)) (l ++ List.replicate n 0) ∧
      w.grownBy (w.drew.alloc (.cells ((l.map byteV).toArray ++ Builtin.zeroCells (Value.int .u8 0).cells n ++ Builtin.zeroCells (Value.int .u8 0).cells (grownCap w (l.length + n) old 5 - (l.length + n))) 5)) row := by
    intro old ho row
    have hge := grownCap_ge w (l.length + n) old 5
    have hcm : grownCap w (l.length + n) old 5 ≤ maxLen := grownCap_le_maxLen w (l.length + n) old 5 (by unfold maxLen; omega)
    refine ⟨?_, ⟨rfl, rfl, rfl, by simp, fun k hk _ => Below.heap_alloc w.drew _ k hk⟩⟩
    unfold OwnB
    rw [List.length_append, List.length_replicate]
    refine ⟨by simp, .inr ⟨w.heap.size, _, _, rfl, hbase, heap_alloc_new w.drew _, hge, hcm, ?_, ?_⟩⟩
    · simp only [Array.size_append, size_zeroCells]
      simp [Value.cells]
      omega
    · rw [zeroCells_byte n, List.map_append]
      simp only [Array.toList_append, Nat.mul_one]
      rw [List.take_append_of_le_length (by simp), List.take_of_length_le (by simp)]
  rcases hown.2 with ⟨rfl, h0⟩ | ⟨g, cap, cur, rfl, hbg, hg, hnc, hcm, hcs, htake⟩
  · have hl : l = [] := List.eq_nil_of_length_eq_zero h0
    subst hl
    by_cases hn : n = 0
    · subst hn
      refine ⟨.slice none 0 0, w, ?_, by simpa using hown, World.grownBy.refl w _, .inl rfl⟩
      simp [Builtin.append_, run_underlying Try.underlying25, run_underlying Try.underlying3, sizeOf, typeInfo, hsz, asInt, asIntOf, hby, hw0]
    · have h48' : ¬ (281474976710656 < Builtin.nextslicecap n 0) := by rw [nextslicecap_zero (by omega)]; omega
      have h63' : ¬ (9223372036854775807 < (n : Int)) := by omega
      have hgr := grown 0 (by simp; omega) (Value.ownBlock (.slice none 0 0))
      simp only [List.length_nil, Nat.zero_add, List.map_nil, List.nil_append, Array.empty_append] at hgr ⊢
      refine ⟨_, _, ?_, hgr.1, hgr.2, .inr ⟨_, rfl, Nat.le_refl _⟩⟩
      simp [Builtin.append_, run_underlying Try.underlying25, run_underlying Try.underlying3, sizeOf, typeInfo, zeroValue, hsz, hz, asInt, asIntOf, hs, hby, hw, hneg, h48i, hn, h48', h63', Question.forced, run_firstCells_none, newRow, grownCap]
  · by_cases hroom : l.length + n ≤ cap
    · by_cases hn : n = 0
      · subst hn
        refine ⟨_, w, ?_, by simpa using hown, World.grownBy.refl w _, .inl rfl⟩
        simp [Builtin.append_, run_underlying Try.underlying25, run_underlying Try.underlying3, sizeOf, typeInfo, hsz, asInt, asIntOf, hw0, hnc, storeCells]
      have hst := run_storeCells_at Try.prog g l.length 5 ((List.replicate n (0 : UInt8)).map byteV) 0 cur w hg (by simp; omega) (by
        intro u hu
        obtain ⟨x, _, rfl⟩ := List.mem_map.1 hu
        rfl)
      have hsr := setRow_heap w g cur ((cur.toList.take (l.length + 0) ++ (List.replicate n (0 : UInt8)).map byteV ++ cur.toList.drop (l.length + 0 + ((List.replicate n (0 : UInt8)).map byteV).length)).toArray) _ _ hg
      have hzc : (Builtin.zeroCells (Value.int .u8 0).cells n).toList = (List.replicate n (0 : UInt8)).map byteV := by rw [zeroCells_byte]
      refine ⟨.slice (some ⟨g, 0, none⟩) (l.length + n) cap, w.setRow g ((cur.toList.take (l.length + 0) ++ (List.replicate n (0 : UInt8)).map byteV ++ cur.toList.drop (l.length + 0 + ((List.replicate n (0 : UInt8)).map byteV).length)).toArray), ?_, ?_,
        ⟨rfl, rfl, rfl, by simp, fun k _ hk => setRow_other w g k _ (fun e => hk (by simp [Value.ownBlock, e]))⟩, .inl rfl⟩
      · simp [Builtin.append_, run_underlying Try.underlying25, run_underlying Try.underlying3, sizeOf, typeInfo, zeroValue, hsz, hz, asInt, asIntOf, hs, hby, hw, hneg, h48i, hn, hroom, Addr.add_lit, hzc, -List.map_replicate]
        rw [hst]
        simp [-List.map_replicate]
      · unfold OwnB
        rw [List.length_append, List.length_replicate]
        refine ⟨by simp, .inr ⟨g, cap, _, rfl, hbg, hsr, hroom, hcm, ?_, ?_⟩⟩
        · simp; omega
        · rw [Nat.mul_one] at htake
          rw [Nat.add_zero, htake, List.map_append, Nat.mul_one]
          rw [List.take_append_of_le_length (by simp), List.take_of_length_le (by simp)]
    · have hlo : (l.map byteV).length = l.length * i.size := by rw [hs]; simp
      have hfo := run_firstCells_some (P := Try.prog) w.drew i.size l.length ⟨g, 0, none⟩ l.length cap (l.map byteV) hlo (by simpa using hown.cells (g := g) rfl)
      have hgr := grown cap (by omega) (Value.ownBlock (.slice (some ⟨g, 0, none⟩) l.length cap))
      have hn : n ≠ 0 := by omega
      have h63' : ¬ (9223372036854775807 < ((l.length : Int) + (n : Int))) := by omega
      have h48' : ¬ (281474976710656 < Builtin.nextslicecap (l.length + n) cap) := by
        have := growslice_fits (need := l.length + n) (old := cap) (bytes := 1) (by omega) (by omega)
        omega
      refine ⟨_, _, ?_, hgr.1, hgr.2, .inr ⟨_, rfl, Nat.le_refl _⟩⟩
      simp [Builtin.append_, run_underlying Try.underlying25, run_underlying Try.underlying3, sizeOf, typeInfo, zeroValue, hsz, hz, asInt, asIntOf, hs, hby, hw, hneg, h48i, hn, hroom, h63', h48', Question.forced, newRow, grownCap]
      rw [hs] at hfo
      simp [hfo]
section
variable {o : Oper} {a : Act} {K : Act → World → Prop} {Q : Exit → Act → World → Prop} {w : World} {base : Nat} {v : Value} {l : List UInt8}
theorem wp_appAt (s x : Operand) (ho : o.op = .call { callee := .builtin .append, args := #[s, x], argTypes := #[25, 25] }) (hs : a.eval s = v) (hown : OwnB w base v l)
    {A : Option Addr} {m c : Nat} {k : List UInt8} (hx : a.eval x = .slice A m c) (hb : Bytes w w.heap.size A m k) (hlen : l.length + m ≤ 140737488355328) (hbase : base ≤ w.heap.size)
    (h : ∀ v' w', OwnB w' base v' (l ++ k) → w.grownBy w' v.ownBlock → NewOb w v.ownBlock v'.ownBlock → K (a.put o.dst v') w') : o.wp Try.prog a w K Q := by
  obtain ⟨v', w', hr, h2, h3, h4⟩ := app_run_at o.type hown c hb hlen hbase
  unfold Oper.wp execOp
  simp only [ho, resolve, invoke, builtin, Sem.run_bind, Sem.run_pure, Result.andThen_ok, List.map_toArray, List.map_cons, List.map_nil, hs, hx, hr]
  exact h v' w' h2 h3 h4
theorem wp_zerosAt (s x : Operand) (ho : o.op = .call { callee := .builtin .append, args := #[s, x], argTypes := #[25, 3] }) (hs : a.eval s = v) (hown : OwnB w base v l)
    (n : Nat) (hx : a.eval x = .int .i64 n) (hlen : l.length + n ≤ 140737488355328) (hbase : base ≤ w.heap.size)
    (h : ∀ v' w', OwnB w' base v' (l ++ List.replicate n 0) → w.grownBy w' v.ownBlock → NewOb w v.ownBlock v'.ownBlock → K (a.put o.dst v') w') : o.wp Try.prog a w K Q := by
  obtain ⟨v', w', hr, h2, h3, h4⟩ := app_zero_run o.type hown n hlen hbase
  unfold Oper.wp execOp
  simp only [ho, resolve, invoke, builtin, Sem.run_bind, Sem.run_pure, Result.andThen_ok, List.map_toArray, List.map_cons, List.map_nil, hs, hx, hr]
  exact h v' w' h2 h3 h4
theorem wpList_appAt {ops : Array Oper} {rest : List Oper} (hgd : o.guard = none) (s x : Operand) (ho : o.op = .call { callee := .builtin .append, args := #[s, x], argTypes := #[25, 25] }) (hs : a.eval s = v) (hown : OwnB w base v l)
    {A : Option Addr} {m c : Nat} {k : List UInt8} (hx : a.eval x = .slice A m c) (hb : Bytes w w.heap.size A m k) (hlen : l.length + m ≤ 140737488355328) (hbase : base ≤ w.heap.size)
    (h : ∀ v' w', OwnB w' base v' (l ++ k) → w.grownBy w' v.ownBlock → NewOb w v.ownBlock v'.ownBlock → wpList Try.prog ops Q rest (a.put o.dst v') w') : wpList Try.prog ops Q (o :: rest) a w :=
  wpList_plain hgd fun _ hK => wp_appAt s x ho hs hown hx hb hlen hbase fun v' w' h2 h3 h4 => hK _ _ (h v' w' h2 h3 h4)
theorem step_appAt {ops : Array Oper} {E : Prop} (hgd : o.guard = none) (s x : Operand) (ho : o.op = .call { callee := .builtin .append, args := #[s, x], argTypes := #[25, 25] }) (hs : a.eval s = v) (hown : OwnB w base v l)
    {A : Option Addr} {m c : Nat} {k : List UInt8} (hx : a.eval x = .slice A m c) (hb : Bytes w w.heap.size A m k) (hlen : l.length + m ≤ 140737488355328) (hbase : base ≤ w.heap.size)
    (h : ∀ v' w', OwnB w' base v' (l ++ k) → w.grownBy w' v.ownBlock → NewOb w v.ownBlock v'.ownBlock → K (a.put o.dst v') w') :
    if Region.wanted o (yielded ops a.tmps) = true then Oper.wp Try.prog o a w K Q else E := by
  have hw : Region.wanted o (yielded ops a.tmps) = true := by simp [Region.wanted, hgd]
  rw [if_pos hw]
  exact wp_appAt s x ho hs hown hx hb hlen hbase h
theorem step_zerosAt {ops : Array Oper} {E : Prop} (hgd : o.guard = none) (s x : Operand) (ho : o.op = .call { callee := .builtin .append, args := #[s, x], argTypes := #[25, 3] }) (hs : a.eval s = v) (hown : OwnB w base v l)
    (n : Nat) (hx : a.eval x = .int .i64 n) (hlen : l.length + n ≤ 140737488355328) (hbase : base ≤ w.heap.size)
    (h : ∀ v' w', OwnB w' base v' (l ++ List.replicate n 0) → w.grownBy w' v.ownBlock → NewOb w v.ownBlock v'.ownBlock → K (a.put o.dst v') w') :
    if Region.wanted o (yielded ops a.tmps) = true then Oper.wp Try.prog o a w K Q else E := by
  have hw : Region.wanted o (yielded ops a.tmps) = true := by simp [Region.wanted, hgd]
  rw [if_pos hw]
  exact wp_zerosAt s x ho hs hown n hx hlen hbase h
end
theorem Whole.at {w : World} {g : Nat} {t : TypeId} {cs : Array Value} (h : Whole w g t cs) (i : Nat) {u : Value} (hu : cs[i]? = some u) : w.cell? ⟨g, i, none⟩ = some u := (h.cell i).trans hu
theorem Whole.ownGrown {w w' : World} {g : Nat} {t : TypeId} {cs : Array Value} {ob : Option Nat} (h : Whole w g t cs) (hG : w.grownBy w' ob) (ho : ob ≠ some g) : Whole w' g t cs := (hG.block g h.lt (fun e => ho e.symm)).trans h
/-- A value of one cell stored into a block that is known whole. -/
theorem wpList_storeC {ops : Array Oper} {rest : List Oper} {o : Oper} {a : Act} {w : World} {Q : Exit → Act → World → Prop} (hgd : o.guard = none) (ty : TypeId) (x y : Operand) (ho : o.op = .store ty x y)
    {g i : Nat} {t : TypeId} {cs : Array Value} (cs' : Array Value) {u : Value} (hx : a.eval x = .pointer (some ⟨g, i, none⟩)) (hy : a.eval y = u) (hw : Whole w g t cs) (hi : i < cs.size)
    (hs : (Try.prog.info? ty).map (·.size) = some 1) (h1 : u.oneCell' = true) (hcells : u.cells = #[u]) (hcs : cs.setIfInBounds i u = cs')
    (h : ∀ w', Whole w' g t cs' → w.grownBy w' (some g) → wpList Try.prog ops Q rest (a.put o.dst undef) w') : wpList Try.prog ops Q (o :: rest) a w := by
  subst hcs
  refine wpList_plain hgd fun _ hK => ?_
  have hst := run_storeCells_at Try.prog g i t [u] 0 cs w hw (by simp; omega) (fun x hx => by simp at hx; subst hx; exact h1)
  unfold Oper.wp execOp
  cases hq : Try.prog.info? ty with
  | none => simp [hq] at hs
  | some d =>
    have hs' : d.size = 1 := by simpa [hq] using hs
    have hr : (storeVar ty ⟨g, i, none⟩ u).run Try.prog w = .ok () (w.setRow g (cs.toList.take (i + 0) ++ [u] ++ cs.toList.drop (i + 0 + [u].length)).toArray) := by
      simp only [storeVar, sizeOf, typeInfo, hcells]
      simpa [hq, hs'] using hst
    simp only [ho, hx, hy, Instr.storeAt, Instr.sureAddr, Sem.run_bind, Sem.run_pure, Result.andThen_ok, hr]
    refine hK _ _ (h _ ?_ ⟨rfl, rfl, rfl, by simp, fun k _ hk => setRow_other w g k _ (fun e => hk (by simp [e]))⟩)
    have e : (cs.toList.take (i + 0) ++ [u] ++ cs.toList.drop (i + 0 + [u].length)).toArray = cs.setIfInBounds i u := by
      apply Array.ext'
      rw [Array.toList_setIfInBounds, List.set_eq_take_append_cons_drop, if_pos (by simpa using hi)]
      simp
    rw [e]
    exact setRow_heap w g cs _ _ _ hw
/-- 'min' of two numbers, with its value named. -/
theorem wpList_min {ops : Array Oper} {rest : List Oper} {o : Oper} {a : Act} {w : World} {Q : Exit → Act → World → Prop} (hgd : o.guard = none) (x y : Operand) {ts : Array TypeId} (ho : o.op = .call { callee := .builtin .min, args := #[x, y], argTypes := ts })
    {p q r : Int} {k : IntKind} (hx : a.eval x = .int k p) (hy : a.eval y = .int k q) (hr : (if q < p then q else p) = r) (h : wpList Try.prog ops Q rest (a.put o.dst (.int k r)) w) : wpList Try.prog ops Q (o :: rest) a w := by
  subst hr
  refine wpList_plain hgd fun _ hK => ?_
  unfold Oper.wp execOp
  simp only [ho, resolve, invoke, builtin, Sem.run_bind, Sem.run_pure, Result.andThen_ok, List.map_toArray, List.map_cons, List.map_nil, hx, hy, run_min_int2]
  exact hK _ _ h
/-- The world is as it was, but for what was drawn. -/
def Qt (w w' : World) : Prop := ∃ m, w' = w.drewN m
theorem Qt.refl (w : World) : Qt w w := ⟨0, rfl⟩
theorem Qt.drewN {a b : World} (h : Qt a b) (n : Nat) : Qt a (b.drewN n) := by
  obtain ⟨m, rfl⟩ := h
  exact ⟨m + n, World.drewN_drewN a m n⟩
theorem Qt.ext {a b : World} (h : Qt a b) : Ext a b := by
  obtain ⟨m, rfl⟩ := h
  exact (Ext.refl a).drewN m
theorem Qt.trans {a b c : World} (h : Qt a b) (k : Qt b c) : Qt a c := by
  obtain ⟨m, rfl⟩ := k
  exact h.drewN m
/-- 'b[l:h]'. -/
theorem run_mid (W : World) (a : Option Addr) (n c : Nat) (k k' : IntKind) (l h : Int) (h0 : 0 ≤ l) (h1 : l ≤ h) (h2 : h ≤ c) :
    (Instr.slice 25 (.slice a n c) (some (.int k l)) (some (.int k' h)) none).run Try.prog W = .ok (.slice (cutAt a c l.toNat) (h.toNat - l.toNat) (c - l.toNat)) W := by
  rw [run_slice_lh (P := Try.prog) (w := W) 25 a n c (by kernel_rfl) k k' l h h0 h1 h2]
  have hs : (sizeOf (Try.prog.elem 25)).run Try.prog W = .ok 1 W := by kernel_rfl
  rw [hs]
  simp [Result.andThen, sliced, cutAt]
end Go.Proofs.Ytmaddohfkfnnhaa

namespace Go.Proofs.Ytmaddohfkfnnhaa
open Go.RowKit

/-- A byte that a number becomes. -/
theorem byte_of {z : Int} {y : Nat} (h : z = (y : Int)) (hy : y < 256) : z = ((UInt8.ofNat y).toNat : Int) := by rw [h, Num.ofNat_low y hy]

set_option maxHeartbeats 1000000 in
set_option maxRecDepth 100000 in
theorem refNum_any (x : Nat) (w : World) (hx : x < 18446744073709551616) : Calls Try.prog 31 #[.int .u64 x] w (MadeB w (Num.enc x)) := by
  go_enter Try.func31, Try.ntmps31
  go_wp2
  go_loopw [0, 3] (fun y v wr => ∃ (k z : Nat) (pre : List UInt8), y = .int .u64 (z : Int) ∧ z < 18446744073709551616 ∧ z < 128 ^ (10 - k) ∧ k ≤ 9 ∧ pre.length = k ∧ pre ++ Num.encF (10 - k) z = Num.enc x ∧ OwnB wr w.heap.size v pre ∧ Ext w wr) (fun y _ _ => (intOf y).toNat)
  case atStart => exact ⟨0, x, [], rfl, hx, Nat.lt_of_lt_of_le hx (by decide), by omega, rfl, rfl, OwnB.nil _ _, Ext.refl _⟩
  case round =>
    obtain ⟨k, z, pre, rfl, hz, hzk, hk, hlen, henc, hO, hE⟩ := hrel
    obtain ⟨f, hf⟩ : ∃ f, 10 - k = f + 1 := ⟨9 - k, by omega⟩
    rw [hf] at henc hzk
    have hfit : pre.length + 1 ≤ 140737488355328 := by omega
    by_cases hs : z < 128
    · rw [Num.encF_small hs] at henc
      have HE := hide henc
      have hbyte : ((z : Int) % 256) = ((UInt8.ofNat z).toNat : Int) := byte_of (by omega) (by omega)
      obtain ⟨bt, rfl⟩ : ∃ bt : UInt8, z = bt.toNat := ⟨UInt8.ofNat z, by rw [Num.ofNat_low z (by omega)]⟩
      rw [UInt8.ofNat_toNat] at HE
      have hb1 := bytesNew wr [bt] #[.int .u8 (bt.toNat : Int)] 5 (0, 0) rfl 1 rfl
      have hO1 := hO.ext (extNew wr (.cells #[.int .u8 (bt.toNat : Int)] 5))
      have hE1 := hE.trans (extNew wr (.cells #[.int .u8 (bt.toNat : Int)] 5))
      have hB1 := hE1.le
      clear henc hlen hbyte hf
      go_wp2_with (at_builtin; refine wpList_appAt rfl (.tmp 15) (.tmp 18) rfl rfl hO1 rfl hb1 hfit hB1 ?_; intro v2 w2 hO2 hG2 hN2)
      go_ret
      exact ⟨v2, rfl, by rw [← HE.out]; exact hO2, hO1.below hE1 hG2 hB1⟩
    · rw [Num.encF_big hs] at henc
      have HE := hide henc
      have hk9 : k ≤ 8 := by
        rcases Nat.lt_or_ge k 9 with h | h
        · omega
        · obtain rfl : k = 9 := by omega
          obtain rfl : f = 0 := by omega
          simp at hzk
          omega
      have HF := hide (show 10 - (k + 1) = f by omega)
      have HZ := hide (show z / 128 < 128 ^ f by rw [Nat.pow_succ] at hzk; exact Nat.div_lt_of_lt_mul (by rw [Nat.mul_comm]; exact hzk))
      obtain ⟨bt, hbt⟩ : ∃ bt : UInt8, bt = UInt8.ofNat (128 + z % 128) := ⟨_, rfl⟩
      have hbn : bt.toNat = 128 + z % 128 := by rw [hbt]; exact Num.ofNat_low _ (by omega)
      rw [← hbt] at HE
      have hbyte : (128 + (z : Int) % 128) = (bt.toNat : Int) := by omega
      have hbl := bt.toNat_lt
      have hb1 := bytesNew wr [bt] #[.int .u8 (bt.toNat : Int)] 5 (0, 0) rfl 1 rfl
      have hO1 := hO.ext (extNew wr (.cells #[.int .u8 (bt.toNat : Int)] 5))
      have hE1 := hE.trans (extNew wr (.cells #[.int .u8 (bt.toNat : Int)] 5))
      have hB1 := hE1.le
      have HLen := hide hlen
      clear henc hlen hf hbt hbn hzk
      go_wp2_with (at_builtin; refine wpList_appAt rfl (.tmp 6) (.tmp 11) rfl rfl hO1 rfl hb1 hfit hB1 ?_; intro v2 w2 hO2 hG2 hN2)
      go_roundw
      case rel =>
        refine ⟨k + 1, z / 128, pre ++ [bt], ?_, by omega, by rw [HF.out]; exact HZ.out, by omega, by simp [HLen.out], by rw [HF.out, List.append_assoc]; exact HE.out, hO2, hO1.below hE1 hG2 hB1⟩
        rw [show ((z : Int) / 128) = ((z / 128 : Nat) : Int) by omega]
      case measure => simp [intOf]; omega

theorem ret_u64 {a b : Int} (h : a = b) : Ending.returned (.int .u64 a) = .returned (.int .u64 b) := by rw [h]
end Go.Proofs.Ytmaddohfkfnnhaa

namespace Go.Proofs.Ytmaddohfkfnnhaa
open Go.RowKit

namespace Num
def fixErr (x : Nat) (n : Int) : Int := if 1 ≤ n ∧ n ≤ 8 ∧ x < 256 ^ n.toNat then 0 else 13
def fixBytes (x : Nat) (n : Int) : List UInt8 := if 1 ≤ n ∧ n ≤ 8 ∧ x < 256 ^ n.toNat then fix n.toNat x else []
end Num
theorem ret_verr' {v : Value} {a b : Int} (h : a = b) : Ending.returned (.tuple #[v, .int .i64 a]) = .returned (.tuple #[v, .int .i64 b]) := by rw [h]
/-- Behind a call that makes bytes and tells an error. -/
def MadeE (w : World) (l : List UInt8) (err : Int) (e : Ending) (w' : World) : Prop := ∃ v, e = .returned (.tuple #[v, .int .i64 err]) ∧ OwnB w' w.heap.size v l ∧ Ext w w'

end Go.Proofs.Ytmaddohfkfnnhaa

namespace Go.Proofs.Ytmaddohfkfnnhaa
open Go.RowKit

theorem strCells_bytes (s : ByteArray) : Lib.strCells s = s.data.toList.map byteV := rfl
/-- append of a string's bytes to bytes of the call's own. -/
theorem wpList_appS {ops : Array Oper} {rest : List Oper} {o : Oper} {a : Act} {Q : Exit → Act → World → Prop} {w : World} (hgd : o.guard = none) (s x : Operand) (ho : o.op = .call { callee := .builtin .append, args := #[s, x], argTypes := #[25, 9] })
    {base : Nat} {v : Value} {l : List UInt8} (hs : a.eval s = v) (hown : OwnB w base v l) {b : ByteArray} (hx : a.eval x = .string b) (hlen : l.length + b.size ≤ 140737488355328) (hbase : base ≤ w.heap.size)
    (h : ∀ v' w', OwnB w' base v' (l ++ b.data.toList) → w.grownBy w' v.ownBlock → wpList Try.prog ops Q rest (a.put o.dst v') w') : wpList Try.prog ops Q (o :: rest) a w := by
  obtain ⟨i, hi, hz, hsz, hby⟩ := info_parts byte_info
  refine Lib.wpList_append_own_string _ hgd s x 25 9 ho base 5 i Try.underlying25 Try.underlying9 hi hz hsz hby v l.length (l.map byteV) hs hown b hx (by unfold maxLen; omega) (by omega) hbase ?_
  intro v' w' h2 h3 _
  refine h v' w' ?_ h3
  unfold OwnB
  rw [List.length_append, List.map_append]
  exact h2

theorem refText_any (s : ByteArray) (w : World) (hs : s.size ≤ 1000000) : Calls Try.prog 32 #[.string s] w (MadeB w (Num.enc s.size ++ s.data.toList)) := by
  have hw : IntKind.u64.wrap (s.size : Int) = (s.size : Int) := by rw [IntKind.wrap_u64]; omega
  have hl := Num.enc_len s.size
  have hfit : (Num.enc s.size).length + s.size ≤ 140737488355328 := by omega
  have CN := refNum_any s.size w (by omega)
  generalize Num.enc s.size = E at *
  go_enter Try.func32, Try.ntmps32
  go_wp2_with (first
    | (go_at_call 31; refine CN.mono ?_; rintro e w2 ⟨v2, rfl, hO2, hE2⟩)
    | (at_builtin; refine wpList_appS rfl (.tmp 6) (.tmp 7) rfl rfl hO2 rfl hfit hE2.le ?_; intro v3 w3 hO3 hG3))
  go_ret
  exact ⟨v3, rfl, hO3, hO2.below hE2 hG3 hE2.le⟩
end Go.Proofs.Ytmaddohfkfnnhaa

namespace Go.Proofs.Ytmaddohfkfnnhaa
open Go.RowKit

theorem Num.ones_xor (s : Nat) (h : s < 2 ^ 64) : (18446744073709551615 : Nat) ^^^ s = 18446744073709551615 - s := by
  have h1 := congrArg BitVec.toNat (BitVec.allOnes_xor (x := BitVec.ofNat 64 s))
  rw [BitVec.toNat_xor, BitVec.toNat_not, BitVec.toNat_ofNat, BitVec.toNat_allOnes, Nat.mod_eq_of_lt h] at h1
  exact h1
theorem Num.zig_bits (d : Nat) (h : d < 18446744073709551616) : bits .xor .u64 (IntKind.u64.wrap ((d : Int) * 2)) (IntKind.u64.wrap (-((d : Int) / 9223372036854775808))) = ((Num.zig d : Nat) : Int) := by
  unfold Num.zig
  by_cases hd : 2 ^ 63 ≤ d
  · have e1 : IntKind.u64.wrap ((d : Int) * 2) = ((2 * d - 18446744073709551616 : Nat) : Int) := by rw [IntKind.wrap_u64]; omega
    have e2 : IntKind.u64.wrap (-((d : Int) / 9223372036854775808)) = ((18446744073709551615 : Nat) : Int) := by rw [IntKind.wrap_u64]; omega
    rw [if_pos hd, e1, e2, u64_xor_nat _ _ (by omega) (by decide), Nat.xor_comm, Num.ones_xor _ (by omega)]
    omega
  · have e1 : IntKind.u64.wrap ((d : Int) * 2) = ((2 * d : Nat) : Int) := by rw [IntKind.wrap_u64]; omega
    have e2 : IntKind.u64.wrap (-((d : Int) / 9223372036854775808)) = ((0 : Nat) : Int) := by rw [IntKind.wrap_u64]; omega
    rw [if_neg hd, e1, e2, u64_xor_nat _ _ (by omega) (by decide), Nat.xor_zero]
theorem Num.and1 (z : Nat) (h : z < 18446744073709551616) : bits .and .u64 (z : Int) 1 = ((z % 2 : Nat) : Int) := by
  rw [show (1 : Int) = ((1 : Nat) : Int) from rfl, u64_and_nat z 1 h (by omega), show 1 = 2 ^ 1 - 1 from rfl, Nat.and_two_pow_sub_one_eq_mod]
theorem Num.zag_bits (z : Nat) (h : z < 18446744073709551616) : bits .xor .u64 ((z : Int) / 2) (IntKind.u64.wrap (-(bits .and .u64 (z : Int) 1))) = ((Num.zag z : Nat) : Int) := by
  rw [Num.and1 z h]
  unfold Num.zag
  have e1 : (z : Int) / 2 = ((z / 2 : Nat) : Int) := by omega
  by_cases hd : z % 2 = 1
  · have e2 : IntKind.u64.wrap (-((z % 2 : Nat) : Int)) = ((18446744073709551615 : Nat) : Int) := by rw [IntKind.wrap_u64]; omega
    rw [if_pos hd, e1, e2, u64_xor_nat _ _ (by omega) (by decide), Nat.xor_comm, Num.ones_xor _ (by omega)]
  · have e2 : IntKind.u64.wrap (-((z % 2 : Nat) : Int)) = ((0 : Nat) : Int) := by rw [IntKind.wrap_u64]; omega
    rw [if_neg hd, e1, e2, u64_xor_nat _ _ (by omega) (by decide), Nat.xor_zero]

/-- A byte with 128 more. -/
theorem Num.or128 (z : Nat) : bits .or .u8 ((z : Int) % 256) 128 = ((128 + z % 128 : Nat) : Int) := by
  have e : (z : Int) % 256 = ((z % 256 : Nat) : Int) := by omega
  rw [e, show (128 : Int) = ((128 : Nat) : Int) from rfl, u8_or_nat _ _ (Nat.mod_lt _ (by decide)) (by decide)]
  have H : ∀ y, y < 256 → y ||| 128 = 128 + y % 128 := by decide +kernel
  rw [H _ (Nat.mod_lt z (by decide)), show z % 256 % 128 = z % 128 by omega]

set_option maxHeartbeats 1000000 in
set_option maxRecDepth 100000 in
theorem ownNum_any (x : Nat) (w : World) (hx : x < 18446744073709551616) : Calls Try.prog 27 #[.int .u64 x] w (MadeB w (Num.enc x)) := by
  go_enter Try.func27, Try.ntmps27
  go_wp2
  go_loopw [0, 3] (fun y v wr => ∃ (k z : Nat) (pre : List UInt8), y = .int .u64 (z : Int) ∧ z < 18446744073709551616 ∧ z < 128 ^ (10 - k) ∧ k ≤ 9 ∧ pre.length = k ∧ pre ++ Num.encF (10 - k) z = Num.enc x ∧ OwnB wr w.heap.size v pre ∧ Ext w wr) (fun y _ _ => (intOf y).toNat)
  case atStart => exact ⟨0, x, [], rfl, hx, Nat.lt_of_lt_of_le hx (by decide), by omega, rfl, rfl, OwnB.nil _ _, Ext.refl _⟩
  case round =>
    obtain ⟨k, z, pre, rfl, hz, hzk, hk, hlen, henc, hO, hE⟩ := hrel
    obtain ⟨f, hf⟩ : ∃ f, 10 - k = f + 1 := ⟨9 - k, by omega⟩
    rw [hf] at henc hzk
    have hfit : pre.length + 1 ≤ 140737488355328 := by omega
    by_cases hs : z < 128
    · rw [Num.encF_small hs] at henc
      have HE := hide henc
      obtain ⟨bt, rfl⟩ : ∃ bt : UInt8, z = bt.toNat := ⟨UInt8.ofNat z, by rw [Num.ofNat_low z (by omega)]⟩
      rw [UInt8.ofNat_toNat] at HE
      have hs' : ¬ (128 ≤ (bt.toNat : Int)) := by omega
      have hb1 := bytesNew wr [bt] #[.int .u8 (bt.toNat : Int)] 5 (0, 0) rfl 1 rfl
      have hO1 := hO.ext (extNew wr (.cells #[.int .u8 (bt.toNat : Int)] 5))
      have hE1 := hE.trans (extNew wr (.cells #[.int .u8 (bt.toNat : Int)] 5))
      have hB1 := hE1.le
      clear henc hlen hf
      go_wp2_with (at_builtin; refine wpList_appAt rfl (.tmp 14) (.tmp 17) rfl rfl hO1 rfl hb1 hfit hB1 ?_; intro v2 w2 hO2 hG2 hN2)
      go_ret
      exact ⟨v2, rfl, by rw [← HE.out]; exact hO2, hO1.below hE1 hG2 hB1⟩
    · rw [Num.encF_big hs] at henc
      have HE := hide henc
      have hk9 : k ≤ 8 := by
        rcases Nat.lt_or_ge k 9 with h | h
        · omega
        · obtain rfl : k = 9 := by omega
          obtain rfl : f = 0 := by omega
          simp at hzk
          omega
      have HF := hide (show 10 - (k + 1) = f by omega)
      have HZ := hide (show z / 128 < 128 ^ f by rw [Nat.pow_succ] at hzk; exact Nat.div_lt_of_lt_mul (by rw [Nat.mul_comm]; exact hzk))
      obtain ⟨bt, hbt⟩ : ∃ bt : UInt8, bt = UInt8.ofNat (128 + z % 128) := ⟨_, rfl⟩
      have hbn : bt.toNat = 128 + z % 128 := by rw [hbt]; exact Num.ofNat_low _ (by omega)
      rw [← hbt] at HE
      have hor := Num.or128 z
      rw [← hbn] at hor
      have hs' : 128 ≤ (z : Int) := by omega
      have hb1 := bytesNew wr [bt] #[.int .u8 (bt.toNat : Int)] 5 (0, 0) rfl 1 rfl
      have hO1 := hO.ext (extNew wr (.cells #[.int .u8 (bt.toNat : Int)] 5))
      have hE1 := hE.trans (extNew wr (.cells #[.int .u8 (bt.toNat : Int)] 5))
      have hB1 := hE1.le
      have HLen := hide hlen
      clear henc hlen hf hbt hbn hzk
      go_wp2_with (at_builtin; refine wpList_appAt rfl (.tmp 8) (.tmp 12) rfl rfl hO1 rfl hb1 hfit hB1 ?_; intro v2 w2 hO2 hG2 hN2)
      go_roundw
      case rel =>
        refine ⟨k + 1, z / 128, pre ++ [bt], ?_, by omega, by rw [HF.out]; exact HZ.out, by omega, by simp [HLen.out], by rw [HF.out, List.append_assoc]; exact HE.out, hO2, hO1.below hE1 hG2 hB1⟩
        rw [show ((z : Int) / 128) = ((z / 128 : Nat) : Int) by omega]
      case measure => simp [intOf]; omega

theorem ownText_any (s : ByteArray) (w : World) (hs : s.size ≤ 1000000) : Calls Try.prog 42 #[.string s] w (MadeB w (Num.enc s.size ++ s.data.toList)) := by
  have hw : IntKind.u64.wrap (s.size : Int) = (s.size : Int) := by rw [IntKind.wrap_u64]; omega
  have hl := Num.enc_len s.size
  have hfit : (Num.enc s.size).length + s.size ≤ 140737488355328 := by omega
  have CN := ownNum_any s.size w (by omega)
  generalize Num.enc s.size = E at *
  go_enter Try.func42, Try.ntmps42
  go_wp2_with (first
    | (go_at_call 27; refine CN.mono ?_; rintro e w2 ⟨v2, rfl, hO2, hE2⟩)
    | (at_builtin; refine wpList_appS rfl (.tmp 6) (.tmp 7) rfl rfl hO2 rfl hfit hE2.le ?_; intro v3 w3 hO3 hG3))
  go_ret
  exact ⟨v3, rfl, hO3, hO2.below hE2 hG3 hE2.le⟩
end Go.Proofs.Ytmaddohfkfnnhaa

namespace Go.Proofs.Ytmaddohfkfnnhaa
open Go.RowKit

theorem madeZeros (n : Nat) : (madeCells (Value.int .u8 0).cells n).toList = (List.replicate n (0 : UInt8)).map byteV := by
  have : madeCells (Value.int .u8 0).cells n = ((List.replicate n (0 : UInt8)).map byteV).toArray := by
    apply Array.ext
    · simp [size_madeCells]
    · intro i h1 h2
      simp [madeCells, Value.cells, byteV, Nat.mod_one]
  rw [this]
theorem fix_step (j k x : Nat) (h : j < k) : (Num.fix j x ++ List.replicate (k - j) (0 : UInt8)).set j (UInt8.ofNat (x / 256 ^ j % 256)) = Num.fix (j + 1) x ++ List.replicate (k - (j + 1)) 0 := by
  rw [Num.fix_snoc, List.set_append, if_neg (by rw [Num.fix_len]; omega), Num.fix_len, Nat.sub_self, show k - j = (k - (j + 1)) + 1 by omega, List.replicate_succ, List.set_cons_zero, List.append_assoc]
  rfl

end Go.Proofs.Ytmaddohfkfnnhaa

namespace Go.Proofs.Ytmaddohfkfnnhaa
open Go.RowKit

end Go.Proofs.Ytmaddohfkfnnhaa

namespace Go.Proofs.Ytmaddohfkfnnhaa
open Go.RowKit

/-- n bytes that lie in block r, which is not block g. -/
def RowIn (w : World) (g r : Nat) (A : Option Addr) (n : Nat) (l : List UInt8) : Prop :=
  l.length = n ∧ (n = 0 ∨ r ≠ g ∧ ∃ off, A = some ⟨r, off, none⟩ ∧ ∀ i, i < n → w.cell? ⟨r, off + i, none⟩ = some (.int .u8 ((l.getD i 0).toNat : Int)))
section
variable {w w' : World} {g r n c q p : Nat} {A : Option Addr} {l b : List UInt8} {e : Int} {ob : Option Nat}
theorem RowIn.bytes (h : RowIn w g r A n l) : Bytes w w.heap.size A n l := by
  refine ⟨h.1, ?_⟩
  rcases h.2 with h0 | ⟨_, off, rfl, hc⟩
  · exact .inl h0
  · rcases Nat.eq_zero_or_pos n with h0 | h0
    · exact .inl h0
    · exact .inr ⟨r, off, rfl, World.block_lt_of_cell? w ⟨r, off + 0, none⟩ (hc 0 h0), hc⟩
theorem RowIn.at (h : RowIn w g r A n l) (hb : w'.heap[r]? = w.heap[r]?) : RowIn w' g r A n l := by
  refine ⟨h.1, ?_⟩
  rcases h.2 with h0 | ⟨hg, off, rfl, hc⟩
  · exact .inl h0
  · exact .inr ⟨hg, off, rfl, fun i hi => by rw [World.cell?_of_block (a := ⟨r, off + i, none⟩) hb]; exact hc i hi⟩
theorem RowIn.mod (h : RowIn w g r A n l) (hM : Mod w w' g ob) (hr : r < w.heap.size) (ho : ob ≠ some r) : RowIn w' g r A n l := by
  by_cases hg : r = g
  · refine ⟨h.1, ?_⟩
    rcases h.2 with h0 | ⟨hn, _⟩
    · exact .inl h0
    · exact absurd hg hn
  · exact h.at (hM.block r hr hg (fun e => ho e.symm))
theorem RowIn.take (h : RowIn w g r A n l) {k : Nat} (hk : k ≤ n) : RowIn w g r A k (l.take k) := by
  refine ⟨by rw [List.length_take, h.1]; omega, ?_⟩
  rcases h.2 with h0 | ⟨hg, off, hA, hc⟩
  · exact .inl (by omega)
  · refine .inr ⟨hg, off, hA, fun i hi => ?_⟩
    rw [hc i (by omega)]
    simp [List.getD_eq_getElem?_getD, hi]
theorem RowIn.drop (h : RowIn w g r A n l) {k : Nat} (hk : k ≤ n) (hc : n ≤ c) : RowIn w g r (cutAt A c k) (n - k) (l.drop k) := by
  refine ⟨by rw [List.length_drop, h.1], ?_⟩
  by_cases hkn : k = n
  · exact .inl (by omega)
  rcases h.2 with h0 | ⟨hg, off, rfl, hcell⟩
  · exact .inl (by omega)
  · refine .inr ⟨hg, off + k, ?_, fun i hi => ?_⟩
    · simp [cutAt, show ¬ c = k by omega, Addr.add]
    · rw [Nat.add_assoc, hcell (k + i) (by omega)]
      simp [List.getD_eq_getElem?_getD]

/-- Block g is the program's cursor over the bytes b (its row lies in block r), at the place q, with the error e. -/
def PC (w : World) (g r : Nat) (b : List UInt8) (q : Nat) (e : Int) : Prop :=
  ∃ A c, Whole w g 92 #[.slice A (b.length - q) c, .int .i64 (q : Int), .int .i64 e] ∧ b.length - q ≤ c ∧ RowIn w g r A (b.length - q) (b.drop q) ∧ r < w.heap.size ∧ q ≤ b.length ∧ b.length ≤ 1000000
theorem PC.lt (h : PC w g r b q e) : g < w.heap.size := by obtain ⟨_, _, h, _⟩ := h; exact h.lt
theorem PC.rlt (h : PC w g r b q e) : r < w.heap.size := by obtain ⟨_, _, _, _, _, h, _⟩ := h; exact h
theorem PC.bounds (h : PC w g r b q e) : q ≤ b.length ∧ b.length ≤ 1000000 := by obtain ⟨_, _, _, _, _, _, h⟩ := h; exact h
theorem PC.ext (h : PC w g r b q e) (hE : Ext w w') : PC w' g r b q e := by
  obtain ⟨A, c, hW, hc, hR, hr, h⟩ := h
  exact ⟨A, c, hW.ext hE, hc, hR.at (hE.block r hr), Nat.lt_of_lt_of_le hr hE.le, h⟩
theorem PC.cells (h : PC w g r b q e) : ∃ A c, w.cell? ⟨g, 0, none⟩ = some (.slice A (b.length - q) c) ∧ w.cell? ⟨g, 1, none⟩ = some (.int .i64 (q : Int)) ∧ w.cell? ⟨g, 2, none⟩ = some (.int .i64 e) ∧
    w.frozen? ⟨g, 0, none⟩ = false ∧ w.frozen? ⟨g, 1, none⟩ = false ∧ w.frozen? ⟨g, 2, none⟩ = false ∧ b.length - q ≤ c ∧ RowIn w g r A (b.length - q) (b.drop q) := by
  obtain ⟨A, c, hW, hc, hR, _⟩ := h
  exact ⟨A, c, hW.cell 0, hW.cell 1, hW.cell 2, hW.frozen 0, hW.frozen 1, hW.frozen 2, hc, hR⟩
/-- The error is stored. -/
theorem PC.setErr {e' : Int} (h : PC w g r b q e) : PC (w.setCell ⟨g, 2, none⟩ (.int .i64 e')) g r b q e' := by
  obtain ⟨A, c, hW, hc, hR, hr, h⟩ := h
  exact ⟨A, c, hW.set 2 _, hc, hR.mod (ob := none) (Mod.ofRow (grown_setCell w g 2 _)) hr (by simp), by simpa using hr, h⟩
end

/-- A function that has a body is entered, whatever value holds it. -/
def Entered (K : Nat) : Prop := ∀ (args : Array Value) (W : World), (callFunc K args).run Try.prog W = .ok (.enter K args) W
theorem entered_of {K : Nat} {fn : Func} {c : Code} (hf : Try.prog.funcs[K]? = some fn) (hname : (fn.name == "runtime.NumGoroutine") = false) (hb : fn.body = some c) : Entered K := by
  intro args W
  have h1 : fn.name ≠ "runtime.NumGoroutine" := by simpa using hname
  simp [callFunc, hf, h1, hb]

/-- The cursor's calls go on, if there is no error so far. -/
theorem read_any {w : World} {g r q K : Nat} {b : List UInt8} {cap : Array Value} (hK : Entered K) (h : PC w g r b q 0) {R : Int → World → Prop}
    (hC : Calls Try.prog K cap w fun e' w' => ∃ er q', e' = .returned (.int .i64 er) ∧ PC w' g r b q' 0 ∧ R er w') :
    Calls Try.prog 61 #[.pointer (some ⟨g, 0, none⟩), .func (.func K) #[] cap] w fun e' w' => e' = .returned (.tuple #[]) ∧ ∃ er q' w2, PC w2 g r b q' 0 ∧ R er w2 ∧ w' = w2.setCell ⟨g, 2, none⟩ (.int .i64 er) := by
  obtain ⟨A, c, c0, c1, c2, f0, f1, f2, hc, hR⟩ := h.cells
  have hE := fun W => hK cap W
  clear h c0 c1 f0 f1 f2 hc hR
  go_enter Try.func61, Try.ntmps61
  go_wp2_with fail
  refine hC.mono ?_
  rintro e' w2 ⟨er, q', rfl, hP, hr⟩
  obtain ⟨_, _, _, _, d2, _, _, k2, _, _⟩ := hP.cells
  go_wp2
  go_end0
  exact ⟨rfl, er, q', w2, hP, hr, rfl⟩

/-- There is an error: nothing goes on. -/
theorem read_stuck {w : World} {g r q K : Nat} {b : List UInt8} {cap : Array Value} {e : Int} (h : PC w g r b q e) (he : e ≠ 0) :
    Calls Try.prog 61 #[.pointer (some ⟨g, 0, none⟩), .func (.func K) #[] cap] w fun e' w' => e' = .returned (.tuple #[]) ∧ w = w' := by
  obtain ⟨A, c, c0, c1, c2, f0, f1, f2, hc, hR⟩ := h.cells
  have he' : (e != 0) = true := by simpa using he
  clear h c0 c1 f0 f1 f2 hc hR he
  go_enter Try.func61, Try.ntmps61
  go_wp2
  refine bodyPost_ret (results_none rfl _ _ _) rfl ?_
  exact ⟨rfl, rfl⟩

/-- There is no cursor: nothing goes on. -/
theorem read_nil {w : World} {K : Nat} {cap : Array Value} :
    Calls Try.prog 61 #[.pointer none, .func (.func K) #[] cap] w fun e' w' => e' = .returned (.tuple #[]) ∧ w = w' := by
  go_enter Try.func61, Try.ntmps61
  go_wp2
  refine bodyPost_ret (results_none rfl _ _ _) rfl ?_
  exact ⟨rfl, rfl⟩
end Go.Proofs.Ytmaddohfkfnnhaa

namespace Go.Proofs.Ytmaddohfkfnnhaa
open Go.RowKit

/-- What the search tells: the first place at which the test holds. -/
def FirstTo (w : World) (n : Nat) (p : Nat → Bool) (e : Ending) (w' : World) : Prop :=
  ∃ i, i ≤ n ∧ (∀ j, j < i → p j = false) ∧ (∀ j, i ≤ j → j < n → p j = true) ∧ e = .returned (.int .i64 (i : Int)) ∧ Ext w w'

set_option maxHeartbeats 1000000 in
set_option maxRecDepth 10000 in
theorem searchC_any {K : Nat} {cap : Array Value} (hK : Entered K) (n : Nat) (p : Nat → Bool) (w : World) (hn : n ≤ 1000000) (hm : ∀ i j, i ≤ j → j < n → p i = true → p j = true)
    (hC : ∀ W j, Ext w W → j < n → Calls Try.prog K (#[.int .i64 (j : Int)] ++ cap) W fun e w' => e = .returned (.bool (p j)) ∧ Ext W w') :
    Calls Try.prog 37 #[.int .i64 (n : Int), .func (.func K) #[] cap] w (FirstTo w n p) := by
  have hEn := fun args W => hK args W
  have HC := hide hC
  have HM := hide hm
  clear hC hm
  go_enter Try.func37, Try.ntmps37
  go_wp2
  go_loopw [5, 6] (fun i j wr => ∃ a b : Nat, i = .int .i64 (a : Int) ∧ j = .int .i64 (b : Int) ∧ a ≤ b ∧ b ≤ n ∧ (∀ t, t < a → p t = false) ∧ (∀ t, b ≤ t → t < n → p t = true) ∧ Ext w wr) (fun i j _ => (intOf j).toNat - (intOf i).toNat)
  case atStart => exact ⟨0, n, rfl, rfl, by omega, Nat.le_refl _, fun t ht => absurd ht (by omega), fun t h1 h2 => by omega, Ext.refl _⟩
  case round =>
    obtain ⟨a, b, rfl, rfl, hab, hbn, h1, h2, hE⟩ := hrel
    have H1 := hide h1
    have H2 := hide h2
    have HE := hide hE
    clear h1 h2 hE
    by_cases hlt : a < b
    · have hltI : (a : Int) < (b : Int) := by omega
      obtain ⟨k, hk⟩ : ∃ k, k = (a + b) / 2 := ⟨_, rfl⟩
      have hkb : k < b := by omega
      have hak : a ≤ k := by omega
      have hkI : ((a : Int) + (b : Int)) / 2 = (k : Int) := by omega
      have hkn : k < n := by omega
      have C := HC.out _ k HE.out hkn
      clear hk
      cases hp : p k with
      | false =>
        rw [hp] at C
        have HR1 := hide (show ∀ t, t < k + 1 → p t = false from fun t ht => by
          cases ht2 : p t with
          | false => rfl
          | true =>
            have := HM.out t k (by omega) hkn ht2
            rw [hp] at this
            exact this.symm)
        clear hp
        go_wp2_with fail
        refine C.mono ?_
        rintro e w2 ⟨rfl, hE2⟩
        have HE2 := hide (HE.out.trans hE2)
        clear C hE2
        go_wp2
        go_roundw
        case rel => exact ⟨k + 1, b, by go_num, rfl, by omega, hbn, HR1.out, H2.out, HE2.out⟩
        case measure => simp [intOf]; omega
      | true =>
        rw [hp] at C
        have HR2 := hide (show ∀ t, k ≤ t → t < n → p t = true from fun t ht htn => HM.out k t ht htn hp)
        clear hp
        go_wp2_with fail
        refine C.mono ?_
        rintro e w2 ⟨rfl, hE2⟩
        have HE2 := hide (HE.out.trans hE2)
        clear C hE2
        go_wp2
        go_roundw
        case rel => exact ⟨a, k, rfl, rfl, by omega, by omega, H1.out, HR2.out, HE2.out⟩
        case measure => simp [intOf]; omega
    · obtain rfl : a = b := by omega
      have hnI : ¬ (a : Int) < (a : Int) := by omega
      go_wp2
      go_ret
      exact ⟨a, hbn, H1.out, H2.out, rfl, HE.out⟩
theorem search_any {K : Nat} {c0 c1 : Value} (hK : Entered K) (n : Nat) (p : Nat → Bool) (w : World) (hn : n ≤ 1000000) (hm : ∀ i j, i ≤ j → j < n → p i = true → p j = true)
    (hC : ∀ W j, Ext w W → j < n → Calls Try.prog K #[.int .i64 (j : Int), c0, c1] W fun e w' => e = .returned (.bool (p j)) ∧ Ext W w') :
    Calls Try.prog 37 #[.int .i64 (n : Int), .func (.func K) #[] #[c0, c1]] w (FirstTo w n p) :=
  searchC_any hK n p w hn hm (fun W j h1 h2 => by simpa using hC W j h1 h2)
/-- Of nothing: 0; the test isn't called. -/
theorem searchNil_any (f : Value) (w : World) : Calls Try.prog 37 #[.int .i64 0, f] w fun e w' => e = .returned (.int .i64 0) ∧ w = w' := by
  go_enter Try.func37, Try.ntmps37
  go_wp2
  go_loopw [5, 6] (fun i j wr => i = .int .i64 0 ∧ j = .int .i64 0 ∧ wr = w) (fun _ _ _ => 0)
  case atStart => exact ⟨rfl, rfl, rfl⟩
  case round =>
    obtain ⟨rfl, rfl, rfl⟩ := hrel
    go_wp2
    go_ret
    exact ⟨rfl, rfl⟩

end Go.Proofs.Ytmaddohfkfnnhaa

namespace Go.Proofs.Ytmaddohfkfnnhaa
open Go.RowKit

def sameB (a b : List UInt8) : Bool := decide (a = b)
theorem sameB_true {a b : List UInt8} (h : a = b) : sameB a b = true := decide_eq_true h
theorem sameB_false {a b : List UInt8} (h : a ≠ b) : sameB a b = false := decide_eq_false h
end Go.Proofs.Ytmaddohfkfnnhaa

namespace Go.Proofs.Ytmaddohfkfnnhaa
open Go.RowKit

theorem conv_bytes {w : World} {B : Nat} {A : Option Addr} {n : Nat} {l : List UInt8} (c : Nat) (h : Bytes w B A n l) (hA : A = none → n = 0) :
    (convert 25 9 (.slice A n c)).run Try.prog w = .ok (.string ⟨l.toArray⟩) w := by
  obtain ⟨hl, hb⟩ := h
  rcases A with _ | ad
  · obtain rfl := hA rfl
    obtain rfl := List.eq_nil_of_length_eq_zero hl
    exact run_convert_bytes_nil w 25 5 Try.underlying25 Try.underlying5 0 c 9 Try.underlying9
  · subst hl
    refine run_convert_bytes_back w 25 9 5 ad c l Try.underlying25 Try.underlying5 Try.underlying9 fun j hj => ?_
    rcases hb with h0 | ⟨b, off, hA, _, hc⟩
    · omega
    · obtain rfl : ad = ⟨b, off, none⟩ := by injection hA
      have hadd : (⟨b, off, none⟩ : Addr).add j = ⟨b, off + j, none⟩ := by unfold Addr.add; split <;> simp_all
      rw [hadd, hc j hj, List.getD_eq_getElem?_getD, List.getElem?_eq_getElem hj]
      rfl

theorem same_beq (a b : List UInt8) : sameB a b = (a == b) := by
  by_cases h : a = b
  · rw [sameB_true h]; simp [h]
  · rw [sameB_false h]; simp [h]
end Go.Proofs.Ytmaddohfkfnnhaa

namespace Go.Proofs.Ytmaddohfkfnnhaa
open Go.RowKit

/-- A text of these bytes. -/
def txt (l : List UInt8) : Value := .string ⟨l.toArray⟩
theorem txt_of (b : ByteArray) : ∃ l : List UInt8, b = ⟨l.toArray⟩ := ⟨b.data.toList, by cases b; simp⟩
theorem txt_size (l : List UInt8) : (ByteArray.mk l.toArray).size = l.length := by simp [ByteArray.size]
theorem run_txtAt (W : World) (l : List UInt8) (k : IntKind) (i : Int) (h0 : 0 ≤ i) (h1 : i < l.length) : (Instr.index 9 (.string ⟨l.toArray⟩) (.int k i)).run Try.prog W = .ok (.int .u8 ((l.getD i.toNat 0).toNat : Int)) W := by
  rw [run_index_string (P := Try.prog) W 9 _ k i Try.underlying9, dif_pos ⟨h0, by rw [txt_size]; exact h1⟩]
  have h : i.toNat < l.length := by omega
  simp [List.getD_eq_getElem?_getD, h]
  rfl
theorem run_txtLen (W : World) (l : List UInt8) (ty : TypeId) : (Builtin.len_ #[9] ty #[.string ⟨l.toArray⟩]).run Try.prog W = .ok (.int .i64 (l.length : Int)) W := by
  rw [run_len_string (P := Try.prog) W 9 ty _ Try.underlying9, txt_size]
  rfl
theorem run_txtCut (W : World) (l : List UInt8) (k : IntKind) (i : Int) (h0 : 0 ≤ i) (h1 : i ≤ l.length) : (Instr.slice 9 (.string ⟨l.toArray⟩) (some (.int k i)) none none).run Try.prog W = .ok (.string ⟨(l.drop i.toNat).toArray⟩) W := by
  rw [run_slice_string_l (P := Try.prog) W 9 _ Try.underlying9 k i h0 (by rw [txt_size]; exact h1)]
  congr 2
  apply ByteArray.ext
  rw [ByteArray.data_extract, txt_size]
  show l.toArray.extract i.toNat l.length = (l.drop i.toNat).toArray
  rw [List.extract_toArray, List.extract_eq_take_drop, List.take_of_length_le (by simp)]
/-- A slice that reads as these texts. -/
def TextsAt (w : World) (B : Nat) (A : Option Addr) (n : Nat) (L : List (List UInt8)) : Prop :=
  L.length = n ∧ (n = 0 ∨ ∃ b off, A = some ⟨b, off, none⟩ ∧ b < B ∧ ∀ i, i < n → w.cell? ⟨b, off + i, none⟩ = some (.string ⟨(L.getD i []).toArray⟩))
theorem TextsAt.below {w w' : World} {B C : Nat} {A : Option Addr} {n : Nat} {L : List (List UInt8)} (h : TextsAt w B A n L) (hb : Below C w w') (hC : B ≤ C) : TextsAt w' B A n L := by
  refine ⟨h.1, ?_⟩
  rcases h.2 with h0 | ⟨b, off, hA, hB, hc⟩
  · exact .inl h0
  · exact .inr ⟨b, off, hA, hB, fun i hi => by rw [hb.cell (p := ⟨b, off + i, none⟩) (Nat.lt_of_lt_of_le hB hC)]; exact hc i hi⟩
theorem TextsAt.later {w w' : World} {A : Option Addr} {n : Nat} {L : List (List UInt8)} (h : TextsAt w w.heap.size A n L) (hE : Ext w w') : TextsAt w' w'.heap.size A n L := by
  refine ⟨h.1, ?_⟩
  rcases h.2 with h0 | ⟨b, off, hA, hB, hc⟩
  · exact .inl h0
  · exact .inr ⟨b, off, hA, Nat.lt_of_lt_of_le hB hE.le, fun i hi => by rw [hE.cell hB]; exact hc i hi⟩
theorem TextsAt.cut {w : World} {B n : Nat} {A : Option Addr} {r : List (List UInt8)} (h : TextsAt w B A n r) {k c : Nat} (hk : k ≤ n) (hc : n ≤ c) : TextsAt w B (cutAt A c k) (n - k) (r.drop k) := by
  refine ⟨by rw [List.length_drop, h.1], ?_⟩
  by_cases hkn : k = n
  · exact .inl (by omega)
  rcases h.2 with h0 | ⟨b, off, rfl, hB, hcell⟩
  · exact .inl (by omega)
  · refine .inr ⟨b, off + k, ?_, hB, fun i hi => ?_⟩
    · simp [cutAt, show ¬ c = k by omega, Addr.add]
    · rw [Nat.add_assoc, hcell (k + i) (by omega)]
      simp [List.getD_eq_getElem?_getD]
theorem TextsAt.top {w : World} {B n : Nat} {A : Option Addr} {r : List (List UInt8)} (h : TextsAt w B A n r) {k : Nat} (hk : k ≤ n) : TextsAt w B A k (r.take k) := by
  refine ⟨by rw [List.length_take, h.1]; omega, ?_⟩
  rcases h.2 with h0 | ⟨b, off, hA, hB, hc⟩
  · exact .inl (by omega)
  · refine .inr ⟨b, off, hA, hB, fun i hi => ?_⟩
    rw [hc i (by omega)]
    simp [List.getD_eq_getElem?_getD, hi]
theorem textsNew (w : World) (L : List (List UInt8)) (cs : Array Value) (t : TypeId) (fr : Nat × Nat) (h : cs = (L.map txt).toArray) (n : Nat) (hn : L.length = n) :
    TextsAt (w.alloc (.cells cs t fr)) (w.alloc (.cells cs t fr)).heap.size (some ⟨w.heap.size, 0, none⟩) n L := by
  subst h
  subst hn
  refine ⟨rfl, .inr ⟨w.heap.size, 0, rfl, by simp, fun i hi => ?_⟩⟩
  rw [Nat.zero_add, World.cell?_alloc_mark]
  simp [hi, txt]
theorem run_cutTx (W : World) (a : Option Addr) (n c : Nat) (k : IntKind) (l : Int) (h0 : 0 ≤ l) (h1 : l ≤ n) :
    (Instr.slice 22 (.slice a n c) (some (.int k l)) none none).run Try.prog W = .ok (.slice (cutAt a c l.toNat) (n - l.toNat) (c - l.toNat)) W := by
  rw [run_slice_l (P := Try.prog) (w := W) 22 a n c (by kernel_rfl) k l h0 h1]
  have hs : (sizeOf (Try.prog.elem 22)).run Try.prog W = .ok 1 W := by kernel_rfl
  rw [hs]
  simp [Result.andThen, sliced, cutAt]
theorem run_topTx (W : World) (a : Option Addr) (n c : Nat) (k : IntKind) (h : Int) (h0 : 0 ≤ h) (h2 : h ≤ c) :
    (Instr.slice 22 (.slice a n c) none (some (.int k h)) none).run Try.prog W = .ok (.slice a h.toNat c) W := by
  rw [run_slice_h (P := Try.prog) (w := W) 22 a n c (by kernel_rfl) k h h0 h2]
  have hs : (sizeOf (Try.prog.elem 22)).run Try.prog W = .ok 1 W := by kernel_rfl
  rw [hs]
  rcases a with _ | ⟨b, o, s⟩ <;> simp [Result.andThen, sliced, Addr.add]

/-- v is nil, or lies in a block of the call's own, and reads as these texts. -/
def OwnTx (w : World) (base : Nat) (v : Value) (L : List (List UInt8)) : Prop := w.ownsRow base 9 1 v L.length (L.map txt)
theorem text_info : (Try.prog.info? 9).map (fun i => (i.zero, i.size, i.bytes)) = some (some (.string ⟨#[]⟩), 1, 16) := by kernel_rfl
theorem OwnTx.nil (w : World) (base : Nat) : OwnTx w base (.slice none 0 0) [] := World.ownsRow_nil w base _ _
theorem OwnTx.ext {w w' : World} {base : Nat} {v : Value} {L : List (List UInt8)} (h : OwnTx w base v L) (hE : Ext w w') : OwnTx w' base v L :=
  World.ownsRow.kept h (hE.grown none) (by cases hv : v.ownBlock <;> simp)
theorem OwnTx.lt {w : World} {base : Nat} {v : Value} {L : List (List UInt8)} (h : OwnTx w base v L) : ∀ k, v.ownBlock = some k → base ≤ k ∧ k < w.heap.size := World.ownsRow.lt h
theorem OwnTx.form {w : World} {base : Nat} {v : Value} {L : List (List UInt8)} (h : OwnTx w base v L) : ∃ A c, v = .slice A L.length c ∧ L.length ≤ c ∧ c ≤ maxLen ∧ TextsAt w w.heap.size A L.length L := by
  have hl := h.lt
  rcases h.2 with ⟨rfl, h0⟩ | ⟨g, cap, cur, rfl, hb, hg, hn, hc, hs, ht⟩
  · exact ⟨none, 0, by rw [h0], by omega, by unfold maxLen; omega, rfl, .inl h0⟩
  · refine ⟨_, cap, rfl, hn, hc, rfl, .inr ⟨g, 0, rfl, (hl g rfl).2, fun i hi => ?_⟩⟩
    have hk := World.ownsRow.cellAt h i (by omega)
    rw [Nat.zero_add, hk]
    simp [hi, txt]
theorem appTx_run {w : World} (ty : TypeId) {base : Nat} {v : Value} {L : List (List UInt8)} (hown : OwnTx w base v L) {A : Option Addr} {m : Nat} (c : Nat) {k : List (List UInt8)} (hI : TextsAt w w.heap.size A m k) (hlen : L.length + m ≤ 2000000) (hbase : base ≤ w.heap.size) :
    ∃ v' w', (Builtin.append_ #[22, 22] ty #[v, .slice A m c]).run Try.prog w = .ok v' w' ∧ OwnTx w' base v' (L ++ k) ∧ w.grownBy w' v.ownBlock ∧ NewOb w v.ownBlock v'.ownBlock := by
  obtain ⟨i, hi, hz, hs, hby⟩ := info_parts text_info
  rcases hI.2 with h0 | ⟨b, off, rfl, hb, hc⟩
  · subst h0
    have hk : k = [] := List.eq_nil_of_length_eq_zero hI.1
    subst hk
    refine ⟨v, w, ?_, by simpa using hown, World.grownBy.refl w _, .inl rfl⟩
    rcases hown.2 with ⟨rfl, _⟩ | ⟨g, cap, cur, rfl, _, _, hnc, _⟩
    · cases A <;> simp [Builtin.append_, run_underlying Try.underlying22, sizeOf, typeInfo, hi, Builtin.lenOf, Builtin.firstCells, loadCells, loadCellsFrom]
    · cases A <;> simp [Builtin.append_, run_underlying Try.underlying22, sizeOf, typeInfo, hi, Builtin.lenOf, Builtin.firstCells, loadCells, loadCellsFrom, hnc, storeCells]
  · have hkl := hI.1
    obtain ⟨v', w', hr, h2, h3, _, h5⟩ := run_append_own_at (P := Try.prog) w base 22 ty 9 i _ 1 16 Try.underlying22 hi hz hs hby rfl (by omega) v L.length (L.map txt) hown
      ⟨b, off, none⟩ m c (k.map txt) (by simp [hkl]) (by
        intro j u hu
        have hj : j < m := by
          rcases Nat.lt_or_ge j m with h | h
          · exact h
          · rw [List.getElem?_eq_none (by rw [List.length_map]; omega)] at hu; cases hu
        have e : (⟨b, off, none⟩ : Addr).add j = ⟨b, off + j, none⟩ := by unfold Addr.add; split <;> simp_all
        rw [e, hc j hj]
        rw [List.getElem?_map, List.getElem?_eq_getElem (by omega)] at hu
        simp [List.getD_eq_getElem?_getD, show j < k.length by omega, txt] at hu ⊢
        exact hu) (by
        intro u hu
        obtain ⟨z, _, rfl⟩ := List.mem_map.1 hu
        rfl) (by unfold maxLen; omega) (by omega) hbase
    refine ⟨v', w', hr, ?_, h3, h5.imp id fun h => ⟨_, h, Nat.le_refl _⟩⟩
    unfold OwnTx
    rw [List.length_append, List.map_append, hkl]
    exact h2
theorem wpList_appTx {ops : Array Oper} {rest : List Oper} {o : Oper} {a : Act} {Q : Exit → Act → World → Prop} {w : World} {base : Nat} {v : Value} {L : List (List UInt8)} (hgd : o.guard = none) (s x : Operand) (ho : o.op = .call { callee := .builtin .append, args := #[s, x], argTypes := #[22, 22] }) (hs : a.eval s = v)
    (hown : OwnTx w base v L) {A : Option Addr} {m c : Nat} {k : List (List UInt8)} (hx : a.eval x = .slice A m c) (hI : TextsAt w w.heap.size A m k) (hlen : L.length + m ≤ 2000000) (hbase : base ≤ w.heap.size)
    (h : ∀ v' w', OwnTx w' base v' (L ++ k) → w.grownBy w' v.ownBlock → NewOb w v.ownBlock v'.ownBlock → wpList Try.prog ops Q rest (a.put o.dst v') w') : wpList Try.prog ops Q (o :: rest) a w := by
  refine wpList_plain hgd fun _ hK => ?_
  obtain ⟨v', w', hr, h2, h3, h4⟩ := appTx_run o.type hown c hI hlen hbase
  unfold Oper.wp execOp
  simp only [ho, resolve, invoke, builtin, Sem.run_bind, Sem.run_pure, Result.andThen_ok, List.map_toArray, List.map_cons, List.map_nil, hs, hx, hr]
  exact hK _ _ (h v' w' h2 h3 h4)
/-- append of one text, which lies in a block of its own, the world told by what there was. -/
theorem wpList_litTx {ops : Array Oper} {rest : List Oper} {o : Oper} {a : Act} {Q : Exit → Act → World → Prop} (hgd : o.guard = none) (s x : Operand) (ho : o.op = .call { callee := .builtin .append, args := #[s, x], argTypes := #[22, 22] }) {w0 w : World} {v : Value} {L : List (List UInt8)}
    (hE : Ext w0 w) (hO : OwnTx w w0.heap.size v L) (hs : a.eval s = v) (p : List UInt8) {c : Nat} (hx : a.eval x = .slice (some ⟨w.heap.size, 0, none⟩) 1 c) (hlen : L.length ≤ 1000000)
    (h : ∀ v' w', OwnTx w' w0.heap.size v' (L ++ [p]) → Ext w0 w' → wpList Try.prog ops Q rest (a.put o.dst v') w') : wpList Try.prog ops Q (o :: rest) a (w.alloc (.cells #[.string ⟨p.toArray⟩] 9)) :=
  wpList_appTx hgd s x ho hs (hO.ext (extNew w _)) hx (textsNew w [p] _ _ (0, 0) rfl 1 rfl) (by omega) (Nat.le_trans hE.le (extNew w _).le) fun v' w' h1 h2 _ => h v' w' h1 (Below.grown (hE.alloc _) h2 (by rw [World.size_alloc]; have := hE.le; omega) (fun k hk => (hO.lt k hk).1))
/-- A list of texts is told. -/
def MadeTx (w : World) (l : List (List UInt8)) (e : Ending) (w' : World) : Prop := ∃ A c, e = .returned (.slice A l.length c) ∧ l.length ≤ c ∧ c ≤ maxLen ∧ TextsAt w' w'.heap.size A l.length l ∧ Ext w w'
end Go.Proofs.Ytmaddohfkfnnhaa

namespace Go.Proofs.Ytmaddohfkfnnhaa
open Go.RowKit

theorem run_txtTop (W : World) (l : List UInt8) (k : IntKind) (i : Int) (h0 : 0 ≤ i) (h1 : i ≤ l.length) : (Instr.slice 9 (.string ⟨l.toArray⟩) none (some (.int k i)) none).run Try.prog W = .ok (.string ⟨(l.take i.toNat).toArray⟩) W := by
  rw [run_slice_string_h (P := Try.prog) W 9 _ Try.underlying9 k i h0 (by rw [txt_size]; exact h1)]
  congr 2
  apply ByteArray.ext
  rw [ByteArray.data_extract]
  show l.toArray.extract 0 i.toNat = (l.take i.toNat).toArray
  rw [List.extract_toArray, List.extract_eq_take_drop]
  simp
end Go.Proofs.Ytmaddohfkfnnhaa

namespace Go.Proofs.Ytmaddohfkfnnhaa
open Go.RowKit

/-- Whatever has come up, what it waits for has come up too. -/
def ShutUp (md : Region.Mode) (ops : Array Oper) (listed : Array Bool) : Prop := ∀ j oj, ops[j]? = some oj → listed.getD j false = true → ∀ e ∈ oj.after, Region.binds md e = true → listed.getD e.on false = true
def shutUpB (md : Region.Mode) (ops : Array Oper) (listed : Array Bool) : Bool :=
  (List.range ops.size).all fun j => !listed.getD j false || match ops[j]? with
    | some oj => oj.after.all fun e => !Region.binds md e || listed.getD e.on false
    | none => true
theorem shutUp_of {md : Region.Mode} {ops : Array Oper} {listed : Array Bool} (h : shutUpB md ops listed = true) : ShutUp md ops listed := by
  intro j oj hj hl e he hb
  have hlt := (Array.getElem?_eq_some_iff.1 hj).1
  unfold shutUpB at h
  rw [List.all_eq_true] at h
  have h1 := h j (List.mem_range.2 hlt)
  rw [hl, hj] at h1
  simp only [Bool.not_true, Bool.false_or, Array.all_eq_true_iff_forall_mem] at h1
  have h2 := h1 e he
  rw [hb] at h2
  simpa using h2
theorem ShutUp.set {md : Region.Mode} {ops : Array Oper} {listed : Array Bool} (h : ShutUp md ops listed) {j : Nat} (hj : j ∈ Region.ready md ops listed) : ShutUp md ops (listed.setIfInBounds j true) := by
  intro k ok hk hl e he hb
  by_cases hkj : j = k
  · subst hkj
    obtain ⟨_, o, ho, hall⟩ := mem_ready.1 hj
    obtain rfl : ok = o := Option.some.inj (hk.symm.trans ho)
    exact getD_set_true (hall e he hb)
  · rw [getD_set_ne false hkj] at hl
    exact getD_set_true (h k ok hk hl e he hb)
/-- i comes up ahead of n in every order. -/
def aheadB (md : Region.Mode) (ops : Array Oper) (n : Nat) : Nat → Nat → Bool
  | 0, i => Region.waitsFor md ops n i
  | f + 1, i => Region.waitsFor md ops n i || (List.range ops.size).any fun k => Region.waitsFor md ops k i && aheadB md ops n f k
theorem ShutUp.waits {md : Region.Mode} {ops : Array Oper} {listed : Array Bool} (h : ShutUp md ops listed) {j i : Nat} (hw : Region.waitsFor md ops j i = true) (hj : listed.getD j false = true) : listed.getD i false = true := by
  obtain ⟨oj, hoj, e, he, hb, rfl⟩ := Region.waitsFor_spec hw
  exact h j oj hoj hj e he hb
theorem ShutUp.ahead {md : Region.Mode} {ops : Array Oper} {listed : Array Bool} (h : ShutUp md ops listed) {n : Nat} (hn : listed.getD n false = true) : ∀ (f i : Nat), aheadB md ops n f i = true → listed.getD i false = true
  | 0, i, ha => h.waits ha hn
  | f + 1, i, ha => by
    unfold aheadB at ha
    rw [Bool.or_eq_true, List.any_eq_true] at ha
    rcases ha with ha | ⟨k, _, ha⟩
    · exact h.waits ha hn
    · rw [Bool.and_eq_true] at ha
      exact h.waits ha.1 (h.ahead hn f k ha.2)

section
variable {P : Program} {ops : Array Oper} {Q : Exit → Act → World → Prop} {md : Region.Mode} {S : World → Prop} {n : Nat}
/-- Whatever order is picked from here on; S holds till number n comes up. -/
def wpAnyT (P : Program) (md : Region.Mode) (ops : Array Oper) (Q : Exit → Act → World → Prop) (S : World → Prop) (n : Nat) : Nat → Array Bool → Act → World → Prop
  | 0, listed, a, w => Region.ready md ops listed = [] ∧ Q .normal a w
  | fuel + 1, listed, a, w =>
    (Region.ready md ops listed = [] → Q .normal a w) ∧
    ∀ i ∈ Region.ready md ops listed, wpOp P ops Q i (fun a' w' => ((listed.setIfInBounds i true).getD n false = false → S w') ∧ wpAnyT P md ops Q S n fuel (listed.setIfInBounds i true) a' w') a w
theorem wpAny_of_T : ∀ (fuel : Nat) (listed : Array Bool) (a : Act) (w : World), wpAnyT P md ops Q S n fuel listed a w → wpAny P md ops Q fuel listed a w
  | 0, _, _, _, h => h
  | fuel + 1, _, _, _, h => ⟨h.1, fun i hi => wpOp_mono (fun a' w' h' => wpAny_of_T fuel _ a' w' h'.2) (h.2 i hi)⟩
theorem wpAnyT_first {i : Nat} {oi : Oper} {v : Value} (hi : ops[i]? = some oi) (hsel : ∀ (j : Nat) (o : Oper) cs b, ops[j]? = some o → o.op ≠ .select cs b)
    (hQ : ∀ c a w, Q (.panic c) (a.put oi.dst v) w → Q (.panic c) a w) (hni : i ≠ n) {f : Nat} (hah : aheadB md ops n f i = true) :
    ∀ (fuel : Nat) (listed : Array Bool) (a : Act) (w : World),
      (∀ j oj, ops[j]? = some oj → j ≠ i → listed.getD j true = false → (∀ e ∈ oj.after, Region.binds md e = true → e.on ≠ i) → oi.apart ops oj = true) →
      i ∈ Region.ready md ops listed → ShutUp md ops listed → YieldsIf P ops S oi v a → S w →
      wpAnyT P md ops Q S n fuel (listed.setIfInBounds i true) (a.put oi.dst v) w → wpAnyT P md ops Q S n (fuel + 1) listed a w := by
  intro fuel
  induction fuel with
  | zero =>
    intro listed a w _ hr _ hy hS H
    refine ⟨fun h => (by rw [h] at hr; cases hr), fun j hj => ?_⟩
    by_cases hji : j = i
    · subst hji; exact hy.wpOp hi hS ⟨fun _ => hS, H⟩
    · have := ready_mono hj hji
      rw [H.1] at this
      cases this
  | succ fuel ih =>
    intro listed a w hfree hr hsh hy hS H
    refine ⟨fun h => (by rw [h] at hr; cases hr), fun j hj => ?_⟩
    by_cases hji : j = i
    · subst hji; exact hy.wpOp hi hS ⟨fun _ => hS, H⟩
    · have h1 := H.2 j (ready_mono hj hji)
      obtain ⟨hjun, oj, hoj, hall⟩ := mem_ready.1 hj
      have hiun := (mem_ready.1 hr).1
      have hiun' : listed.getD i false = false := getD_both hiun
      have hnot : ∀ e ∈ oj.after, Region.binds md e = true → e.on ≠ i := fun e he hb heq => by
        have h1 := hall e he hb
        rw [heq, hiun'] at h1
        cases h1
      have h2 := wpOp_putIf hoj (hfree j oj hoj hji hjun hnot) (fun cs b => hsel i oi cs b hi) (fun cs b => hsel j oj cs b hoj) hQ hy h1
      have hfree' : ∀ k ok, ops[k]? = some ok → k ≠ i → (listed.setIfInBounds j true).getD k true = false →
          (∀ e ∈ ok.after, Region.binds md e = true → e.on ≠ i) → oi.apart ops ok = true := fun k ok hk hki hun hno => by
        refine hfree k ok hk hki ?_ hno
        by_cases hjk : j = k
        · subst hjk; exact hjun
        · rw [getD_set_ne true hjk] at hun; exact hun
      have hsh' := hsh.set hj
      have hnun : (listed.setIfInBounds j true).getD n false = false := by
        cases hl : (listed.setIfInBounds j true).getD n false with
        | false => rfl
        | true =>
          have := hsh'.ahead hl f i hah
          rw [getD_set_ne false hji, hiun'] at this
          cases this
      refine wpOp_mono (fun a' w' h3 => ?_) h2
      have hS' : S w' := h3.2.1 (by rw [Array.setIfInBounds_comm _ _ (Ne.symm hji), getD_set_ne false hni]; exact hnun)
      refine ⟨fun _ => hS', ih (listed.setIfInBounds j true) a' w' hfree' (ready_mono hr (Ne.symm hji)) hsh' h3.1 hS' ?_⟩
      rw [Array.setIfInBounds_comm _ _ hji]
      exact h3.2.2
/-- Take number i first. -/
theorem wpAnyT_take (i : Nat) (d : Option Tmp) (v : Value) (listed' : Array Bool) {oi : Oper} {fuel : Nat} {listed : Array Bool} {a : Act} {w : World} (hi : ops[i]? = some oi) (hd : oi.dst = d) (hl : listed.setIfInBounds i true = listed')
    (hb : (Region.noSelect ops && Region.free md ops listed i && (Region.ready md ops listed).contains i && shutUpB md ops listed && aheadB md ops n ops.size i && !(i == n)) = true)
    (hQ : ∀ c a w, Q (.panic c) (a.put oi.dst v) w → Q (.panic c) a w) (hS : S w) (hw : Region.wanted oi (yielded ops a.tmps) = true) (hy : ∀ W, S W → (execOp a.eval oi).run P W = .ok (.value v) W)
    (h : wpAnyT P md ops Q S n fuel listed' (a.put d v) w) : wpAnyT P md ops Q S n (fuel + 1) listed a w := by
  subst hd
  subst hl
  simp only [Bool.and_eq_true, Bool.not_eq_true', beq_eq_false_iff_ne, ne_eq] at hb
  obtain ⟨⟨⟨⟨⟨hs, hf⟩, hr⟩, hc⟩, ha⟩, hn⟩ := hb
  exact wpAnyT_first hi (Region.noSelect_spec hs) hQ hn ha fuel listed a w (Region.free_spec hi hf) (by simpa using hr) (shutUp_of hc) (.inl ⟨hw, hy⟩) hS h
/-- Number i is not wanted: skip it first. -/
theorem wpAnyT_skip (i : Nat) (d : Option Tmp) (listed' : Array Bool) {oi : Oper} {fuel : Nat} {listed : Array Bool} {a : Act} {w : World} (hi : ops[i]? = some oi) (hd : oi.dst = d) (hl : listed.setIfInBounds i true = listed')
    (hb : (Region.noSelect ops && Region.free md ops listed i && (Region.ready md ops listed).contains i && shutUpB md ops listed && aheadB md ops n ops.size i && !(i == n)) = true)
    (hQ : ∀ c a w, Q (.panic c) (a.put oi.dst undef) w → Q (.panic c) a w) (hS : S w) (hw : Region.wanted oi (yielded ops a.tmps) = false)
    (h : wpAnyT P md ops Q S n fuel listed' (a.put d undef) w) : wpAnyT P md ops Q S n (fuel + 1) listed a w := by
  subst hd
  subst hl
  simp only [Bool.and_eq_true, Bool.not_eq_true', beq_eq_false_iff_ne, ne_eq] at hb
  obtain ⟨⟨⟨⟨⟨hs, hf⟩, hr⟩, hc⟩, ha⟩, hn⟩ := hb
  exact wpAnyT_first hi (Region.noSelect_spec hs) hQ hn ha fuel listed a w (Region.free_spec hi hf) (by simpa using hr) (shutUp_of hc) (.inr ⟨hw, rfl⟩) hS h
/-- One operation alone may come up. -/
theorem wpAnyT_only (i : Nat) (listed' : Array Bool) {o : Oper} {fuel : Nat} {listed : Array Bool} {a : Act} {w : World} (hr : Region.ready md ops listed = [i]) (ho : ops[i]? = some o) (hl : listed.setIfInBounds i true = listed') (hw : Region.wanted o (yielded ops a.tmps) = true)
    (h : ∀ K' : Act → World → Prop, (∀ a w, (listed'.getD n false = false → S w) → wpAnyT P md ops Q S n fuel listed' a w → K' a w) → Oper.wp P o a w K' Q) :
    wpAnyT P md ops Q S n (fuel + 1) listed a w := by
  subst hl
  refine ⟨fun h0 => by rw [h0] at hr; simp at hr, fun j hj => ?_⟩
  rw [hr] at hj
  obtain rfl : j = i := by simpa using hj
  exact wpOp_step ho (fun K' hK => by rw [if_pos hw]; exact h K' (fun a w hS hW => hK a w ⟨hS, hW⟩))
theorem wpAnyT_done {listed : Array Bool} {a : Act} {w : World} (hr : Region.ready md ops listed = []) (h : Q .normal a w) : ∀ fuel, wpAnyT P md ops Q S n fuel listed a w
  | 0 => ⟨hr, h⟩
  | _ + 1 => ⟨fun _ => h, by rw [hr]; simp⟩
/-- The beginning. -/
theorem wp_region_T {id : Nat} {a : Act} {w : World} (S : World → Prop) (n m : Nat) (listed : Array Bool) (hm : P.follows .mixedOrders = true) (hm' : ops.size = m) (hl : Array.replicate m false = listed) (hS : S w.drew)
    (h : S w.drew → wpAnyT P .any ops Q S n m listed a w.drew) : (Code.region id ops true).wp P Q a w :=
  wp_region_any hm (by rw [hm', hl]; exact wpAny_of_T _ _ _ _ (h hS))
end
end Go.Proofs.Ytmaddohfkfnnhaa

namespace Go.Proofs.Ytmaddohfkfnnhaa
open Go.RowKit

section
variable {P : Program} {ops : Array Oper} {Q : Exit → Act → World → Prop} {md : Region.Mode} {S : World → Prop} {n : Nat}
theorem wpAnyT_firstP {i : Nat} {oi : Oper} {v : Value} (hi : ops[i]? = some oi) (hsel : ∀ (j : Nat) (o : Oper) cs b, ops[j]? = some o → o.op ≠ .select cs b)
    (hQ : ∀ c a w, Q (.panic c) (a.put oi.dst v) w → Q (.panic c) a w) (hni : i ≠ n) :
    ∀ (fuel : Nat) (listed : Array Bool) (a : Act) (w : World),
      (∀ j oj, ops[j]? = some oj → j ≠ i → listed.getD j true = false → (∀ e ∈ oj.after, Region.binds md e = true → e.on ≠ i) → oi.apart ops oj = true) →
      i ∈ Region.ready md ops listed → YieldsIf P ops (fun _ => True) oi v a → (listed.getD n false = false → S w) →
      wpAnyT P md ops Q S n fuel (listed.setIfInBounds i true) (a.put oi.dst v) w → wpAnyT P md ops Q S n (fuel + 1) listed a w := by
  intro fuel
  induction fuel with
  | zero =>
    intro listed a w _ hr hy hS H
    refine ⟨fun h => (by rw [h] at hr; cases hr), fun j hj => ?_⟩
    by_cases hji : j = i
    · subst hji; exact hy.wpOp hi trivial ⟨fun h => hS (by rwa [getD_set_ne false hni] at h), H⟩
    · have := ready_mono hj hji
      rw [H.1] at this
      cases this
  | succ fuel ih =>
    intro listed a w hfree hr hy hS H
    refine ⟨fun h => (by rw [h] at hr; cases hr), fun j hj => ?_⟩
    by_cases hji : j = i
    · subst hji; exact hy.wpOp hi trivial ⟨fun h => hS (by rwa [getD_set_ne false hni] at h), H⟩
    · have h1 := H.2 j (ready_mono hj hji)
      obtain ⟨hjun, oj, hoj, hall⟩ := mem_ready.1 hj
      have hiun := (mem_ready.1 hr).1
      have hiun' : listed.getD i false = false := getD_both hiun
      have hnot : ∀ e ∈ oj.after, Region.binds md e = true → e.on ≠ i := fun e he hb heq => by
        have h1 := hall e he hb
        rw [heq, hiun'] at h1
        cases h1
      have h2 := wpOp_putIf hoj (hfree j oj hoj hji hjun hnot) (fun cs b => hsel i oi cs b hi) (fun cs b => hsel j oj cs b hoj) hQ hy h1
      have hfree' : ∀ k ok, ops[k]? = some ok → k ≠ i → (listed.setIfInBounds j true).getD k true = false →
          (∀ e ∈ ok.after, Region.binds md e = true → e.on ≠ i) → oi.apart ops ok = true := fun k ok hk hki hun hno => by
        refine hfree k ok hk hki ?_ hno
        by_cases hjk : j = k
        · subst hjk; exact hjun
        · rw [getD_set_ne true hjk] at hun; exact hun
      refine wpOp_mono (fun a' w' h3 => ?_) h2
      have hS' : (listed.setIfInBounds j true).getD n false = false → S w' := fun h => h3.2.1 (by rw [Array.setIfInBounds_comm _ _ (Ne.symm hji), getD_set_ne false hni]; exact h)
      refine ⟨hS', ih (listed.setIfInBounds j true) a' w' hfree' (ready_mono hr (Ne.symm hji)) h3.1 hS' ?_⟩
      rw [Array.setIfInBounds_comm _ _ hji]
      exact h3.2.2
/-- Take number i, which asks nothing of the world, first. -/
theorem wpAnyT_pure (i : Nat) (d : Option Tmp) (v : Value) (listed' : Array Bool) {oi : Oper} {fuel : Nat} {listed : Array Bool} {a : Act} {w : World} (hi : ops[i]? = some oi) (hd : oi.dst = d) (hl : listed.setIfInBounds i true = listed')
    (hb : (Region.noSelect ops && Region.free md ops listed i && (Region.ready md ops listed).contains i && !(i == n)) = true)
    (hQ : ∀ c a w, Q (.panic c) (a.put oi.dst v) w → Q (.panic c) a w) (hS : listed.getD n false = false → S w) (hw : Region.wanted oi (yielded ops a.tmps) = true) (hy : ∀ W, (execOp a.eval oi).run P W = .ok (.value v) W)
    (h : wpAnyT P md ops Q S n fuel listed' (a.put d v) w) : wpAnyT P md ops Q S n (fuel + 1) listed a w := by
  subst hd
  subst hl
  simp only [Bool.and_eq_true, Bool.not_eq_true', beq_eq_false_iff_ne, ne_eq] at hb
  obtain ⟨⟨⟨hs, hf⟩, hr⟩, hn⟩ := hb
  exact wpAnyT_firstP hi (Region.noSelect_spec hs) hQ hn fuel listed a w (Region.free_spec hi hf) (by simpa using hr) (.inl ⟨hw, fun W _ => hy W⟩) hS h
/-- Two operations may come up: both ways. -/
theorem wpAnyT_two (i j : Nat) (li lj : Array Bool) {oi oj : Oper} {fuel : Nat} {listed : Array Bool} {a : Act} {w : World} (hr : Region.ready md ops listed = [i, j]) (hoi : ops[i]? = some oi) (hoj : ops[j]? = some oj) (hli : listed.setIfInBounds i true = li) (hlj : listed.setIfInBounds j true = lj)
    (hwi : Region.wanted oi (yielded ops a.tmps) = true) (hwj : Region.wanted oj (yielded ops a.tmps) = true)
    (hi : ∀ K' : Act → World → Prop, (∀ a w, (li.getD n false = false → S w) → wpAnyT P md ops Q S n fuel li a w → K' a w) → Oper.wp P oi a w K' Q)
    (hj : ∀ K' : Act → World → Prop, (∀ a w, (lj.getD n false = false → S w) → wpAnyT P md ops Q S n fuel lj a w → K' a w) → Oper.wp P oj a w K' Q) :
    wpAnyT P md ops Q S n (fuel + 1) listed a w := by
  subst hli
  subst hlj
  refine ⟨fun h0 => by rw [h0] at hr; simp at hr, fun k hk => ?_⟩
  rw [hr] at hk
  simp only [List.mem_cons, List.not_mem_nil, or_false] at hk
  rcases hk with rfl | rfl
  · exact wpOp_step hoi (fun K' hK => by rw [if_pos hwi]; exact hi K' (fun a w hS hW => hK a w ⟨hS, hW⟩))
  · exact wpOp_step hoj (fun K' hK => by rw [if_pos hwj]; exact hj K' (fun a w hS hW => hK a w ⟨hS, hW⟩))
end
end Go.Proofs.Ytmaddohfkfnnhaa

namespace Go.Proofs.Ytmaddohfkfnnhaa
open Go.RowKit Wrd Dic

/-- So many texts of a row are below s. -/
def LowTo (w : World) (l : List (List UInt8)) (s : List UInt8) (e : Ending) (w' : World) : Prop := ∃ i, IsLow l s i ∧ e = .returned (.int .i64 (i : Int)) ∧ Ext w w'
theorem TextsAt.cellAt {w w' : World} {A : Option Addr} {n i : Nat} {L : List (List UInt8)} (h : TextsAt w w.heap.size A n L) (hi : i < n) (hE : Ext w w') : ∃ b o, A = some ⟨b, o, none⟩ ∧ w'.cell? ⟨b, o + i, none⟩ = some (.string ⟨(L.getD i []).toArray⟩) := by
  rcases h.2 with h0 | ⟨b, o, e, hb, hc⟩
  · omega
  · exact ⟨b, o, e, (hE.cell hb).trans (hc i hi)⟩
attribute [local go_sem ↓] run_txtAt run_txtLen run_txtCut run_txtTop run_cutTx
theorem entered_ss1 : Entered 69 := entered_of Try.func69 (by kernel_rfl) rfl
set_option maxHeartbeats 1000000 in
set_option maxRecDepth 10000 in
theorem dss1_any {w : World} {b2 b3 n c : Nat} {A : Option Addr} {L : List (List UInt8)} {s : List UInt8} (h : TextsAt w w.heap.size A n L) (e2 : w.cell? ⟨b2, 0, none⟩ = some (.slice A n c)) (e3 : w.cell? ⟨b3, 0, none⟩ = some (.string ⟨s.toArray⟩)) {j : Nat} (hj : j < n) :
    Calls Try.prog 69 #[.int .i64 (j : Int), .pointer (some ⟨b2, 0, none⟩), .pointer (some ⟨b3, 0, none⟩)] w fun e w' => e = .returned (.bool (!Op.bytesLess (L.getD j []) s)) ∧ Ext w w' := by
  obtain ⟨b, o, rfl, hc⟩ := h.cellAt hj (Ext.refl w)
  have hjI : (j : Int) < (n : Int) := by omega
  generalize L.getD j [] = t at *
  clear h hj
  go_enter Try.func69, Try.ntmps69
  go_wp2_with fail
  go_quiet (fail)
  go_wp2
  go_ret
  exact ⟨rfl, (Ext.refl w).drewN _⟩
set_option maxHeartbeats 1000000 in
set_option maxRecDepth 10000 in
theorem dss_any {n c : Nat} {A : Option Addr} {L : List (List UInt8)} (s : List UInt8) (w : World) (hn : n ≤ 1000000) (hL : Rising L) (h : TextsAt w w.heap.size A n L) :
    Calls Try.prog 59 #[.slice A n c, .string ⟨s.toArray⟩] w (LowTo w L s) := by
  have hE1 := extNew w (.cells #[.slice A n c] 22)
  have hE2 := extNew (w.alloc (.cells #[.slice A n c] 22)) (.cells #[.string ⟨s.toArray⟩] 9)
  have hE := hE1.trans hE2
  have e2 : ((w.alloc (.cells #[.slice A n c] 22)).alloc (.cells #[.string ⟨s.toArray⟩] 9)).cell? ⟨w.heap.size, 0, none⟩ = some (.slice A n c) := (hE2.cell (by simp)).trans (cellNew w _ _ _ 0)
  have e3 : ((w.alloc (.cells #[.slice A n c] 22)).alloc (.cells #[.string ⟨s.toArray⟩] 9)).cell? ⟨w.heap.size + 1, 0, none⟩ = some (.string ⟨s.toArray⟩) := by
    have := cellNew (w.alloc (.cells #[.slice A n c] 22)) #[.string ⟨s.toArray⟩] 9 (0, 0) 0
    rwa [World.size_alloc] at this
  have hb2 := World.block_lt_of_cell? _ _ e2
  have hb3 := World.block_lt_of_cell? _ _ e3
  have hT := h.later hE
  have hl := h.1
  have C := search_any entered_ss1 n (fun j => !Op.bytesLess (L.getD j []) s) _ hn (fun i j hij hj hp => by
    have hp : Op.bytesLess (L.getD i []) s = false := by simpa using hp
    rcases Nat.lt_or_ge i j with hlt | hge
    · rw [not_below hp (rise_lt hL hlt (by omega))]; rfl
    · rw [← show i = j by omega, hp]; rfl) (fun W j hW hj => dss1_any (hT.later hW) ((hW.cell hb2).trans e2) ((hW.cell hb3).trans e3) hj)
  have HE := hide hE
  have HL := hide hl
  clear hE1 hE2 hE hT hL h hb2 hb3 hl e3
  go_enter Try.func59, Try.ntmps59
  go_wp2_with fail
  refine C.mono ?_
  rintro e w3 ⟨i, h1, h2, h3, rfl, hE3⟩
  clear C
  have HF := hide (show IsLow L s i from ⟨by rw [HL.out]; exact h1, fun j hj => by simpa using h2 j hj, fun j hj hjl => by simpa using h3 j hj (by rw [← HL.out]; exact hjl)⟩)
  have HX := hide (HE.out.trans hE3)
  clear h1 h2 h3 hE3
  go_wp2
  go_ret
  exact ⟨i, HF.out, rfl, HX.out⟩
set_option maxHeartbeats 1000000 in
theorem dBelow_any {n c : Nat} {A : Option Addr} {L : List (List UInt8)} (s : List UInt8) (w : World) (hn : n ≤ 1000000) (hL : Rising L) (h : TextsAt w w.heap.size A n L) :
    Calls Try.prog 47 #[.slice A n c, .string ⟨s.toArray⟩] w (LowTo w L s) := by
  have C := dss_any (c := c) s w hn hL h
  clear h
  go_enter Try.func47, Try.ntmps47
  go_wp2_with fail
  refine C.mono ?_
  rintro e w3 ⟨i, h1, rfl, hE3⟩
  have H1 := hide h1
  have HX := hide hE3
  clear C h1 hE3
  go_wp2
  go_ret
  exact ⟨i, H1.out, rfl, HX.out⟩

/-- Block g is a dictionary of these texts. -/
structure DicAt (w : World) (g : Nat) (size : Nat) (A : Option Addr) (c : Nat) (F : List (List UInt8)) (A2 : Option Addr) (c2 : Nat) (l : List (List UInt8)) : Prop where
  whole : Whole w g 66 #[.slice A l.length c, .int .i64 (size : Int), .slice A2 F.length c2]
  texts : TextsAt w w.heap.size A l.length l
  firsts : TextsAt w w.heap.size A2 F.length F
  are : FirstsOf size l F
  rise : Rising l
  riseF : Rising F
  size1 : 1 ≤ size
  size2 : size ≤ 64
  len : l.length ≤ 900000
  room : l.length ≤ c ∧ c ≤ maxLen
def DicLst (w : World) (g : Nat) (l : List (List UInt8)) : Prop := ∃ size A c F A2 c2, DicAt w g size A c F A2 c2 l
theorem DicAt.ext {w w' : World} {g size c c2 : Nat} {A A2 : Option Addr} {F l : List (List UInt8)} (h : DicAt w g size A c F A2 c2 l) (hE : Ext w w') : DicAt w' g size A c F A2 c2 l :=
  ⟨h.whole.ext hE, h.texts.later hE, h.firsts.later hE, h.are, h.rise, h.riseF, h.size1, h.size2, h.len, h.room⟩
theorem dicLst_keep' {W W' : World} {g : Nat} {l : List (List UInt8)} (h : DicLst W g l) (hE : Ext W W') : DicLst W' g l := by
  obtain ⟨size, A, c, F, A2, c2, h⟩ := h
  exact ⟨size, A, c, F, A2, c2, h.ext hE⟩
set_option maxHeartbeats 1000000 in
theorem dLenW_any {w : World} {g n c : Nat} {A : Option Addr} {v1 v2 : Value} (h : Whole w g 66 #[.slice A n c, v1, v2]) : Calls Try.prog 18 #[.pointer (some ⟨g, 0, none⟩)] w fun e w' => e = .returned (.int .i64 (n : Int)) ∧ w = w' := by
  have c0 := h.at 0 (u := .slice A n c) rfl
  clear h
  go_enter Try.func18, Try.ntmps18
  go_wp2
  go_ret
  exact ⟨rfl, rfl⟩
theorem dLen_any {w : World} {g size c c2 : Nat} {A A2 : Option Addr} {F l : List (List UInt8)} (h : DicAt w g size A c F A2 c2 l) : Calls Try.prog 18 #[.pointer (some ⟨g, 0, none⟩)] w fun e w' => e = .returned (.int .i64 (l.length : Int)) ∧ w = w' := dLenW_any h.whole
theorem dLenNil_any (w : World) : Calls Try.prog 18 #[.pointer none] w fun e w' => e = .returned (.int .i64 0) ∧ w = w' := by
  go_enter Try.func18, Try.ntmps18
  go_wp2
  go_ret
  exact ⟨rfl, rfl⟩
/-- What At tells. -/
def Dic.inD (l : List (List UInt8)) (i : Int) : Bool := decide (0 ≤ i ∧ i < (l.length : Int))
def Dic.atD (l : List (List UInt8)) (i : Int) : List UInt8 := if inD l i = true then l.getD i.toNat [] else []
set_option maxHeartbeats 1000000 in
theorem dAtW_any {w : World} {g c : Nat} {A : Option Addr} {v1 v2 : Value} {l : List (List UInt8)} (h : Whole w g 66 #[.slice A l.length c, v1, v2]) (ht : TextsAt w w.heap.size A l.length l) (i : Int) : Calls Try.prog 23 #[.pointer (some ⟨g, 0, none⟩), .int .i64 i] w fun e w' => e = .returned (.tuple #[.string ⟨(atD l i).toArray⟩, .bool (inD l i)]) ∧ w = w' := by
  have CL := dLenW_any h
  by_cases h0 : i < 0
  · have hin : inD l i = false := decide_eq_false (by omega)
    have HR := hide (show atD l i = [] by unfold atD; rw [hin]; rfl)
    rw [hin]
    generalize atD l i = res at *
    clear CL h hin ht
    go_enter Try.func23, Try.ntmps23
    go_wp2
    go_ret2
    rw [HR.out]
    exact ⟨rfl, rfl⟩
  · by_cases h1 : i < (l.length : Int)
    · have hin : inD l i = true := decide_eq_true (by omega)
      have HR := hide (show atD l i = l.getD i.toNat [] by unfold atD; rw [hin]; rfl)
      rw [hin]
      generalize atD l i = res at *
      obtain ⟨k, rfl⟩ : ∃ k : Nat, i = (k : Int) := ⟨i.toNat, by omega⟩
      rw [Int.toNat_natCast] at HR
      have c0 := h.at 0 (u := .slice A l.length c) rfl
      obtain ⟨b, o, rfl, hc⟩ := ht.cellAt (show k < l.length by omega) (Ext.refl w)
      rw [← HR.out] at hc
      have h3 : ¬ (l.length : Int) ≤ (k : Int) := by omega
      generalize l.length = n at *
      clear h hin HR ht
      go_enter Try.func23, Try.ntmps23
      go_wp2_with fail
      refine CL.mono ?_
      rintro e w' ⟨rfl, rfl⟩
      clear CL
      go_wp2
      go_ret2
      exact ⟨rfl, rfl⟩
    · have hin : inD l i = false := decide_eq_false (by omega)
      have HR := hide (show atD l i = [] by unfold atD; rw [hin]; rfl)
      rw [hin]
      generalize atD l i = res at *
      have h3 : (l.length : Int) ≤ i := by omega
      generalize l.length = n at *
      clear h hin ht
      go_enter Try.func23, Try.ntmps23
      go_wp2_with fail
      refine CL.mono ?_
      rintro e w' ⟨rfl, rfl⟩
      clear CL
      go_wp2
      go_ret2
      rw [HR.out]
      exact ⟨rfl, rfl⟩
theorem dAt_any {w : World} {g size c c2 : Nat} {A A2 : Option Addr} {F l : List (List UInt8)} (h : DicAt w g size A c F A2 c2 l) (i : Int) : Calls Try.prog 23 #[.pointer (some ⟨g, 0, none⟩), .int .i64 i] w fun e w' => e = .returned (.tuple #[.string ⟨(atD l i).toArray⟩, .bool (inD l i)]) ∧ w = w' := dAtW_any h.whole h.texts i
theorem dAtNil_any (i : Int) (w : World) : Calls Try.prog 23 #[.pointer none, .int .i64 i] w fun e w' => e = .returned (.tuple #[.string ⟨#[]⟩, .bool false]) ∧ w = w' := by
  have CL := dLenNil_any w
  by_cases h0 : i < 0
  · clear CL
    go_enter Try.func23, Try.ntmps23
    go_wp2
    go_ret2
    exact ⟨rfl, rfl⟩
  · have h1 : 0 ≤ i := by omega
    go_enter Try.func23, Try.ntmps23
    go_wp2_with fail
    refine CL.mono ?_
    rintro e w' ⟨rfl, rfl⟩
    clear CL
    go_wp2
    go_ret2
    exact ⟨rfl, rfl⟩
/-- A part of a list of texts. -/
theorem run_partTx (W : World) (a : Option Addr) (n c : Nat) (l h : Nat) (h1 : l ≤ h) (h2 : h ≤ c) :
    (Instr.slice 64 (.slice a n c) (some (.int .i64 (l : Int))) (some (.int .i64 (h : Int))) none).run Try.prog W = .ok (.slice (cutAt a c l) (h - l) (c - l)) W := by
  rw [run_slice_lh (P := Try.prog) (w := W) 64 a n c (by kernel_rfl) .i64 .i64 (l : Int) (h : Int) (by omega) (by omega) (by omega)]
  have hs : (sizeOf (Try.prog.elem 64)).run Try.prog W = .ok 1 W := by kernel_rfl
  rw [hs]
  simp [Result.andThen, sliced, cutAt]
theorem dSeekNil_any (s : List UInt8) (w : World) : Calls Try.prog 36 #[.pointer none, .string ⟨s.toArray⟩] w fun e w' => e = .returned (.int .i64 0) ∧ w = w' := by
  have CL := dLenNil_any w
  go_enter Try.func36, Try.ntmps36
  go_wp2_with fail
  refine CL.mono ?_
  rintro e w' ⟨rfl, rfl⟩
  clear CL
  go_wp2
  go_ret
  exact ⟨rfl, rfl⟩
set_option maxHeartbeats 2000000 in
set_option maxRecDepth 10000 in
theorem dSeek_any {w : World} {g size c c2 : Nat} {A A2 : Option Addr} {F l : List (List UInt8)} (h : DicAt w g size A c F A2 c2 l) (s : List UInt8) : Calls Try.prog 36 #[.pointer (some ⟨g, 0, none⟩), .string ⟨s.toArray⟩] w (LowTo w l s) := by
  have CL := fun W (hW : Ext w W) => dLen_any (h.ext hW)
  by_cases h0 : l.length = 0
  · have HR := hide (show IsLow l s 0 from ⟨by omega, fun j hj => by omega, fun j _ hj => by omega⟩)
    have CL := CL w (Ext.refl w)
    rw [h0] at CL
    clear h h0
    go_enter Try.func36, Try.ntmps36
    go_wp2_with fail
    refine CL.mono ?_
    rintro e w' ⟨rfl, rfl⟩
    clear CL
    go_wp2
    go_ret
    exact ⟨0, HR.out, rfl, Ext.refl _⟩
  · have hFl : F.length ≤ 1000000 := by
      have h1 := h.are.1
      have h2 := h.len
      rw [h1]
      unfold bucketsN
      refine Nat.le_trans (Nat.div_le_self _ _) ?_
      have := h.size2
      omega
    have CB := dBelow_any (c := c2) s w hFl h.riseF h.firsts
    have c0 := h.whole.at 0 (u := .slice A l.length c) rfl
    have c1 := h.whole.at 1 (u := .int .i64 (size : Int)) rfl
    have c2' := h.whole.at 2 (u := .slice A2 F.length c2) rfl
    have hgl := h.whole.lt
    have HH := hide h
    obtain ⟨n, hn⟩ : ∃ n, n = l.length := ⟨_, rfl⟩
    obtain ⟨nF, hnF⟩ : ∃ n, n = F.length := ⟨_, rfl⟩
    rw [← hn] at c0 CL
    rw [← hnF] at c2' CB
    have HN := hide hn
    have hn0 : ((n : Int) == 0) = false := by rw [beq_eq_false_iff_ne]; omega
    clear h hFl h0 hn hnF
    go_enter Try.func36, Try.ntmps36
    go_wp2_with fail
    refine (CL w (Ext.refl w)).mono ?_
    rintro e w' ⟨rfl, rfl⟩
    go_wp2_with fail
    refine CB.mono ?_
    rintro e w2 ⟨b, hb, rfl, hE2⟩
    have HB := hide hb
    have HE2 := hide hE2
    have d0 := (hE2.cell hgl).trans c0
    have d1 := (hE2.cell hgl).trans c1
    clear CB c0 c1 c2' hb hE2
    rcases Nat.eq_zero_or_pos b with rfl | hb0
    · have HR := hide (show IsLow l s 0 from seek_none HH.out.size1 HH.out.rise HH.out.are (by rw [← HN.out]; have := HN.out; rcases Nat.eq_zero_or_pos n with h | h; (rw [h] at hn0; simp at hn0); exact h) HB.out)
      go_wp2
      go_ret
      exact ⟨0, HR.out, rfl, HE2.out⟩
    · obtain ⟨d, rfl⟩ : ∃ d, b = d + 1 := ⟨b - 1, by omega⟩
      obtain ⟨p, hp⟩ : ∃ p, p = d * size := ⟨_, rfl⟩
      obtain ⟨t, ht⟩ : ∃ t, t = p + size := ⟨_, rfl⟩
      have HRo := hide HH.out.room
      have hpn : p < n := by
        rw [hp, HN.out]
        refine buckets_in HH.out.size1 ?_
        have := HB.out.1
        rw [HH.out.are.1] at this
        omega
      have hn9 : n ≤ 900000 := by rw [HN.out]; exact HH.out.len
      have hs64 := HH.out.size2
      have hs1 := HH.out.size1
      have HRi := hide (show Rising ((l.drop p).take (min t n - p)) from List.Pairwise.sublist (List.Sublist.trans (List.take_sublist _ _) (List.drop_sublist _ _)) HH.out.rise)
      have HLow := hide (show ∀ k, IsLow ((l.drop p).take (min t n - p)) s k → IsLow l s (p + k) from fun k hk => by
        have := seek_some (b := d + 1) HH.out.size1 HH.out.rise HH.out.are HB.out (by omega) (k := k) (by
          rw [Nat.add_sub_cancel, ← hp, ← ht, ← HN.out]
          exact hk)
        rwa [Nat.add_sub_cancel, ← hp] at this)
      have hdp : d ≤ p := by rw [hp]; exact Nat.le_mul_of_pos_right d HH.out.size1
      have hdI : (d : Int) ≤ 900000 := by omega
      have hb1 : ((d + 1 : Nat) : Int) - 1 = (d : Int) := by omega
      have hb0' : (((d + 1 : Nat) : Int) == 0) = false := by rw [beq_eq_false_iff_ne]; omega
      have hmul : (d : Int) * (size : Int) = (p : Int) := by rw [hp]; simp
      have hsum : (p : Int) + (size : Int) = (t : Int) := by omega
      have CL2 := fun m => CL (w2.drewN m) (HE2.out.drewN m)
      have hpI : (p : Int) ≤ 900000 := by omega
      have htI : (t : Int) ≤ 900064 := by omega
      clear CL hp hb0 HB ht
      have CL := CL2
      clear CL2
      by_cases hc : n < t
      · have hcI : (n : Int) < (t : Int) := by omega
        have hpM : p ≤ n := by omega
        have hcut := fun W => run_partTx W A n c p n hpM (by have := HRo.out.1; rw [← HN.out] at this; omega)
        have HTx := hide (show TextsAt w2 w2.heap.size (cutAt A c p) (n - p) ((l.drop p).take (n - p)) from by
          have h1 := (HH.out.texts.later HE2.out).cut (k := p) (by rw [← HN.out]; omega) HRo.out.1
          have h2 := h1.top (k := n - p) (by rw [← HN.out]; omega)
          exact h2)
        have hMe : min t n = n := by omega
        rw [hMe] at HLow HRi
        have CB2 := fun m => dBelow_any (c := c - p) s (w2.drewN m) (by omega) HRi.out (HTx.out.later ((Ext.refl w2).drewN m))
        have HLw := hide (fun k h => HLow.out k h)
        clear HLow hMe
        go_wp2_with fail
        go_quiet (first | (go_at_call 18; exact Calls.quiet_of ((CL _).mono fun _ _ ⟨he, hw⟩ => ⟨he, 0, hw.symm⟩)))
        go_wp2_with fail
        refine (CB2 _).mono ?_
        rintro e w4 ⟨k, hk, rfl, hE4⟩
        have HF := hide (HLw.out k hk)
        have hk9 : (k : Int) ≤ 900064 := by have hkl := hk.1; rw [List.length_take] at hkl; omega
        have HE4 := hide ((HE2.out.drewN _).trans hE4)
        clear CB2 hk hE4 hcut
        go_wp2
        go_ret
        exact ⟨p + k, HF.out, by go_num, HE4.out⟩
      · have hcI : ¬ (n : Int) < (t : Int) := by omega
        have hpM : p ≤ t := by omega
        have hcut := fun W => run_partTx W A n c p t hpM (by have := HRo.out.1; rw [← HN.out] at this; omega)
        have HTx := hide (show TextsAt w2 w2.heap.size (cutAt A c p) (t - p) ((l.drop p).take (t - p)) from by
          have h1 := (HH.out.texts.later HE2.out).cut (k := p) (by rw [← HN.out]; omega) HRo.out.1
          have h2 := h1.top (k := t - p) (by rw [← HN.out]; omega)
          exact h2)
        have hMe : min t n = t := by omega
        rw [hMe] at HLow HRi
        have CB2 := fun m => dBelow_any (c := c - p) s (w2.drewN m) (by omega) HRi.out (HTx.out.later ((Ext.refl w2).drewN m))
        have HLw := hide (fun k h => HLow.out k h)
        clear HLow hMe
        go_wp2_with fail
        go_quiet (first | (go_at_call 18; exact Calls.quiet_of ((CL _).mono fun _ _ ⟨he, hw⟩ => ⟨he, 0, hw.symm⟩)))
        go_wp2_with fail
        refine (CB2 _).mono ?_
        rintro e w4 ⟨k, hk, rfl, hE4⟩
        have HF := hide (HLw.out k hk)
        have hk9 : (k : Int) ≤ 900064 := by have hkl := hk.1; rw [List.length_take] at hkl; omega
        have HE4 := hide ((HE2.out.drewN _).trans hE4)
        clear CB2 hk hE4 hcut
        go_wp2
        go_ret
        exact ⟨p + k, HF.out, by go_num, HE4.out⟩
end Go.Proofs.Ytmaddohfkfnnhaa

namespace Go.Proofs.Ytmaddohfkfnnhaa
open Go.RowKit

theorem OwnTx.notKind {w : World} {base b : Nat} {v : Value} {l : List (List UInt8)} {t : TypeId} {cs : Array Value} (h : OwnTx w base v l) (hb : Whole w b t cs) (ht : t ≠ 9) : v.ownBlock ≠ some b := by
  intro e
  rcases h.2 with ⟨rfl, _⟩ | ⟨g', cap, cur, rfl, _, hg, _⟩
  · simp [Value.ownBlock] at e
  · simp only [Value.ownBlock, Option.some.injEq] at e
    subst e
    unfold Whole at hb
    rw [hb] at hg
    simp only [Option.some.injEq, Obj.cells.injEq] at hg
    exact ht hg.2.1
end Go.Proofs.Ytmaddohfkfnnhaa

namespace Go.Proofs.Ytmaddohfkfnnhaa
open Go.RowKit

/-- They lie in blocks of their own. -/
def Ap (x y : Value) : Prop := ∀ k, x.ownBlock = some k → y.ownBlock ≠ some k
theorem Ap.symm {x y : Value} (h : Ap x y) : Ap y x := fun k hk e => h k e hk
theorem Ap.nil (y : Value) : Ap y (.slice none 0 0) := fun k _ e => by simp [Value.ownBlock] at e
theorem OwnB.grown {w w' : World} {base : Nat} {v u : Value} {l : List UInt8} (h : OwnB w base v l) (hg : w.grownBy w' u.ownBlock) (ha : Ap v u) : OwnB w' base v l :=
  World.ownsRow.kept h hg (by
    cases hv : v.ownBlock with
    | none => exact .inl rfl
    | some k => exact .inr (fun e => ha k hv e.symm))
def Three (w : World) (base : Nat) (u : Value) (U : List UInt8) (v : Value) (V : List UInt8) (x : Value) (X : List UInt8) : Prop :=
  OwnB w base u U ∧ OwnB w base v V ∧ OwnB w base x X ∧ Ap u v ∧ Ap u x ∧ Ap v x
theorem Three.ext {w w' : World} {base : Nat} {u v x : Value} {U V X : List UInt8} (h : Three w base u U v V x X) (hE : Ext w w') : Three w' base u U v V x X :=
  ⟨h.1.ext hE, h.2.1.ext hE, h.2.2.1.ext hE, h.2.2.2⟩
theorem Three.flip {w : World} {base : Nat} {u v x : Value} {U V X : List UInt8} (h : Three w base u U v V x X) : Three w base v V u U x X :=
  ⟨h.2.1, h.1, h.2.2.1, h.2.2.2.1.symm, h.2.2.2.2.2, h.2.2.2.2.1⟩
theorem Three.turn {w : World} {base : Nat} {u v x : Value} {U V X : List UInt8} (h : Three w base u U v V x X) : Three w base x X u U v V :=
  ⟨h.2.2.1, h.1, h.2.1, h.2.2.2.2.1.symm, h.2.2.2.2.2.symm, h.2.2.2.1⟩
/-- The first one has grown. -/
theorem Three.grow {w w' : World} {base : Nat} {u u' v x : Value} {U U' V X : List UInt8} (h : Three w base u U v V x X) (h1 : OwnB w' base u' U') (hG : w.grownBy w' u.ownBlock) (hN : NewOb w u.ownBlock u'.ownBlock) : Three w' base u' U' v V x X := by
  have new : ∀ {y : Value} {Y : List UInt8}, OwnB w base y Y → Ap u y → Ap u' y := fun {y Y} hy ha k hk e => by
    rcases hN with h | ⟨g, h, hg⟩
    · exact ha k (h ▸ hk) e
    · rw [hk] at h
      injection h with h
      have := (hy.lt k e).2
      omega
  exact ⟨h1, h.2.1.grown hG h.2.2.2.1.symm, h.2.2.1.grown hG h.2.2.2.2.1.symm, new h.2.1 h.2.2.2.1, new h.2.2.1 h.2.2.2.2.1, h.2.2.2.2.2⟩
/-- Another one in the third one's place, which was made just now. -/
theorem Three.fresh {w w' : World} {base : Nat} {u v y x : Value} {U V Y X : List UInt8} (h : Three w base u U v V y Y) (hE : Ext w w') (hx : OwnB w' w.heap.size x X) (hb : base ≤ w.heap.size) : Three w' base u U v V x X := by
  have new : ∀ {y : Value} {Y : List UInt8}, OwnB w base y Y → Ap y x := fun {y Y} hy k hk e => by
    have h1 := (hy.lt k hk).2
    have h2 := (hx.lt k e).1
    omega
  exact ⟨h.1.ext hE, h.2.1.ext hE, hx.mono hb, h.2.2.2.1, new h.1, new h.2.1⟩
theorem Three.drop {w : World} {base : Nat} {u v y : Value} {U V Y : List UInt8} (h : Three w base u U v V y Y) : Three w base u U v V (.slice none 0 0) [] :=
  ⟨h.1, h.2.1, OwnB.nil _ _, h.2.2.2.1, Ap.nil _, Ap.nil _⟩
theorem OwnB.bytesOf {w : World} {base n c : Nat} {A : Option Addr} {l : List UInt8} (h : OwnB w base (.slice A n c) l) : Bytes w w.heap.size A n l := by
  obtain ⟨A1, c1, hv, _, _, hb⟩ := h.form
  simp only [Value.slice.injEq] at hv
  obtain ⟨rfl, rfl, rfl⟩ := hv
  exact hb
end Go.Proofs.Ytmaddohfkfnnhaa

namespace Go.Proofs.Ytmaddohfkfnnhaa
open Go.RowKit

theorem appTxD_run {w : World} (ty : TypeId) {base : Nat} {v : Value} {L : List (List UInt8)} (hown : OwnTx w base v L) {A : Option Addr} {m : Nat} (c : Nat) {k : List (List UInt8)} (hI : TextsAt w w.heap.size A m k) (hlen : L.length + m ≤ 2000000) (hbase : base ≤ w.heap.size) :
    ∃ v' w', (Builtin.append_ #[64, 64] ty #[v, .slice A m c]).run Try.prog w = .ok v' w' ∧ OwnTx w' base v' (L ++ k) ∧ w.grownBy w' v.ownBlock ∧ NewOb w v.ownBlock v'.ownBlock := by
  obtain ⟨i, hi, hz, hs, hby⟩ := info_parts text_info
  rcases hI.2 with h0 | ⟨b, off, rfl, hb, hc⟩
  · subst h0
    have hk : k = [] := List.eq_nil_of_length_eq_zero hI.1
    subst hk
    refine ⟨v, w, ?_, by simpa using hown, World.grownBy.refl w _, .inl rfl⟩
    rcases hown.2 with ⟨rfl, _⟩ | ⟨g, cap, cur, rfl, _, _, hnc, _⟩
    · cases A <;> simp [Builtin.append_, run_underlying Try.underlying64, sizeOf, typeInfo, hi, Builtin.lenOf, Builtin.firstCells, loadCells, loadCellsFrom]
    · cases A <;> simp [Builtin.append_, run_underlying Try.underlying64, sizeOf, typeInfo, hi, Builtin.lenOf, Builtin.firstCells, loadCells, loadCellsFrom, hnc, storeCells]
  · have hkl := hI.1
    obtain ⟨v', w', hr, h2, h3, _, h5⟩ := run_append_own_at (P := Try.prog) w base 64 ty 9 i _ 1 16 Try.underlying64 hi hz hs hby rfl (by omega) v L.length (L.map txt) hown
      ⟨b, off, none⟩ m c (k.map txt) (by simp [hkl]) (by
        intro j u hu
        have hj : j < m := by
          rcases Nat.lt_or_ge j m with h | h
          · exact h
          · rw [List.getElem?_eq_none (by rw [List.length_map]; omega)] at hu; cases hu
        have e : (⟨b, off, none⟩ : Addr).add j = ⟨b, off + j, none⟩ := by unfold Addr.add; split <;> simp_all
        rw [e, hc j hj]
        rw [List.getElem?_map, List.getElem?_eq_getElem (by omega)] at hu
        simp [List.getD_eq_getElem?_getD, show j < k.length by omega, txt] at hu ⊢
        exact hu) (by
        intro u hu
        obtain ⟨z, _, rfl⟩ := List.mem_map.1 hu
        rfl) (by unfold maxLen; omega) (by omega) hbase
    refine ⟨v', w', hr, ?_, h3, h5.imp id fun h => ⟨_, h, Nat.le_refl _⟩⟩
    unfold OwnTx
    rw [List.length_append, List.map_append, hkl]
    exact h2
theorem wpOper_appTxD {o : Oper} {a : Act} {K : Act → World → Prop} {Q : Exit → Act → World → Prop} {w : World} {base : Nat} {v : Value} {L : List (List UInt8)} (s x : Operand) (ho : o.op = .call { callee := .builtin .append, args := #[s, x], argTypes := #[64, 64] }) (hs : a.eval s = v)
    (hown : OwnTx w base v L) {A : Option Addr} {m c : Nat} {k : List (List UInt8)} (hx : a.eval x = .slice A m c) (hI : TextsAt w w.heap.size A m k) (hlen : L.length + m ≤ 2000000) (hbase : base ≤ w.heap.size)
    (h : ∀ v' w', OwnTx w' base v' (L ++ k) → w.grownBy w' v.ownBlock → NewOb w v.ownBlock v'.ownBlock → K (a.put o.dst v') w') : Oper.wp Try.prog o a w K Q := by
  obtain ⟨v', w', hr, h2, h3, h4⟩ := appTxD_run o.type hown c hI hlen hbase
  unfold Oper.wp execOp
  simp only [ho, resolve, invoke, builtin, Sem.run_bind, Sem.run_pure, Result.andThen_ok, List.map_toArray, List.map_cons, List.map_nil, hs, hx, hr]
  exact h v' w' h2 h3 h4
theorem wpList_appTxD {ops : Array Oper} {rest : List Oper} {o : Oper} {a : Act} {Q : Exit → Act → World → Prop} {w : World} {base : Nat} {v : Value} {L : List (List UInt8)} (hgd : o.guard = none) (s x : Operand) (ho : o.op = .call { callee := .builtin .append, args := #[s, x], argTypes := #[64, 64] }) (hs : a.eval s = v)
    (hown : OwnTx w base v L) {A : Option Addr} {m c : Nat} {k : List (List UInt8)} (hx : a.eval x = .slice A m c) (hI : TextsAt w w.heap.size A m k) (hlen : L.length + m ≤ 2000000) (hbase : base ≤ w.heap.size)
    (h : ∀ v' w', OwnTx w' base v' (L ++ k) → w.grownBy w' v.ownBlock → NewOb w v.ownBlock v'.ownBlock → wpList Try.prog ops Q rest (a.put o.dst v') w') : wpList Try.prog ops Q (o :: rest) a w := by
  refine wpList_plain hgd fun _ hK => ?_
  obtain ⟨v', w', hr, h2, h3, h4⟩ := appTxD_run o.type hown c hI hlen hbase
  unfold Oper.wp execOp
  simp only [ho, resolve, invoke, builtin, Sem.run_bind, Sem.run_pure, Result.andThen_ok, List.map_toArray, List.map_cons, List.map_nil, hs, hx, hr]
  exact hK _ _ (h v' w' h2 h3 h4)
theorem OwnTx.empty (w : World) {base : Nat} (hb : base ≤ w.heap.size) : OwnTx (w.alloc (.cells #[] 9)) base (.slice (some ⟨w.heap.size, 0, none⟩) 0 0) [] := by
  refine ⟨rfl, .inr ⟨w.heap.size, 0, #[], rfl, hb, heap_alloc_new w _, Nat.le_refl _, by unfold maxLen; omega, by simp, by simp⟩⟩
theorem OwnTx.textsOf {w : World} {base n c : Nat} {A : Option Addr} {l : List (List UInt8)} (h : OwnTx w base (.slice A n c) l) : TextsAt w w.heap.size A n l := by
  obtain ⟨A1, c1, hv, _, _, hb⟩ := h.form
  simp only [Value.slice.injEq] at hv
  obtain ⟨rfl, rfl, rfl⟩ := hv
  exact hb
theorem OwnTx.mono {w : World} {base base' : Nat} {v : Value} {l : List (List UInt8)} (h : OwnTx w base v l) (hb : base' ≤ base) : OwnTx w base' v l :=
  ⟨h.1, h.2.elim Or.inl fun ⟨g, cap, cur, hv, hg, r⟩ => Or.inr ⟨g, cap, cur, hv, Nat.le_trans hb hg, r⟩⟩
theorem OwnTx.grown {w w' : World} {base : Nat} {v u : Value} {l : List (List UInt8)} (h : OwnTx w base v l) (hg : w.grownBy w' u.ownBlock) (ha : Ap v u) : OwnTx w' base v l :=
  World.ownsRow.kept h hg (by
    cases hv : v.ownBlock with
    | none => exact .inl rfl
    | some k => exact .inr (fun e => ha k hv e.symm))
theorem OwnTx.put {w w' : World} {base g : Nat} {v : Value} {l : List (List UInt8)} {t : TypeId} {cs : Array Value} (h : OwnTx w base v l) (hw : Whole w g t cs) (ht : t ≠ 9) (hG : w.grownBy w' (some g)) : OwnTx w' base v l := World.ownsRow.kept h hG (.inr (h.notKind hw ht))
/-- Two lists in blocks of their own. -/
def TwoTx (w : World) (base : Nat) (u : Value) (U : List (List UInt8)) (v : Value) (V : List (List UInt8)) : Prop := OwnTx w base u U ∧ OwnTx w base v V ∧ Ap u v
section
variable {w w' : World} {base : Nat} {u u' v : Value} {U U' V : List (List UInt8)}
theorem TwoTx.nil (w : World) (base : Nat) : TwoTx w base (.slice none 0 0) [] (.slice none 0 0) [] := ⟨OwnTx.nil _ _, OwnTx.nil _ _, Ap.nil _⟩
theorem TwoTx.ext (h : TwoTx w base u U v V) (hE : Ext w w') : TwoTx w' base u U v V := ⟨h.1.ext hE, h.2.1.ext hE, h.2.2⟩
theorem TwoTx.flip (h : TwoTx w base u U v V) : TwoTx w base v V u U := ⟨h.2.1, h.1, h.2.2.symm⟩
theorem TwoTx.put {g : Nat} {t : TypeId} {cs : Array Value} (h : TwoTx w base u U v V) (hw : Whole w g t cs) (ht : t ≠ 9) (hG : w.grownBy w' (some g)) : TwoTx w' base u U v V := ⟨h.1.put hw ht hG, h.2.1.put hw ht hG, h.2.2⟩
/-- The first one has grown. -/
theorem TwoTx.grow (h : TwoTx w base u U v V) (h1 : OwnTx w' base u' U') (hG : w.grownBy w' u.ownBlock) (hN : NewOb w u.ownBlock u'.ownBlock) : TwoTx w' base u' U' v V := by
  refine ⟨h1, h.2.1.grown hG h.2.2.symm, fun k hk e => ?_⟩
  rcases hN with h2 | ⟨g, h2, hg⟩
  · exact h.2.2 k (h2 ▸ hk) e
  · rw [hk] at h2
    injection h2 with h2
    have := (h.2.1.lt k e).2
    omega
end
set_option maxHeartbeats 1000000 in
theorem dClone_any (A : Option Addr) (n c : Nat) (l : List (List UInt8)) (w : World) (hc : n ≤ c) (hn : n ≤ 1000000) (hb : TextsAt w w.heap.size A n l) :
    Calls Try.prog 35 #[.slice A n c] w fun e w' => ∃ v, e = .returned v ∧ OwnTx w' w.heap.size v l ∧ Ext w w' := by
  have hnil := fun (W : World) (a : Option Addr) (n c n' c' : Nat) => Lib.run_eql_slice_nil (P := Try.prog) W 64 9 a n c n' c' Try.underlying64
  rcases A with _ | ad
  · have hl : l = [] := by
      rcases hb.2 with h0 | ⟨_, _, h, _⟩
      · exact List.eq_nil_of_length_eq_zero (by rw [hb.1, h0])
      · cases h
    subst hl
    have hn0 : n = 0 := hb.1.symm
    subst hn0
    go_enter Try.func35, Try.ntmps35
    go_wp2
    go_ret
    exact ⟨_, rfl, OwnTx.nil _ _, Ext.refl _⟩
  · have ho := OwnTx.empty w (Nat.le_refl _)
    have hE := extNew w (.cells #[] 9)
    have hb' := hb.later hE
    have hB : w.heap.size ≤ (w.alloc (.cells #[] 9)).heap.size := by simp
    have hl0 : ([] : List (List UInt8)).length + n ≤ 2000000 := by simp; omega
    clear hb
    go_enter Try.func35, Try.ntmps35
    go_wp2_with (at_builtin; refine wpList_appTxD rfl (.tmp 5) (.tmp 6) rfl rfl ho rfl hb' hl0 hB ?_; intro v1 w1 hown1 hg1 hN1)
    go_ret
    exact ⟨v1, rfl, hown1, Below.grown hE hg1 hB (fun k hk => (ho.lt k hk).1)⟩
end Go.Proofs.Ytmaddohfkfnnhaa

namespace Go.Proofs.Ytmaddohfkfnnhaa
open Go.RowKit Wrd Dic

attribute [local go_sem ↓] run_txtAt run_txtLen run_txtCut run_txtTop
theorem findF_step {s : List UInt8} {L : List (List UInt8)} {i : Nat} (h : i < L.length) : findF s (L.drop i) i = if L.getD i [] = s then (i, true) else findF s (L.drop (i + 1)) (i + 1) := by
  rw [List.drop_eq_getElem_cons h, findF, List.getD_eq_getElem?_getD, List.getElem?_eq_getElem h]
  rfl
set_option maxHeartbeats 1000000 in
set_option maxRecDepth 10000 in
theorem refFind16_any (A : Option Addr) (n c : Nat) (L : List (List UInt8)) (s : List UInt8) (w : World) (h : TextsAt w w.heap.size A n L) (hn : n ≤ 1000000) :
    Calls Try.prog 20 #[.slice A n c, .string ⟨s.toArray⟩] w fun e w' => e = .returned (.tuple #[.int .i64 ((findE L s).1 : Int), .bool (findE L s).2]) ∧ w = w' := by
  have hl := h.1
  have HA := hide h
  have H0 := hide (show findE L s = findF s (L.drop 0) 0 from rfl)
  have HSt := hide (fun (i : Nat) (hi : i < n) => findF_step (s := s) (L := L) (i := i) (by omega))
  have HEnd := hide (show ∀ k, findF s (L.drop n) k = (0, false) from fun k => by rw [List.drop_of_length_le (by omega)]; rfl)
  generalize findE L s = res at *
  clear h hl
  go_enter Try.func20, Try.ntmps20
  go_wp2
  go_loopw [6] (fun y wr => ∃ i : Nat, i ≤ n ∧ y = .int .i64 (i : Int) ∧ res = findF s (L.drop i) i ∧ wr = w) (fun y _ => n - (intOf y).toNat)
  case atStart => exact ⟨0, by omega, rfl, H0.out, rfl⟩
  case round =>
    clear H0
    obtain ⟨i, hi, rfl, hres, rfl⟩ := hrel
    have HR := hide hres
    clear hres
    by_cases hlt : i < n
    · have hiI : (i : Int) < (n : Int) := by omega
      rcases HA.out.2 with hn0 | ⟨b1, o1, rfl, _, hc1⟩
      · omega
      have e1 := hc1 i hlt
      have HS := hide (HR.out.trans (HSt.out i hlt))
      obtain ⟨y, hy⟩ : ∃ y, y = L.getD i [] := ⟨_, rfl⟩
      rw [← hy] at e1 HS
      clear hc1 hy
      by_cases g : y = s
      · have HF := hide (show res = (i, true) by rw [HS.out, if_pos g])
        have hb : (y == s) = true := by simpa using g
        clear g
        go_wp2
        go_ret2
        rw [HF.out]
        exact ⟨rfl, rfl⟩
      · have HF := hide (show res = findF s (L.drop (i + 1)) (i + 1) by rw [HS.out, if_neg g])
        have hb : (y == s) = false := by simpa using g
        clear g
        go_wp2
        go_roundw
        case rel => exact ⟨i + 1, by omega, by go_num, HF.out, trivial⟩
        case measure => simp [intOf]; omega
    · obtain rfl : n = i := by omega
      have HF := hide (HR.out.trans (HEnd.out n))
      go_wp2
      go_ret2
      rw [HF.out]
      exact ⟨rfl, rfl⟩

set_option maxHeartbeats 1000000 in
set_option maxRecDepth 10000 in
theorem refBegins_any (s t : List UInt8) (w : World) : Calls Try.prog 24 #[.string ⟨s.toArray⟩, .string ⟨t.toArray⟩] w fun e w' => e = .returned (.bool (beginsB s t)) ∧ w = w' := by
  by_cases hl : t.length ≤ s.length
  · have hI : (t.length : Int) ≤ (s.length : Int) := by omega
    have hb : beginsB s t = (s.take t.length == t) := by
      unfold beginsB
      rw [Bool.eq_iff_iff, decide_eq_true_eq, beq_iff_eq]
      exact ⟨fun h => h.2, fun h => ⟨hl, h⟩⟩
    rw [hb]
    go_enter Try.func24, Try.ntmps24
    go_wp2
    go_ret
    exact ⟨rfl, rfl⟩
  · have hI : ¬ (t.length : Int) ≤ (s.length : Int) := by omega
    have hb : beginsB s t = false := by
      unfold beginsB
      exact decide_eq_false fun h => hl h.1
    rw [hb]
    clear hb
    go_enter Try.func24, Try.ntmps24
    go_wp2
    go_ret
    exact ⟨rfl, rfl⟩

theorem rangeF_step {s : List UInt8} {L : List (List UInt8)} {i : Nat} (h : i < L.length) : rangeF s (L.drop i) i = if beginsB (L.getD i []) s = true then (i, if (rangeF s (L.drop (i + 1)) (i + 1)).2 = 0 then i + 1 else (rangeF s (L.drop (i + 1)) (i + 1)).2) else rangeF s (L.drop (i + 1)) (i + 1) := by
  rw [List.drop_eq_getElem_cons h, rangeF, List.getD_eq_getElem?_getD, List.getElem?_eq_getElem h]
  rfl
set_option maxHeartbeats 1000000 in
set_option maxRecDepth 10000 in
theorem refRange_any (A : Option Addr) (n c : Nat) (L : List (List UInt8)) (s : List UInt8) (w : World) (h : TextsAt w w.heap.size A n L) (hn : n ≤ 1000000) :
    Calls Try.prog 22 #[.slice A n c, .string ⟨s.toArray⟩] w fun e w' => e = .returned (.tuple #[.int .i64 ((rangeE L s).1 : Int), .int .i64 ((rangeE L s).2 : Int)]) ∧ w = w' := by
  have hl := h.1
  have HA := hide h
  have H0 := hide (show rangeF s (L.drop 0) 0 = rangeE L s from rfl)
  have HSt := hide (fun (i : Nat) (hi : i < n) => rangeF_step (s := s) (L := L) (i := i) (by omega))
  have HEnd := hide (show rangeF s (L.drop n) n = (0, 0) by rw [List.drop_of_length_le (by omega)]; rfl)
  generalize rangeE L s = res at *
  clear h hl
  go_enter Try.func22, Try.ntmps22
  go_wp2
  go_loopw [8, 6, 7] (fun y u v wr => ∃ (x : Int) (k f t : Nat), k ≤ n ∧ x = (k : Int) - 1 ∧ y = .int .i64 x ∧ u = .int .i64 (f : Int) ∧ v = .int .i64 (t : Int) ∧ rangeF s (L.drop k) k = (f, t) ∧ t ≤ n ∧ wr = w) (fun y _ _ _ => (intOf y + 1).toNat)
  case atStart => exact ⟨_, n, 0, 0, Nat.le_refl _, rfl, by go_num, rfl, rfl, HEnd.out, by omega, rfl⟩
  case round =>
    clear HEnd
    obtain ⟨x, k, f, t, hk, hx, rfl, rfl, rfl, hres, ht, rfl⟩ := hrel
    have HR := hide hres
    clear hres
    rcases Nat.eq_zero_or_pos k with h0 | h0
    · subst h0
      have hxI : ¬ (0 : Int) ≤ x := by omega
      have HF := hide (show res = (f, t) from H0.out.symm.trans HR.out)
      clear hx
      go_wp2
      go_ret2
      rw [HF.out]
      exact ⟨rfl, rfl⟩
    · obtain ⟨i, hi⟩ : ∃ i, k = i + 1 := ⟨k - 1, by omega⟩
      obtain rfl : x = (i : Int) := by omega
      have hiI : (i : Int) < (n : Int) := by omega
      have hi0 : (0 : Int) ≤ (i : Int) := by omega
      have hin : i < n := by omega
      rcases HA.out.2 with hn0 | ⟨b1, o1, rfl, _, hc1⟩
      · omega
      have e1 := hc1 i hin
      have hst := HSt.out i hin
      rw [hi] at HR
      rw [HR.out] at hst
      have C := refBegins_any (L.getD i []) s wr
      obtain ⟨y, hy⟩ : ∃ y, y = L.getD i [] := ⟨_, rfl⟩
      rw [← hy] at e1 hst C
      clear hc1 hy hx hi h0 hk HR
      cases hb : beginsB y s with
      | true =>
        rw [hb, if_pos rfl] at hst
        rw [hb] at C
        dsimp only at hst
        by_cases ht0 : t = 0
        · rw [if_pos ht0] at hst
          have HS := hide hst
          have htb : ((t : Int) == 0) = true := by simp [ht0]
          clear hst ht0 hb
          go_wp2_with fail
          refine C.mono ?_
          rintro e w2 ⟨rfl, rfl⟩
          go_wp2
          go_roundw
          case rel => exact ⟨_, i, i, i + 1, by omega, rfl, by go_num, rfl, by go_num, HS.out, by omega, trivial⟩
          case measure => simp [intOf]
        · rw [if_neg ht0] at hst
          have HS := hide hst
          have htb : ((t : Int) == 0) = false := by rw [beq_eq_false_iff_ne]; omega
          clear hst ht0 hb
          go_wp2_with fail
          refine C.mono ?_
          rintro e w2 ⟨rfl, rfl⟩
          go_wp2
          go_roundw
          case rel => exact ⟨_, i, i, t, by omega, rfl, by go_num, rfl, rfl, HS.out, by omega, trivial⟩
          case measure => simp [intOf]
      | false =>
        rw [hb, if_neg (by simp)] at hst
        rw [hb] at C
        have HS := hide hst
        clear hst hb
        go_wp2_with fail
        refine C.mono ?_
        rintro e w2 ⟨rfl, rfl⟩
        go_wp2
        go_roundw
        case rel => exact ⟨_, i, f, t, by omega, rfl, by go_num, rfl, rfl, HS.out, by omega, trivial⟩
        case measure => simp [intOf]
end Go.Proofs.Ytmaddohfkfnnhaa

